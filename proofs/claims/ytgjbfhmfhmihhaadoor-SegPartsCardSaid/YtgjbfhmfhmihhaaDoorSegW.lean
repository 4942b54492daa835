/- Joined: SegW. -/
import Derived.Test.YtgjbfhmfhmihhaaDoorSegMath2
import Derived.Test.YtgjbfhmfhmihhaaDoorSegA
import Derived.Test.YtgjbfhmfhmihhaaDoorSegS
import Derived.Test.YtgjbfhmfhmihhaaDoorSegF
import Derived.Test.YtgjbfhmfhmihhaaDoorSegAt
import Derived.Test.YtgjbfhmfhmihhaaDoorSegRS
import Derived.Test.YtgjbfhmfhmihhaaDoorJOct
import Derived.Test.YtgjbfhmfhmihhaaDoorJBatK
/- Words for the walks of layer 7's laws: the contracts with their answers named, what is carried from world to world. -/
namespace Go.Proofs.YtgjbfhmfhmihhaaDoor.Seg
open Go.RowKit Go.Proofs.YtgjbfhmfhmihhaaDoor.Oct Go.Proofs.YtgjbfhmfhmihhaaDoor.Rec Go.Proofs.YtgjbfhmfhmihhaaDoor.Crc Go.Proofs.YtgjbfhmfhmihhaaDoor.Bat Go.Proofs.YtgjbfhmfhmihhaaDoor.Lay

theorem rdUp {w w' : World} {A : Option Addr} {n : Nat} {l : List UInt8} (h : Rd w w.heap.size A n l) (hb : Below w.heap.size w w') : Rd w' w'.heap.size A n l := (h.below hb (Nat.le_refl _)).more hb.size
theorem rdtUp {w w' : World} {A : Option Addr} {n : Nat} {l : List Bt} (h : RdT w w.heap.size A n l) (hb : Below w.heap.size w w') : RdT w' w'.heap.size A n l := (h.below hb (Nat.le_refl _)).more hb.size
theorem rdlUp {w w' : World} {A : Option Addr} {n : Nat} {l : List Bt} (h : RdL w w.heap.size A n l) (hb : Below w.heap.size w w') : RdL w' w'.heap.size A n l := (h.below hb (Nat.le_refl _)).more hb.size
theorem belA (w : World) (o : Obj) : Below w.heap.size w (w.alloc o) := bel_alloc (Below.refl _ _) o
theorem same_self (b : Int) (xs : List UInt8) : (decide (b = b) && sameB xs xs) = true := by rw [sameB_self]; simp
theorem rdr_nil (w : World) (B : Nat) : RdR w B none 0 [] := ⟨rfl, by simp⟩
section
variable {A : Option Addr} {n c : Nat} {base : Int} {bs : List UInt8} {w : World}
theorem Scan_is {L : List Bt} {g : Nat} (h : sc base bs = (L, g)) (hr : Rd w w.heap.size A n bs) (hc : n ≤ c) (hn : n ≤ 137438953472) (hI : I64 base) (ht : Tab w) :
    Calls Tryd.prog 15 #[.agg #[.int .i64 base, .slice A n c]] w (RSc w L g) := by
  have h1 := callsIn_wide.1 (Scan_in A n c base bs w hr hc hn hI ht)
  rw [h] at h1
  exact h1
theorem End_is {E : Int} (h : endS ⟨base, bs⟩ = E) (hr : Rd w w.heap.size A n bs) (hc : n ≤ c) (hn : n ≤ 137438953472) (hI : I64 base) (ht : Tab w) :
    Calls Tryd.prog 20 #[.agg #[.int .i64 base, .slice A n c]] w fun e w' => e = .returned (.int .i64 E) ∧ Below w.heap.size w w' := by
  subst h; exact End_any A n c base bs w hr hc hn hI ht
def TSg (w : World) (xb : Int) (xs : List UInt8) (xe : Int) (en : Ending) (w' : World) : Prop :=
  ∃ A n c, en = .returned (.tuple #[.agg #[.int .i64 xb, .slice A n c], .int .i64 xe]) ∧ OwnB w' 5 w.heap.size (.slice A n c) n xs ∧ Below w.heap.size w w'
def TS (w : World) (xb : Int) (xs : List UInt8) (en : Ending) (w' : World) : Prop :=
  ∃ A n c, en = .returned (.agg #[.int .i64 xb, .slice A n c]) ∧ OwnB w' 5 w.heap.size (.slice A n c) n xs ∧ Below w.heap.size w w'
section
variable {xb xe : Int} {xs : List UInt8}
theorem New_is (h : newS base = (⟨xb, xs⟩, xe)) : Calls Tryd.prog 30 #[.int .i64 base] w (TSg w xb xs xe) := by
  have h1 := New_any base w
  rw [h] at h1
  exact h1
theorem Fix_is (h : fixS ⟨base, bs⟩ = (⟨xb, xs⟩, xe)) (hr : Rd w w.heap.size A n bs) (hc : n ≤ c) (hn : n ≤ 137438953472) (hI : I64 base) (ht : Tab w) :
    Calls Tryd.prog 17 #[.agg #[.int .i64 base, .slice A n c]] w (TSg w xb xs xe) := by
  have h1 := Fix_any A n c base bs w hr hc hn hI ht
  rw [h] at h1
  exact h1
theorem Append_is {ba la fr ep pi ge se : Int} {tx : Bool} {ct : Int} {rs : List Rc} {A4 : Option Addr} {n4 c4 : Nat} {limit : Int} (h : apS ⟨base, bs⟩ ⟨ba, la, fr, ep, pi, ge, se, tx, ct, rs⟩ limit = (⟨xb, xs⟩, xe)) (hr : Rd w w.heap.size A n bs) (hc : n ≤ c) (hn : n ≤ 137438953472) (hI : I64 base)
    (hf : Fits ⟨ba, la, fr, ep, pi, ge, se, tx, ct, rs⟩) (hrb : RdR w w.heap.size A4 n4 rs) (hn4 : n4 ≤ 1099511627776) (ht : Tab w) :
    Calls Tryd.prog 25 #[.agg #[.int .i64 base, .slice A n c], .agg #[.int .i64 ba, .int .i64 la, .int .i64 fr, .int .i64 ep, .int .i64 pi, .int .i64 ge, .int .i64 se, .bool tx, .int .i64 ct, .slice A4 n4 c4], .int .i64 limit] w (TSg w xb xs xe) := by
  have h1 := Append_any A n c base bs ba la fr ep pi ge se tx ct rs A4 n4 c4 limit w hr hc hn hI hf hrb hn4 ht
  rw [h] at h1
  exact h1
end
end
def At1 (W : World) (g : Nat) (cs : List Value) : Prop := g < W.heap.size ∧ ∀ j v, cs[j]? = some v → W.cell? ⟨g, j, none⟩ = some v
theorem At1.below {W X : World} {g : Nat} {cs : List Value} (h : At1 W g cs) (hb : Below W.heap.size W X) : At1 X g cs := ⟨Nat.lt_of_lt_of_le h.1 hb.size, fun j v hv => (hb.cell (p := ⟨g, j, none⟩) h.1).trans (h.2 j v hv)⟩
theorem At1.two {W : World} {g : Nat} {u v : Value} (hl : g < W.heap.size) (h0 : W.cell? ⟨g, 0, none⟩ = some u) (h1 : W.cell? ⟨g, 1, none⟩ = some v) : At1 W g [u, v] := by
  refine ⟨hl, fun j x hx => ?_⟩
  match j, hx with
  | 0, hx => obtain rfl : u = x := Option.some.inj hx; exact h0
  | 1, hx => obtain rfl : v = x := Option.some.inj hx; exact h1
def bumpRel (e8 eS : TypeId) (N : Nat) (A : Option Addr) (n c : Nat) (xb : Int) (X : Nat) (w0 : World) (i : Value) (wr : World) : Prop :=
  ∃ j : Nat, i = .int .i64 (j : Int) ∧ j ≤ n ∧ (∃ l', OwnB wr e8 N (.slice A n c) n l') ∧ At0 wr X [.int .i64 xb, .slice A n c] eS ∧ (∀ g, (Value.slice A n c).ownBlock = some g → g ≠ X) ∧ Below N w0 wr

/-! ### the laws' own live -/
def exC : Bt := ⟨6, 6, 0, 0, -1, 0, 0, false, 0, []⟩
theorem exC_form : Bat.form exC = true := by decide +kernel
theorem exC_body : (body exC).length ≤ 60 := by
  unfold body exC hd tl
  simp only [vs]
  repeat rw [vb_small (by decide)]
  decide +kernel
theorem exC_ch : chB exC = 0 := by
  have h := byB_length exC
  have h2 := exC_body
  unfold chB
  rw [if_pos exC_form, if_neg (by omega)]
theorem exC_fits : Fits exC := by
  refine ⟨?_, ?_, ?_, ?_, ?_, ?_, ?_, ?_, ?_⟩
  case refine_9 => intro r hr; simp [exC] at hr
  all_goals (unfold I64 exC; simp)
theorem exC_len : (byB exC).length ≤ 100 := by
  have h := byB_length exC
  have h2 := exC_body
  omega
theorem exC_ris : ris 5 [exC] = true := ris_cons.2 ⟨⟨exC_ch, by decide⟩, rfl⟩
theorem exC_new : newS 5 = (⟨5, []⟩, 0) := by unfold newS; rw [if_neg (by decide)]
theorem exC_end0 : endS ⟨5, []⟩ = 5 := by unfold endS batS; rw [sc_nil]; rfl
theorem exC_whole : wholeS ⟨5, []⟩ = true := by simp [wholeS, goodS, sc_nil]
theorem exC_ap : apS ⟨5, []⟩ exC 100 = (⟨5, byB exC⟩, 0) := by
  have h := exC_len
  unfold apS
  rw [exC_whole, exC_end0, if_neg (by simp), if_neg (by rw [exC_ch]; simp), if_neg (by decide), if_neg (by simp; omega)]
  rfl
theorem exC_byR : byR [exC] = byB exC := by rw [byR_cons, byR_nil, List.append_nil]
theorem exC_sc : sc 5 (byB exC) = ([exC], (byB exC).length) := by rw [← exC_byR]; exact sc_whole exC_ris
theorem exC_end : endS ⟨5, byB exC⟩ = 7 := by unfold endS batS; rw [exC_sc]; rfl
set_option maxRecDepth 100000 in
set_option maxHeartbeats 2000000 in
theorem live_any (w : World) (ht : Tab w) : Calls Tryd.prog 12 #[] w fun e w' => e = .returned (.bool true) ∧ Below w.heap.size w w' := by
  have HT0 := Lib.hid ht
  have HAP := Lib.hid exC_ap
  have HSC := Lib.hid exC_sc
  have HEN := Lib.hid exC_end
  have HFI := Lib.hid exC_fits
  have HLN := Lib.hid exC_len
  obtain ⟨Y, hY⟩ : ∃ Y, Y = byB exC := ⟨_, rfl⟩
  rw [← hY] at HAP HSC HEN HLN
  have hI5 : I64 5 := by unfold I64; omega
  unfold exC at HAP HSC HFI
  clear ht hY
  go_enter Tryd.func12, Tryd.ntmps12
  go_wp2_with (first
    | (go_at_call 30; (with_reducible refine (New_is exC_new).mono ?_); rintro e w1 ⟨A1, n1, c1, rfl, ho1, hb1⟩; have hcap1 := ho1.cap; have hl1 := ho1.len; have hn1 : n1 ≤ 137438953472 := (by simp at hl1; omega); have HA1 := Lib.hid (belA w1 (.cells #[.int .i64 5, .slice A1 n1 c1] 24)); have HR1 := Lib.hid (rdUp ho1.rd HA1.out); have HT1 := Lib.hid ((HT0.out.bel hb1).bel HA1.out); have HS1 := Lib.hid (At0.new w1 [.int .i64 5, .slice A1 n1 c1] 24); have HB1 := Lib.hid (bel_trans hb1 HA1.out); clear ho1 hb1 hl1)
    | (go_at_call 25; (with_reducible refine (Append_is HAP.out HR1.out hcap1 hn1 hI5 HFI.out (rdr_nil _ _) (Nat.zero_le _) HT1.out).mono ?_); rintro e w2 ⟨A2, n2, c2, rfl, ho2, hb2⟩; have hcap2 := ho2.cap; have hl2 := ho2.len; have hn2 : n2 ≤ 137438953472 := (by have := HLN.out; omega); have HA2 := Lib.hid (belA w2 (.cells #[.int .i64 5, .slice A2 n2 c2] 24)); have HR2 := Lib.hid (rdUp ho2.rd HA2.out); have HT2 := Lib.hid ((HT1.out.bel hb2).bel HA2.out); have HR12 := Lib.hid (rdUp (rdUp HR1.out hb2) HA2.out); have HS12 := Lib.hid ((HS1.out.below hb2).below HA2.out); have HS2 := Lib.hid (At0.new w2 [.int .i64 5, .slice A2 n2 c2] 24); have HB2 := Lib.hid (bel_trans (bel_trans HB1.out hb2) HA2.out); clear ho2 hb2 hl2)
    | (go_at_call 15; (with_reducible refine (Scan_is HSC.out HR2.out hcap2 hn2 hI5 HT2.out).mono ?_); rintro e w3 ⟨A3, n3, c3, rfl, ho3, hb3⟩; obtain rfl : 1 = n3 := ho3.len; obtain ⟨b, o, x, A4, n4, c4, rfl, hbl, hxk, _, _, _, _, _⟩ := ho3.rd.at (k := 0) Nat.one_pos; have HR3 := Lib.hid ho3.rd; have HR13 := Lib.hid (rdUp HR12.out hb3); have HR23 := Lib.hid (rdUp HR2.out hb3); have HT3 := Lib.hid (HT2.out.bel hb3); have HS13 := Lib.hid (HS12.out.below hb3); have HS23 := Lib.hid (HS2.out.below hb3); have HB3 := Lib.hid (bel_trans HB2.out hb3); have s0 : w3.cell? ⟨w1.heap.size, 0, none⟩ = some (.int .i64 5) := HS13.out.cell 0; have s1 : w3.cell? ⟨w1.heap.size, 1, none⟩ = some (.slice A1 n1 c1) := HS13.out.cell 1; clear ho3 hb3 hbl hxk)
    | (go_at_call 20; (with_reducible refine (End_is exC_end0 HR13.out hcap1 hn1 hI5 HT3.out).mono ?_); rintro e w4 ⟨rfl, hb4⟩; have HR4 := Lib.hid (rdtUp HR3.out hb4); have HR24 := Lib.hid (rdUp HR23.out hb4); have HT4 := Lib.hid (HT3.out.bel hb4); have HS24 := Lib.hid (HS23.out.below hb4); have HB4 := Lib.hid (bel_trans HB3.out hb4); have x0 : w4.cell? ⟨w2.heap.size, 0, none⟩ = some (.int .i64 5) := HS24.out.cell 0; have x1 : w4.cell? ⟨w2.heap.size, 1, none⟩ = some (.slice A2 n2 c2) := HS24.out.cell 1; clear hb4)
    | (go_at_call 20; (with_reducible refine (End_is HEN.out HR24.out hcap2 hn2 hI5 HT4.out).mono ?_); rintro e w5 ⟨rfl, hb5⟩; have HB5 := Lib.hid (bel_trans HB4.out hb5); obtain ⟨b', o', x', A5, n5, c5, hA5, _, hxk, _, _, _, _, hcell⟩ := (rdtUp HR4.out hb5).at (k := 0) Nat.one_pos; injection hA5 with hA5; injection hA5 with hA6 hA7; subst hA6 hA7; obtain rfl : _ = x' := Option.some.inj hxk; have q0 : w5.cell? ⟨b, o, none⟩ = some (.int .i64 6) := (by have h := hcell 0 _ rfl; simpa using h); clear hb5 hcell hxk))
  go_ret
  exact ⟨rfl, HB5.out⟩
end Go.Proofs.YtgjbfhmfhmihhaaDoor.Seg
