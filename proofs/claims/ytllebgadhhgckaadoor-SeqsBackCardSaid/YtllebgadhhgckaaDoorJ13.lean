/- Joined: Takes, InX, EpoW, SqsR1. -/
import Derived.WalkKit
import Derived.Deep.RegionHeld3
import Derived.Test.YtllebgadhhgckaaDoorJ12
import Derived.Test.YtllebgadhhgckaaDoorJ11
import Derived.Deep.DeepCutAuto
import Derived.Test.YtllebgadhhgckaaDoorJ01
/- A region that draws its order, operation by operation: one that is not wanted, one that only reckons, the only one that may come up. Nothing of the program. -/
namespace Go.Proofs.YtllebgadhhgckaaDoor.Bat
open Go.RowKit
section
variable {P : Program} {ops : Array Oper} {Q : Exit → Act → World → Prop} {md : Region.Mode}
theorem takeU (i : Nat) (oi : Oper) {fuel : Nat} {listed : Array Bool} {a : Act} {w : World} (hi : ops[i]? = some oi) (hs : Region.noSelect ops = true) (hf : Region.free md ops listed i = true) (hr : (Region.ready md ops listed).contains i = true)
    (hw : Region.wanted oi (yielded ops a.tmps) = false) (h : wpAnyH P md ops Q (fun _ => True) fuel (listed.setIfInBounds i true) (a.put oi.dst undef) w) (hQ : ∀ c a w, Q (.panic c) (a.put oi.dst undef) w → Q (.panic c) a w := by exact fun _ _ _ h => h) : wpAnyH P md ops Q (fun _ => True) (fuel + 1) listed a w :=
  wpAnyH_take hi hs hf hr hQ (Or.inr ⟨hw, rfl⟩) trivial h
theorem takeP (i : Nat) (oi : Oper) (v : Value) {fuel : Nat} {listed : Array Bool} {a : Act} {w : World} (hi : ops[i]? = some oi) (hs : Region.noSelect ops = true) (hf : Region.free md ops listed i = true) (hr : (Region.ready md ops listed).contains i = true)
    (hw : Region.wanted oi (yielded ops a.tmps) = true) (hy : ∀ w : World, True → (execOp a.eval oi).run P w = .ok (.value v) w) (h : wpAnyH P md ops Q (fun _ => True) fuel (listed.setIfInBounds i true) (a.put oi.dst v) w) (hQ : ∀ c a w, Q (.panic c) (a.put oi.dst v) w → Q (.panic c) a w := by exact fun _ _ _ h => h) : wpAnyH P md ops Q (fun _ => True) (fuel + 1) listed a w :=
  wpAnyH_take hi hs hf hr hQ (Or.inl ⟨hw, hy⟩) trivial h
theorem takeB (i : Nat) (oi : Oper) {fuel : Nat} {listed : Array Bool} {a : Act} {w : World} (hr : Region.ready md ops listed = [i]) (hi : ops[i]? = some oi)
    (h : ∀ K' : Act → World → Prop, Shut (∀ a w, (fun _ : World => True) w → ((fun _ : World => True) w → wpAnyH P md ops Q (fun _ => True) fuel (listed.setIfInBounds i true) a w) → K' a w) → if Region.wanted oi (yielded ops a.tmps) = true then Oper.wp P oi a w K' Q else K' (a.put oi.dst undef) w) : wpAnyH P md ops Q (fun _ => True) (fuel + 1) listed a w :=
  wpAnyH_ready hr (by simp) (AllReadyH.cons hi h AllReadyH.nil)
theorem tU (i d : Nat) {oi : Oper} {fuel : Nat} {listed : Array Bool} {a : Act} {w : World} (hi : ops[i]? = some oi) (h : wpAnyH P md ops Q (fun _ => True) fuel (listed.setIfInBounds i true) (a.put (some d) undef) w) (hd : oi.dst = some d := by rfl) (hs : Region.noSelect ops = true := by kernel_rfl) (hf : Region.free md ops listed i = true := by kernel_rfl)
    (hr : (Region.ready md ops listed).contains i = true := by kernel_rfl) (hw : Region.wanted oi (yielded ops a.tmps) = false := by rfl)
    (hQ : ∀ c a w, Q (.panic c) (a.put (some d) undef) w → Q (.panic c) a w := by exact fun _ _ _ h => h) : wpAnyH P md ops Q (fun _ => True) (fuel + 1) listed a w := by
  rw [← hd] at h hQ
  exact takeU i oi hi hs hf hr hw h hQ
theorem tP (i d : Nat) (v : Value) {oi : Oper} {fuel : Nat} {listed : Array Bool} {a : Act} {w : World} (hi : ops[i]? = some oi) (h : wpAnyH P md ops Q (fun _ => True) fuel (listed.setIfInBounds i true) (a.put (some d) v) w) (hd : oi.dst = some d := by rfl) (hs : Region.noSelect ops = true := by kernel_rfl) (hf : Region.free md ops listed i = true := by kernel_rfl)
    (hr : (Region.ready md ops listed).contains i = true := by kernel_rfl) (hw : Region.wanted oi (yielded ops a.tmps) = true := by rfl)
    (hy : ∀ w : World, True → (execOp a.eval oi).run P w = .ok (.value v) w := by (intro w hSw; simp only [List.getElem_toArray, List.getElem_cons_succ, List.getElem_cons_zero]; go_simp; (first | done | with_reducible rfl)))
    (hQ : ∀ c a w, Q (.panic c) (a.put (some d) v) w → Q (.panic c) a w := by exact fun _ _ _ h => h) : wpAnyH P md ops Q (fun _ => True) (fuel + 1) listed a w := by
  rw [← hd] at h hQ
  exact takeP i oi v hi hs hf hr hw hy h hQ
theorem regN (n : Nat) {id : Nat} {a : Act} {w : World} (hm : P.follows .mixedOrders = true) (h : wpAnyH P .any ops Q (fun _ => True) n (Array.replicate n false) a w.drew) (hn : ops.size = n := by kernel_rfl) : (Code.region id ops true).wp P Q a w :=
  wp_region_held_drew (S := fun _ => True) hm trivial (fun _ => by rw [hn]; exact h)
theorem uN (n s : Nat) {oi : Oper} {fuel : Nat} {listed : Array Bool} {a : Act} {w : World} (hi : ops[n - fuel]? = some oi) (h : wpAnyH P md ops Q (fun _ => True) fuel (listed.setIfInBounds (n - fuel) true) (a.put (some (n - fuel + s)) undef) w) (hd : oi.dst = some (n - fuel + s) := by rfl) (hs : Region.noSelect ops = true := by kernel_rfl) (hf : Region.free md ops listed (n - fuel) = true := by kernel_rfl)
    (hr : (Region.ready md ops listed).contains (n - fuel) = true := by kernel_rfl) (hw : Region.wanted oi (yielded ops a.tmps) = false := by rfl)
    (hQ : ∀ c a w, Q (.panic c) (a.put (some (n - fuel + s)) undef) w → Q (.panic c) a w := by exact fun _ _ _ h => h) : wpAnyH P md ops Q (fun _ => True) (fuel + 1) listed a w :=
  tU (n - fuel) (n - fuel + s) hi h hd hs hf hr hw hQ
theorem pN (n s : Nat) (v : Value) {oi : Oper} {fuel : Nat} {listed : Array Bool} {a : Act} {w : World} (hi : ops[n - fuel]? = some oi) (h : wpAnyH P md ops Q (fun _ => True) fuel (listed.setIfInBounds (n - fuel) true) (a.put (some (n - fuel + s)) v) w) (hd : oi.dst = some (n - fuel + s) := by rfl) (hs : Region.noSelect ops = true := by kernel_rfl) (hf : Region.free md ops listed (n - fuel) = true := by kernel_rfl)
    (hr : (Region.ready md ops listed).contains (n - fuel) = true := by kernel_rfl) (hw : Region.wanted oi (yielded ops a.tmps) = true := by rfl)
    (hy : ∀ w : World, True → (execOp a.eval oi).run P w = .ok (.value v) w := by (intro w hSw; simp only [Nat.reduceSub, List.getElem_toArray, List.getElem_cons_succ, List.getElem_cons_zero]; go_simp; (first | done | with_reducible rfl)))
    (hQ : ∀ c a w, Q (.panic c) (a.put (some (n - fuel + s)) v) w → Q (.panic c) a w := by exact fun _ _ _ h => h) : wpAnyH P md ops Q (fun _ => True) (fuel + 1) listed a w :=
  tP (n - fuel) (n - fuel + s) v hi h hd hs hf hr hw hy hQ
theorem tpu {a : Act} {d : Tmp} {v : Value} : a.put (some d) v = { a with tmps := a.tmps.setIfInBounds d v } := rfl
theorem tsa {α : Type} {l : List α} {i : Nat} {x : α} : l.toArray.setIfInBounds i x = (l.set i x).toArray := List.setIfInBounds_toArray l i x
theorem ts0 {α : Type} {x y : α} {l : List α} : (x :: l).set 0 y = y :: l := rfl
theorem ts1 {α : Type} {x y : α} {l : List α} {i : Nat} : (x :: l).set (i + 1) y = x :: l.set i y := rfl
end
end Go.Proofs.YtllebgadhhgckaaDoor.Bat

/- A region that draws its order, in few letters: each operation by its number; what can be reckoned is left to default arguments. Nothing of the program. -/
namespace Go.Proofs.YtllebgadhhgckaaDoor.InR
open Go.RowKit

section
variable {P : Program} {md : Region.Mode} {ops L : Array Oper} {Q : Act → World → Prop} {S : World → Prop} {k d fuel m n i : Nat} {w : World} {oi : Oper} {tbl : List (Nat × Nat)} {v : Value}
theorem xq (i : Nat) {l : List Value} {ds} (hL : Hid (ops = L)) (hR : Hid (Reg md L k n tbl)) (hS : S w) (h : chn P md ops Q S k fuel (m ||| 2 ^ i) (Act.mk (l.set d v).toArray ds) w) (hi : L[i]? = some oi := by rfl) (hok : okT n tbl m i = true := by kernel_rfl) (hw : Region.wanted oi (yielded L l.toArray) = true := by kernel_rfl) (hd : oi.dst = some d := by rfl)
    (hy : ∀ w, S w → (execOp (Act.mk l.toArray ds).eval oi).run P w = .ok (.value v) w := by (intro w9 hS9; go_simp; (first | done | with_reducible rfl))) : chn P md ops Q S k (fuel + 1) m (Act.mk l.toArray ds) w := stepTQ hL hR i _ v rfl hi hok hw hd hy hS h
theorem xu (i : Nat) {l : List Value} {ds} (hL : Hid (ops = L)) (hR : Hid (Reg md L k n tbl)) (hS : S w) (h : chn P md ops Q S k fuel (m ||| 2 ^ i) (Act.mk (l.set d undef).toArray ds) w) (hi : L[i]? = some oi := by rfl) (hok : okT n tbl m i = true := by kernel_rfl) (hw : Region.wanted oi (yielded L l.toArray) = false := by kernel_rfl) (hd : oi.dst = some d := by rfl) :
    chn P md ops Q S k (fuel + 1) m (Act.mk l.toArray ds) w := stepTU hL hR i _ rfl hi hok hw hd hS h
theorem xc (i : Nat) {a : Act} (hL : Hid (ops = L)) (h : Oper.wp P oi a w (fun a' w' => S w' ∧ chn P md ops Q S k fuel (m ||| 2 ^ i) a' w') (Nrm (lift Q))) (hi : L[i]? = some oi := by rfl) (hok : okC md L m i = true := by kernel_rfl) (hw : Region.wanted oi (yielded L a.tmps) = true := by kernel_rfl) : chn P md ops Q S k (fuel + 1) m a w :=
  stepC hL i _ rfl hi hok hw (Oper.wp_mono (fun _ _ h => ⟨fun _ => h.1, h.2⟩) h)
theorem ls0 {x y : Value} {l : List Value} : (x :: l).set 0 y = y :: l := rfl
theorem ls1 {x y : Value} {l : List Value} {i : Nat} : (x :: l).set (i + 1) y = x :: l.set i y := rfl
end
end Go.Proofs.YtllebgadhhgckaaDoor.InR

/- Words for the walks of layer 10: boxes, cells of a row. Nothing of the program. -/
namespace Go.Proofs.YtllebgadhhgckaaDoor.Epo
open Go.RowKit Oct RowF Lay

section
variable {W X w w' : World} {g o : Nat} {cs : List Value} {e : TypeId} {a b : Value}
def At0 (W : World) (g : Nat) (cs : List Value) (e : TypeId) : Prop := W.heap[g]? = some (.cells cs.toArray e (0, 0))
theorem At0.lt (h : At0 W g cs e) : g < W.heap.size := (Array.getElem?_eq_some_iff.1 h).1
theorem At0.new (W : World) (cs : List Value) (e : TypeId) : At0 (W.alloc (.cells cs.toArray e)) W.heap.size cs e := World.alloc_heap_new W _
theorem At0.below (h : At0 W g cs e) (hb : Below W.heap.size W X) : At0 X g cs e := (hb.block g h.lt).trans h
theorem At0.cell (h : At0 W g cs e) (j : Nat) : W.cell? ⟨g, j, none⟩ = cs[j]? := by rw [cell_of_row _ _ _ _ e _ h]; simp
theorem At0.frozen (h : At0 W g cs e) (j : Nat) : W.frozen? ⟨g, j, none⟩ = false := frozen_of_row W g j _ e h
def AtO (W : World) (g o : Nat) (cs : List Value) : Prop := g < W.heap.size ∧ ∀ j v, cs[j]? = some v → W.cell? ⟨g, o + j, none⟩ = some v
theorem AtO.below (h : AtO W g o cs) (hb : Below W.heap.size W X) : AtO X g o cs := ⟨Nat.lt_of_lt_of_le h.1 hb.size, fun j v hv => (hb.cell (p := ⟨g, o + j, none⟩) h.1).trans (h.2 j v hv)⟩
theorem AtO.two (hl : g < W.heap.size) (h0 : W.cell? ⟨g, o, none⟩ = some a) (h1 : W.cell? ⟨g, o + 1, none⟩ = some b) : AtO W g o [a, b] := by
  refine ⟨hl, fun j x hx => ?_⟩
  match j, hx with
  | 0, hx => obtain rfl : a = x := Option.some.inj hx; exact h0
  | 1, hx => obtain rfl : b = x := Option.some.inj hx; exact h1
theorem belA (w : World) (o : Obj) : Below w.heap.size w (w.alloc o) := (Below.refl _ _).alloc (Nat.le_refl _) o
theorem bel_trans {w1 w2 : World} (h : Below w.heap.size w w1) (h2 : Below w1.heap.size w1 w2) : Below w.heap.size w w2 := h.trans (h2.mono h.size)
end
end Go.Proofs.YtllebgadhhgckaaDoor.Epo

/- The document's did, Check, Find, last. -/
namespace Go.Proofs.YtllebgadhhgckaaDoor.Sqs
open Go.RowKit Oct RowF RowK Lay Bat
open Epo (At0 belA)

theorem didK {w : World} {B n k b o : Nat} {l : List Dd} {x : Dd} (h : RdD w B (some ⟨b, o, none⟩) n l) (hx : l[k]? = some x) : b < B ∧ w.cell? ⟨b, o + k * 3, none⟩ = some (.int .i64 x.sq) ∧ w.cell? ⟨b, o + k * 3 + 1, none⟩ = some (.int .i64 x.la) ∧ w.cell? ⟨b, o + k * 3 + 2, none⟩ = some (.int .i64 x.ba) := by
  obtain ⟨b', o', hA, hb, hc⟩ := h.2 k x hx
  obtain ⟨rfl, rfl⟩ : b = b' ∧ o = o' := by simpa using hA
  exact ⟨hb, hc 0 _ rfl, hc 1 _ rfl, hc 2 _ rfl⟩
theorem prK {w : World} {B n k b o : Nat} {l : List Pd} {x : Pd} (h : RdP w B (some ⟨b, o, none⟩) n l) (hx : l[k]? = some x) : b < B ∧ w.cell? ⟨b, o + k * 3, none⟩ = some (.int .i64 x.pid) ∧ w.cell? ⟨b, o + k * 3 + 1, none⟩ = some (.int .i64 x.gen) := by
  obtain ⟨b', o', A', n', c', hA, hb, _, _, _, hc⟩ := h.2 k x hx
  obtain ⟨rfl, rfl⟩ : b = b' ∧ o = o' := by simpa using hA
  exact ⟨hb, hc 0 _ rfl, hc 1 _ rfl⟩
theorem rddUp {w w' : World} {A : Option Addr} {n : Nat} {l : List Dd} (h : RdD w w.heap.size A n l) (hb : Below w.heap.size w w') : RdD w' w'.heap.size A n l := (RdF.below h hb (Nat.le_refl _)).more hb.size
def prvD (l : List Dd) : Nat → Option Int
  | 0 => none
  | k + 1 => (l[k]?).map Dd.la
theorem chD_at {l : List Dd} {k : Nat} {x : Dd} {o : Option Int} (hk : l[k]? = some x) : chD o (l.drop k) = ((ddOk x && nextD o x) && chD (some x.la) (l.drop (k + 1))) := by
  rw [List.drop_eq_getElem_cons (List.getElem?_eq_some_iff.1 hk).1, (List.getElem?_eq_some_iff.1 hk).2]
  rfl
def didRel (l : List Dd) (n : Nat) (w : World) (iv : Value) (wr : World) : Prop :=
  ∃ k : Nat, iv = .int .i64 (k : Int) ∧ k ≤ n ∧ chD none l = chD (prvD l k) (l.drop k) ∧ (∀ y, 0 < k → l[k - 1]? = some y → 0 ≤ y.la ∧ y.la ≤ 1048576) ∧ Below w.heap.size w wr
set_option maxRecDepth 100000 in
set_option maxHeartbeats 8000000 in
theorem rdid_is (A : Option Addr) (n c : Nat) (l : List Dd) (w : World) (hr : RdD w w.heap.size A n l) (hn : n ≤ reach) {z : Bool} (hz : didOk l = z) :
    Calls Tryd.prog 42 #[.slice A n c] w fun e w' => e = .returned (.bool z) ∧ Below w.heap.size w w' := by
  have HR := Lib.hid hr
  have HLEN := Lib.hid hr.len
  have HZ := Lib.hid hz
  have hn9 : n ≤ 140737488351232 := hn
  clear hr hz hn
  go_enter Tryd.func42, Tryd.ntmps42
  go_wp2
  go_loopw [3] (fun iv wr => didRel l n w iv wr) (fun iv _ => n - (intOf iv).toNat)
  case atStart => exact ⟨0, rfl, Nat.zero_le _, rfl, fun y h => absurd h (Nat.lt_irrefl _), Below.refl _ _⟩
  case round =>
    obtain ⟨k, rfl, hk, hch, hpv, hb⟩ := hrel
    have HCH := Lib.hid hch
    have HPV := Lib.hid hpv
    have HB0 := Lib.hid hb
    have HR0 := Lib.hid (rddUp HR.out hb)
    clear hch hb hpv
    by_cases hlt : k < n
    · obtain ⟨b, o, ⟨x0, x1, x2⟩, rfl, hbl, hxk, d0, d1, d2⟩ := did_at HR0.out hlt
      simp only at d0 d1 d2
      have HX := Lib.hid hxk
      have HAT := Lib.hid (chD_at (o := prvD l k) hxk)
      have hw1 : IntKind.i64.wrap ((k : Int) + 1) = (k : Int) + 1 := IntWalk.i64_in _ (by omega)
      have hkl : (k : Int) < (n : Int) := by omega
      have hk0 : (0 : Int) ≤ (k : Int) := by omega
      go_upto_region 5 with fail
      have hba := belA wr (.cells #[.int .i64 x0, .int .i64 x1, .int .i64 x2] 58)
      have HB1 := Lib.hid (bel_trans HB0.out hba)
      have HR1 := Lib.hid (rddUp HR0.out hba)
      have hat := At0.new wr [.int .i64 x0, .int .i64 x1, .int .i64 x2] 58
      have q0 := hat.cell 0
      have q1 := hat.cell 1
      have q2 := hat.cell 2
      simp only [List.getElem?_cons_zero, List.getElem?_cons_succ] at q0 q1 q2
      clear hba d0 d1 d2 hxk hat hbl
      generalize (wr.alloc (.cells #[.int .i64 x0, .int .i64 x1, .int .i64 x2] 58)) = W at *
      have HBAD := Lib.hid (show (ddOk ⟨x0, x1, x2⟩ && nextD (prvD l k) ⟨x0, x1, x2⟩) = false → z = false from fun h9 => by rw [← HZ.out]; unfold didOk; rw [HCH.out, HAT.out, h9]; rfl)
      have HGOOD := Lib.hid (show (ddOk ⟨x0, x1, x2⟩ && nextD (prvD l k) ⟨x0, x1, x2⟩) = true → chD none l = chD (prvD l (k + 1)) (l.drop (k + 1)) from fun h9 => by rw [HCH.out, HAT.out, h9, Bool.true_and]; show _ = chD ((l[k]?).map Dd.la) _; rw [HX.out]; rfl)
      by_cases g1 : x0 < 0
      · have HZF := Lib.hid (HBAD.out (by have h9 : ddOk ⟨x0, x1, x2⟩ = false := (by unfold ddOk; exact decide_eq_false (by simp only; omega)); rw [h9]; rfl))
        go_region
        go_wp2
        go_ret
        exact ⟨by rw [HZF.out]; rfl, bel_drew HB1.out⟩
      by_cases g2 : x1 < x0
      · have HZF := Lib.hid (HBAD.out (by have h9 : ddOk ⟨x0, x1, x2⟩ = false := (by unfold ddOk; exact decide_eq_false (by simp only; omega)); rw [h9]; rfl))
        go_region
        go_wp2
        go_ret
        exact ⟨by rw [HZF.out]; rfl, bel_drew HB1.out⟩
      by_cases g3 : 1048576 < x1
      · have HZF := Lib.hid (HBAD.out (by have h9 : ddOk ⟨x0, x1, x2⟩ = false := (by unfold ddOk; exact decide_eq_false (by simp only; omega)); rw [h9]; rfl))
        go_region
        go_wp2
        go_ret
        exact ⟨by rw [HZF.out]; rfl, bel_drew HB1.out⟩
      by_cases g4 : x2 < 0
      · have HZF := Lib.hid (HBAD.out (by have h9 : ddOk ⟨x0, x1, x2⟩ = false := (by unfold ddOk; exact decide_eq_false (by simp only; omega)); rw [h9]; rfl))
        go_region
        go_wp2
        go_ret
        exact ⟨by rw [HZF.out]; rfl, bel_drew HB1.out⟩
      by_cases g5 : 1099511627776 < x2
      · have HZF := Lib.hid (HBAD.out (by have h9 : ddOk ⟨x0, x1, x2⟩ = false := (by unfold ddOk; exact decide_eq_false (by simp only; omega)); rw [h9]; rfl))
        go_region
        go_wp2
        go_ret
        exact ⟨by rw [HZF.out]; rfl, bel_drew HB1.out⟩
      have HOK := Lib.hid (show ddOk ⟨x0, x1, x2⟩ = true from by unfold ddOk; exact decide_eq_true (by simp only; omega))
      rcases Nat.eq_zero_or_pos k with hkz | hkp
      · have HG := Lib.hid (HGOOD.out (by rw [HOK.out, hkz]; rfl))
        subst hkz
        go_big_region
        go_wp2
        go_roundw
        case rel => exact ⟨0 + 1, by go_num, by omega, HG.out, fun y _ hy => by rw [Nat.add_sub_cancel, HX.out] at hy; obtain rfl := Option.some.inj hy; simp only; omega, bel_drew HB1.out⟩
        case measure => simp [intOf]; omega
      · obtain ⟨⟨y0, y1, y2⟩, hyk⟩ : ∃ y, l[k - 1]? = some y := ⟨l[k - 1]'(by have := HLEN.out; omega), List.getElem?_eq_getElem _⟩
        obtain ⟨_, _, e1, _⟩ := didK HR1.out hyk
        have hyr := HPV.out _ hkp hyk
        have HPR := Lib.hid (show prvD l k = some y1 from by
          obtain ⟨j, rfl⟩ : ∃ j, k = j + 1 := ⟨k - 1, by omega⟩
          show (l[j]?).map Dd.la = _
          rw [Nat.add_sub_cancel] at hyk; rw [hyk]; rfl)
        simp only at e1 hyr
        have hk9 : (0 : Int) < (k : Int) := by omega
        have hw2 : IntKind.i64.wrap ((k : Int) - 1) = (k : Int) - 1 := IntWalk.i64_in _ (by omega)
        have hp1 : (0 : Int) ≤ (k : Int) - 1 := by omega
        have hp2 : (1 : Int) ≤ (k : Int) := by omega
        have hp3 : (k : Int) - 1 < (n : Int) := by omega
        have hp5 : ((k : Int) - 1).toNat = k - 1 := by omega
        have hw3 : IntKind.i64.wrap (y1 + 1) = y1 + 1 := IntWalk.i64_in _ (by omega)
        clear hyk
        by_cases hne : x0 = y1 + 1
        · have hq : (x0 == y1 + 1) = true := beq_iff_eq.2 hne
          have HG := Lib.hid (HGOOD.out (by rw [HOK.out, HPR.out]; exact decide_eq_true hne))
          clear hne
          go_big_region
          go_wp2
          go_roundw
          case rel => exact ⟨k + 1, by go_num, by omega, HG.out, fun y _ hy => by rw [Nat.add_sub_cancel, HX.out] at hy; obtain rfl := Option.some.inj hy; simp only; omega, bel_drew HB1.out⟩
          case measure => simp [intOf]; omega
        · have hq : (x0 == y1 + 1) = false := beq_eq_false_iff_ne.2 hne
          have HZF := Lib.hid (HBAD.out (by rw [HOK.out, HPR.out]; exact decide_eq_false hne))
          clear hne
          go_big_region
          go_wp2
          go_ret
          exact ⟨by rw [HZF.out]; rfl, bel_drew HB1.out⟩
    · have hkn : k = n := by omega
      subst hkn
      have HE := Lib.hid (show z = decide ((k : Int) ≤ 5) from by
        rw [← HZ.out]
        unfold didOk
        rw [HCH.out, List.drop_of_length_le (by rw [HLEN.out]; exact Nat.le_refl _), HLEN.out]
        show (true && _) = _
        rw [Bool.true_and]
        exact decide_eq_decide.2 (by omega))
      go_wp2
      go_ret
      exact ⟨by rw [HE.out]; rfl, HB0.out⟩
theorem didOk_long {l : List Dd} (h : 5 < l.length) : didOk l = false := by unfold didOk; rw [decide_eq_false (by omega), Bool.and_false]
end Go.Proofs.YtllebgadhhgckaaDoor.Sqs
