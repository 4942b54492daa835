/- Joined: BatDevK, BatBox, BatFew, BatRefF, BatRefH, BatRefK, BatIs, SqsR5. -/
import Derived.Test.YtllebgadhhgckaaDoorJ24
import Derived.Test.YtllebgadhhgckaaDoorJ26
import Derived.Test.YtllebgadhhgckaaDoorJ27
import Derived.LoopTactic
import Derived.Test.YtllebgadhhgckaaDoorJ21
import Derived.Test.YtllebgadhhgckaaDoorJ25
import Derived.Test.YtllebgadhhgckaaDoorJ15
import Derived.Test.YtllebgadhhgckaaDoorJ19
/- The contracts of the landed bodyOf, Check, Size and Put. -/
namespace Go.Proofs.YtllebgadhhgckaaDoor.Bat
open Go.RowKit Oct Rec Crc

theorem body_few {b : Bt} (hF : Form b) : (body b).length ≤ 1000000 := by
  have h1 := vs_ten hF.heads
  have h2 := hF.few
  have h3 := vb_ten (zz_lt (n := (b.recs.length : Int)) (by omega))
  have h4 : (tl b.base b.recs).length ≤ 10 + 145 * b.recs.length := by
    cases hr : b.recs with
    | nil => simp [tl]
    | cons x l =>
      have hm := hF.mays
      rw [hr] at hm
      have hx := may_iff.1 (hm x (by simp))
      have h5 := rs_145 (st := x.stamp) hm (inR_iff.2 ⟨hF.base0, hF.base1⟩) (inR_iff.2 hx.2.1)
      have h6 := vb_ten (zz_lt (n := x.stamp) (by omega))
      rw [tl, List.length_append]
      omega
  unfold body
  simp only [List.length_append, List.length_singleton]
  simp only [hd, List.length_cons, List.length_nil] at h1 ⊢
  omega
def boB (b : Bt) : List UInt8 := if chB b = 0 then body b else []
set_option maxRecDepth 100000 in
set_option maxHeartbeats 4000000 in
theorem bodyOf_any (ba la fr ep pi ge se : Int) (tx : Bool) (ct : Int) (rs : List Rc) (A : Option Addr) (n c : Nat) (w : World) (hF : Fits ⟨ba, la, fr, ep, pi, ge, se, tx, ct, rs⟩) (hr : RdR w w.heap.size A n rs) (hn : n ≤ 1099511627776) :
    Calls Tryd.prog 63 #[.agg #[.int .i64 ba, .int .i64 la, .int .i64 fr, .int .i64 ep, .int .i64 pi, .int .i64 ge, .int .i64 se, .bool tx, .int .i64 ct, .slice A n c]] w (OPr 5 w.heap.size w (boB ⟨ba, la, fr, ep, pi, ge, se, tx, ct, rs⟩) (chB ⟨ba, la, fr, ep, pi, ge, se, tx, ct, rs⟩)) := by
  have hb0 := bel_alloc (Below.refl w.heap.size w) (.cells #[.int .i64 ba, .int .i64 la, .int .i64 fr, .int .i64 ep, .int .i64 pi, .int .i64 ge, .int .i64 se, .bool tx, .int .i64 ct, .slice A n c] 25)
  have hrA : ∀ w', Below w.heap.size w w' → RdR w' w'.heap.size A n rs := fun w' hb => (hr.below hb (Nat.le_refl _)).more hb.size
  have HB0 := Lib.hid hb0
  have HRA := Lib.hid hrA
  have HFT := Lib.hid hF
  have HBX := Lib.hid (boxB_new w 25 ⟨ba, la, fr, ep, pi, ge, se, tx, ct, rs⟩ (.slice A n c))
  have hsz : w.heap.size < (w.alloc (.cells #[.int .i64 ba, .int .i64 la, .int .i64 fr, .int .i64 ep, .int .i64 pi, .int .i64 ge, .int .i64 se, .bool tx, .int .i64 ct, .slice A n c] 25)).heap.size := by simp
  clear hr hF hb0 hrA
  rcases hf : form ⟨ba, la, fr, ep, pi, ge, se, tx, ct, rs⟩ with _ | _
  · have hc : chB ⟨ba, la, fr, ep, pi, ge, se, tx, ct, rs⟩ = 1 := by unfold chB; rw [hf]; rfl
    rw [show boB ⟨ba, la, fr, ep, pi, ge, se, tx, ct, rs⟩ = [] by unfold boB; rw [hc]; rfl, hc]
    clear hc
    go_enter Tryd.func63, Tryd.ntmps63
    go_wp2_with (go_at_call 86; (with_reducible refine (hasForm_any ba la fr ep pi ge se tx ct rs A n c _ HFT.out (HRA.out _ HB0.out) hn hf).mono ?_); rintro e w2 ⟨rfl, hb2⟩; have HB2 := Lib.hid (bel_trans HB0.out hb2); obtain ⟨y0, y1, y2, y3, y4, y5, y6, y7, y8, y9⟩ := HBX.out.below hb2 hsz; simp only at y0 y1 y2 y3 y4 y5 y6 y7 y8 y9; clear hb2)
    go_ret2
    exact ⟨none, 0, 0, rfl, OwnB.nil, HB2.out⟩
  · have HFM := Lib.hid ((form_iff _).1 hf)
    have hbl := byB_length ⟨ba, la, fr, ep, pi, ge, se, tx, ct, rs⟩
    by_cases hlen : 2048 < (byB ⟨ba, la, fr, ep, pi, ge, se, tx, ct, rs⟩).length
    · have hc : chB ⟨ba, la, fr, ep, pi, ge, se, tx, ct, rs⟩ = 2 := by unfold chB; rw [hf, if_pos hlen]; rfl
      rw [show boB ⟨ba, la, fr, ep, pi, ge, se, tx, ct, rs⟩ = [] by unfold boB; rw [hc]; rfl, hc]
      have HL := Lib.hid (show 2040 < (body ⟨ba, la, fr, ep, pi, ge, se, tx, ct, rs⟩).length by omega)
      have HU := Lib.hid (body_few HFM.out)
      clear hc hlen hbl
      go_enter Tryd.func63, Tryd.ntmps63
      go_wp2_with (first | (go_at_call 86; (with_reducible refine (hasForm_any ba la fr ep pi ge se tx ct rs A n c _ HFT.out (HRA.out _ HB0.out) hn hf).mono ?_); rintro e w2 ⟨rfl, hb2⟩; have HB2 := Lib.hid (bel_trans HB0.out hb2); obtain ⟨y0, y1, y2, y3, y4, y5, y6, y7, y8, y9⟩ := HBX.out.below hb2 hsz; simp only at y0 y1 y2 y3 y4 y5 y6 y7 y8 y9; clear hb2) | (go_at_call 87; (with_reducible refine (write_any ba la fr ep pi ge se tx ct rs A n c _ HFM.out (HRA.out _ HB2.out)).mono ?_); rintro e w3 ⟨A3, n3, c3, rfl, hown3, hb3⟩; have hl3 := hown3.len; have HO3 := Lib.hid hown3; have HB3 := Lib.hid (bel_trans HB2.out hb3); have hs23 := HB2.out.size; clear hown3 hb3; have q3 : (2040 : Int) < (n3 : Int) := (by have := HL.out; omega); have q4 : n3 ≤ 1000000 := (by have := HU.out; omega); clear hl3))
      go_ret2
      exact ⟨none, 0, 0, rfl, OwnB.nil, HB3.out⟩
    · have hc : chB ⟨ba, la, fr, ep, pi, ge, se, tx, ct, rs⟩ = 0 := by unfold chB; rw [hf, if_neg hlen]; rfl
      rw [show boB ⟨ba, la, fr, ep, pi, ge, se, tx, ct, rs⟩ = body ⟨ba, la, fr, ep, pi, ge, se, tx, ct, rs⟩ by unfold boB; rw [if_pos hc], hc]
      have HL := Lib.hid (show (body ⟨ba, la, fr, ep, pi, ge, se, tx, ct, rs⟩).length ≤ 2040 by omega)
      clear hc hlen hbl
      go_enter Tryd.func63, Tryd.ntmps63
      go_wp2_with (first | (go_at_call 86; (with_reducible refine (hasForm_any ba la fr ep pi ge se tx ct rs A n c _ HFT.out (HRA.out _ HB0.out) hn hf).mono ?_); rintro e w2 ⟨rfl, hb2⟩; have HB2 := Lib.hid (bel_trans HB0.out hb2); obtain ⟨y0, y1, y2, y3, y4, y5, y6, y7, y8, y9⟩ := HBX.out.below hb2 hsz; simp only at y0 y1 y2 y3 y4 y5 y6 y7 y8 y9; clear hb2) | (go_at_call 87; (with_reducible refine (write_any ba la fr ep pi ge se tx ct rs A n c _ HFM.out (HRA.out _ HB2.out)).mono ?_); rintro e w3 ⟨A3, n3, c3, rfl, hown3, hb3⟩; have hl3 := hown3.len; have HO3 := Lib.hid hown3; have HB3 := Lib.hid (bel_trans HB2.out hb3); have hs23 := HB2.out.size; clear hown3 hb3; have q3 : (n3 : Int) ≤ (2040 : Int) := (by have := HL.out; omega); clear hl3))
      go_ret2
      exact ⟨A3, n3, c3, rfl, HO3.out.more hs23, HB3.out⟩
set_option maxRecDepth 100000 in
set_option maxHeartbeats 4000000 in
theorem BCheck_any (ba la fr ep pi ge se : Int) (tx : Bool) (ct : Int) (rs : List Rc) (A : Option Addr) (n c : Nat) (w : World) (hF : Fits ⟨ba, la, fr, ep, pi, ge, se, tx, ct, rs⟩) (hr : RdR w w.heap.size A n rs) (hn : n ≤ 1099511627776) (ht : Tab w) :
    Calls Tryd.prog 31 #[.agg #[.int .i64 ba, .int .i64 la, .int .i64 fr, .int .i64 ep, .int .i64 pi, .int .i64 ge, .int .i64 se, .bool tx, .int .i64 ct, .slice A n c]] w fun e w' => e = .returned (.int .i64 (chB ⟨ba, la, fr, ep, pi, ge, se, tx, ct, rs⟩)) ∧ Below w.heap.size w w' := by
  have hb0 := bel_alloc (Below.refl w.heap.size w) (.cells #[.int .i64 ba, .int .i64 la, .int .i64 fr, .int .i64 ep, .int .i64 pi, .int .i64 ge, .int .i64 se, .bool tx, .int .i64 ct, .slice A n c] 25)
  have hrA : ∀ w', Below w.heap.size w w' → RdR w' w'.heap.size A n rs := fun w' hb => (hr.below hb (Nat.le_refl _)).more hb.size
  have HB0 := Lib.hid hb0
  have HRA := Lib.hid hrA
  have HFT := Lib.hid hF
  have HBX := Lib.hid (boxB_new w 25 ⟨ba, la, fr, ep, pi, ge, se, tx, ct, rs⟩ (.slice A n c))
  have hsz : w.heap.size < (w.alloc (.cells #[.int .i64 ba, .int .i64 la, .int .i64 fr, .int .i64 ep, .int .i64 pi, .int .i64 ge, .int .i64 se, .bool tx, .int .i64 ct, .slice A n c] 25)).heap.size := by simp
  obtain ⟨z, hz⟩ : ∃ z, chB ⟨ba, la, fr, ep, pi, ge, se, tx, ct, rs⟩ = z := ⟨_, rfl⟩
  obtain ⟨l, hl⟩ : ∃ l, boB ⟨ba, la, fr, ep, pi, ge, se, tx, ct, rs⟩ = l := ⟨_, rfl⟩
  have HC := Lib.hid hz
  have HBO := Lib.hid hl
  have HT := Lib.hid ht
  rw [hz]
  clear hr hF hb0 hrA hz hl ht
  go_enter Tryd.func31, Tryd.ntmps31
  go_wp2_with (go_at_call 63; (with_reducible refine (bodyOf_any ba la fr ep pi ge se tx ct rs A n c _ HFT.out (HRA.out _ HB0.out) hn).mono ?_); rw [HC.out, HBO.out]; rintro e w2 ⟨A2, n2, c2, rfl, hown2, hb2⟩; have HO2 := Lib.hid hown2; have HB2 := Lib.hid (bel_trans HB0.out hb2); have hs2 := hb2.size; have hs0 := HB0.out.size; clear hown2 hb2)
  go_ret
  exact ⟨rfl, HB2.out⟩
end Go.Proofs.YtllebgadhhgckaaDoor.Bat

/- The contracts of the landed Check, Size and Put, their values written out; a batch in a box. -/
namespace Go.Proofs.YtllebgadhhgckaaDoor.Bat
open Go.RowKit Oct Rec Crc Lay

section
variable (ba la fr ep pi ge se : Int) (tx : Bool) (ct : Int) (rs : List Rc) (A : Option Addr) (n c : Nat) (w : World)
theorem BCheck_is (hf : Fits ⟨ba, la, fr, ep, pi, ge, se, tx, ct, rs⟩) (hr : RdR w w.heap.size A n rs) (hn : n ≤ 1099511627776) (ht : Tab w) {z : Int} (h : chB ⟨ba, la, fr, ep, pi, ge, se, tx, ct, rs⟩ = z) :
    Calls Tryd.prog 31 #[.agg #[.int .i64 ba, .int .i64 la, .int .i64 fr, .int .i64 ep, .int .i64 pi, .int .i64 ge, .int .i64 se, .bool tx, .int .i64 ct, .slice A n c]] w fun e w' => e = .returned (.int .i64 z) ∧ Below w.heap.size w w' := by
  subst h; exact BCheck_any ba la fr ep pi ge se tx ct rs A n c w hf hr hn ht
end

theorem RdR.alloc {w : World} {B : Nat} {A : Option Addr} {n : Nat} {l : List Rc} (h : RdR w B A n l) (hB : B ≤ w.heap.size) (o : Obj) : RdR (w.alloc o) B A n l := h.keep fun p hp => World.cell?_alloc_lt w o p (by omega)
structure BR (w : World) (g : Nat) (b : Bt) (A : Option Addr) (n c : Nat) : Prop where
  box : BoxB w g b (.slice A n c)
  lt : g < w.heap.size
  rd : RdR w w.heap.size A n b.recs
theorem BR.below {w w' : World} {g : Nat} {b : Bt} {A : Option Addr} {n c : Nat} (h : BR w g b A n c) (hb : Below w.heap.size w w') : BR w' g b A n c :=
  ⟨h.box.below hb h.lt, Nat.lt_of_lt_of_le h.lt hb.size, (h.rd.below hb (Nat.le_refl _)).more hb.size⟩
theorem BR.drew {w : World} {g : Nat} {b : Bt} {A : Option Addr} {n c : Nat} (h : BR w g b A n c) : BR w.drew g b A n c := ⟨h.box, h.lt, h.rd⟩
theorem BR.alloc {w : World} {g : Nat} {b : Bt} {A : Option Addr} {n c : Nat} (h : BR w g b A n c) (o : Obj) : BR (w.alloc o) g b A n c := h.below (bel_alloc (Below.refl _ _) o)
theorem BR.new {w : World} {b : Bt} {A : Option Addr} {n c : Nat} (e : TypeId) (h : RdR w w.heap.size A n b.recs) :
    BR (w.alloc (.cells #[.int .i64 b.base, .int .i64 b.last, .int .i64 b.frm, .int .i64 b.epoch, .int .i64 b.pid, .int .i64 b.gen, .int .i64 b.seq, .bool b.txn, .int .i64 b.ctl, .slice A n c] e)) w.heap.size b A n c :=
  ⟨boxB_new w e b _, by simp, (h.alloc (Nat.le_refl _) _).more (by simp)⟩

end Go.Proofs.YtllebgadhhgckaaDoor.Bat

/- The document's Few, of one batch. -/
namespace Go.Proofs.YtllebgadhhgckaaDoor.Bat
open Go.RowKit Oct Rec Crc Lay

def fwRel (rs : List Rc) (n : Nat) (w : World) (v i : Value) (wr : World) : Prop :=
  ∃ k m : Nat, v = .int .i64 (m : Int) ∧ i = .int .i64 (k : Int) ∧ k ≤ n ∧ m ≤ 20000 ∧ fewR rs 0 = fewR (rs.drop k) m ∧ Below w.heap.size w wr
theorem fewR_step {rs : List Rc} {k m : Nat} {r : Rc} (h : rs[k]? = some r) : fewR (rs.drop k) m = if 20000 < m + (r.key.size + r.val.size) then false else fewR (rs.drop (k + 1)) (m + (r.key.size + r.val.size)) := by
  have e : rs.drop k = r :: rs.drop (k + 1) := by
    obtain ⟨hlt, hr⟩ := List.getElem?_eq_some_iff.1 h
    rw [List.drop_eq_getElem_cons hlt, hr]
  rw [e]
  rfl
set_option maxRecDepth 100000 in
set_option maxHeartbeats 1000000 in
theorem refFew_is (ba la fr ep pi ge se : Int) (tx : Bool) (ct : Int) (rs : List Rc) (A : Option Addr) (n c : Nat) (w : World) (hr : RdR w w.heap.size A n rs) (hf : ∀ r ∈ rs, Fit r) (hn : n ≤ reach) {z : Bool} (hz : fewT ⟨ba, la, fr, ep, pi, ge, se, tx, ct, rs⟩ = z) :
    Calls Tryd.prog 33 #[.agg #[.int .i64 ba, .int .i64 la, .int .i64 fr, .int .i64 ep, .int .i64 pi, .int .i64 ge, .int .i64 se, .bool tx, .int .i64 ct, .slice A n c]] w fun e w' => e = .returned (.bool z) ∧ Below w.heap.size w w' := by
  have HZ := Lib.hid hz
  have HW1 := Lib.hid (bel_alloc (Below.refl w.heap.size w) (.cells #[.int .i64 ba, .int .i64 la, .int .i64 fr, .int .i64 ep, .int .i64 pi, .int .i64 ge, .int .i64 se, .bool tx, .int .i64 ct, .slice A n c] 25))
  have HB := Lib.hid (BR.new (b := ⟨ba, la, fr, ep, pi, ge, se, tx, ct, rs⟩) (c := c) 25 hr)
  have HF := Lib.hid hf
  have hn2 : n ≤ 140737488351232 := hn
  clear hz hr hf hn
  go_enter Tryd.func33, Tryd.ntmps33
  go_wp2
  generalize hw1 : w.alloc (.cells #[.int .i64 ba, .int .i64 la, .int .i64 fr, .int .i64 ep, .int .i64 pi, .int .i64 ge, .int .i64 se, .bool tx, .int .i64 ct, .slice A n c] 25) = w1 at *
  clear hw1
  go_loopw [3, 9] (fun v i wr => fwRel rs n w1 v i wr) (fun _ i _ => n - (intOf i).toNat)
  case atStart => exact ⟨0, 0, rfl, rfl, Nat.zero_le _, Nat.zero_le _, rfl, Below.refl _ _⟩
  case round =>
    obtain ⟨k, m, rfl, rfl, hk, hm, hR, hb⟩ := hrel
    have HR := Lib.hid hR
    have HBL := Lib.hid hb
    have HBR := Lib.hid (HB.out.below hb)
    clear hR hb
    by_cases hlt : k < n
    · obtain ⟨b, o, r, hA, _, hrk, hat⟩ := HBR.out.rd.at hlt
      have hfit := HF.out r (List.mem_of_getElem? hrk)
      have q1 : r.key.size ≤ 140737488351232 := hfit.2.2.1
      have q2 : r.val.size ≤ 140737488351232 := hfit.2.2.2
      have HS := Lib.hid (fewR_step (m := m) hrk)
      have HA := Lib.hid hA
      obtain ⟨a0, a1, a2, a3, a4⟩ := hat
      obtain ⟨ro, rk, rv, rd, rt⟩ := r
      simp only at a0 a1 a2 a3 a4 q1 q2
      subst hA
      clear hfit hrk HA
      by_cases hbig : 20000 < m + (rk.size + rv.size)
      · have HZF := Lib.hid (show z = false by
          rw [← HZ.out]
          unfold fewT
          simp only
          rw [HR.out, HS.out]
          simp only
          rw [if_pos hbig]
          rfl)
        have hbig2 : (20000 : Int) < (m : Int) + ((rk.size : Int) + (rv.size : Int)) := by omega
        clear hbig
        go_wp2
        go_ret
        exact ⟨by rw [HZF.out]; rfl, HW1.out.trans ((HBL.out.alloc HBL.out.size _).mono HW1.out.size)⟩
      · have HN := Lib.hid (show fewR rs 0 = fewR (rs.drop (k + 1)) (m + (rk.size + rv.size)) by
          rw [HR.out, HS.out]
          simp only
          rw [if_neg hbig])
        have hbig2 : ¬ (20000 : Int) < (m : Int) + ((rk.size : Int) + (rv.size : Int)) := by omega
        have hm2 : m + (rk.size + rv.size) ≤ 20000 := by omega
        clear hbig
        go_wp2
        go_roundw
        case rel => exact ⟨k + 1, m + (rk.size + rv.size), by go_num, by go_num, by omega, hm2, HN.out, HBL.out.alloc HBL.out.size _⟩
        case measure => simp [intOf]; omega
    · have hkn : k = n := by omega
      subst hkn
      obtain ⟨x0, x1, x2, x3, x4, x5, x6, x7, x8, x9⟩ := HBR.out.box
      have HZF := Lib.hid (show z = decide ((k : Int) ≤ 100) by
        rw [← HZ.out]
        have hl := HBR.out.rd.len
        unfold fewT
        simp only at hl ⊢
        rw [HR.out, hl, List.drop_of_length_le (by omega)]
        show (true && _) = _
        rw [Bool.true_and]
        exact decide_eq_decide.2 ⟨fun h => by omega, fun h => by omega⟩)
      go_wp2
      go_ret
      exact ⟨by rw [HZF.out]; rfl, HW1.out.trans (HBL.out.mono HW1.out.size)⟩
end Go.Proofs.YtllebgadhhgckaaDoor.Bat

/- The contract of the document's own form: the ways that end ahead of the records. -/
namespace Go.Proofs.YtllebgadhhgckaaDoor.Bat
open Go.RowKit Oct Rec Crc

end Go.Proofs.YtllebgadhhgckaaDoor.Bat

/- The contract of the document's own form. -/
namespace Go.Proofs.YtllebgadhhgckaaDoor.Bat
open Go.RowKit Oct Rec Crc

end Go.Proofs.YtllebgadhhgckaaDoor.Bat

/- The contracts of the document's own Check, Size and Put of a batch. -/
namespace Go.Proofs.YtllebgadhhgckaaDoor.Bat
open Go.RowKit Oct Rec Crc

end Go.Proofs.YtllebgadhhgckaaDoor.Bat

/- Contracts whose values are written out. -/
namespace Go.Proofs.YtllebgadhhgckaaDoor.Bat
open Go.RowKit Oct Rec Crc Lay

end Go.Proofs.YtllebgadhhgckaaDoor.Bat

/- The document's Look. -/
namespace Go.Proofs.YtllebgadhhgckaaDoor.Sqs
open Go.RowKit Oct Rec RowF RowK Lay Bat InR
open Epo (At0 AtO belA)

theorem cel10 {W : World} {g : Nat} {e : TypeId} {v0 v1 v2 v3 v4 v5 v6 v7 v8 v9 : Value} (h : At0 W g [v0, v1, v2, v3, v4, v5, v6, v7, v8, v9] e) : W.cell? ⟨g, 0, none⟩ = some v0 ∧ W.cell? ⟨g, 1, none⟩ = some v1 ∧ W.cell? ⟨g, 2, none⟩ = some v2 ∧ W.cell? ⟨g, 3, none⟩ = some v3 ∧ W.cell? ⟨g, 4, none⟩ = some v4 ∧ W.cell? ⟨g, 5, none⟩ = some v5 ∧ W.cell? ⟨g, 6, none⟩ = some v6 ∧ W.cell? ⟨g, 7, none⟩ = some v7 ∧ W.cell? ⟨g, 8, none⟩ = some v8 ∧ W.cell? ⟨g, 9, none⟩ = some v9 := ⟨h.cell 0, h.cell 1, h.cell 2, h.cell 3, h.cell 4, h.cell 5, h.cell 6, h.cell 7, h.cell 8, h.cell 9⟩
theorem rdrUp9 {w w' : World} {A : Option Addr} {n : Nat} {l : List Rc} (h : RdR w w.heap.size A n l) (hb : Below w.heap.size w w') : RdR w' w'.heap.size A n l := (h.below hb (Nat.le_refl _)).more hb.size
end Go.Proofs.YtllebgadhhgckaaDoor.Sqs
