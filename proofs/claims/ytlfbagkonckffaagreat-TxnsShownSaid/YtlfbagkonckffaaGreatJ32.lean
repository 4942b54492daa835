/- Joined: BatRefH, BatRefK, BatIs, BatFewAll. -/
import Derived.Test.YtlfbagkonckffaaGreatJ31
import Derived.Test.YtlfbagkonckffaaGreatJ22
import Derived.Test.YtlfbagkonckffaaGreatJ26
import Derived.Test.YtlfbagkonckffaaGreatJ30
/- The contract of the document's own form. -/
namespace Go.Proofs.YtlfbagkonckffaaGreat.Bat
open Go.RowKit Oct Rec Crc

theorem form_F {b : Bt} (h : Form b → False) : form b = false := by
  cases hf : form b with
  | false => rfl
  | true => exact (h ((form_iff b).1 hf)).elim
theorem refForm_any (ba la fr ep pi ge se : Int) (tx : Bool) (ct : Int) (rs : List Rc) (A : Option Addr) (n c : Nat) (w : World) (_hct : I64 ct) (hr : RdR w w.heap.size A n rs) (hfit : ∀ r ∈ rs, r.key.size ≤ 1099511627776 ∧ r.val.size ≤ 1099511627776) (hn : n ≤ 1099511627776) {y : Bool} (hy : form ⟨ba, la, fr, ep, pi, ge, se, tx, ct, rs⟩ = y) :
    Calls Tryz.prog 76 #[.agg #[.int .i64 ba, .int .i64 la, .int .i64 fr, .int .i64 ep, .int .i64 pi, .int .i64 ge, .int .i64 se, .bool tx, .int .i64 ct, .slice A n c]] w fun e w' => e = .returned (.bool y) ∧ Below w.heap.size w w' := by
  have F : ∀ {P : Prop}, (form ⟨ba, la, fr, ep, pi, ge, se, tx, ct, rs⟩ = false → P) → (Form ⟨ba, la, fr, ep, pi, ge, se, tx, ct, rs⟩ → False) → P := fun h g => h (form_F g)
  by_cases t1 : 0 ≤ ba ∧ ba ≤ 1099511627776
  rotate_left
  · have hf : form ⟨ba, la, fr, ep, pi, ge, se, tx, ct, rs⟩ = false := form_F fun h => t1 ⟨h.base0, h.base1⟩
    rw [hf] at hy
    subst hy
    exact reform_f1 ba la fr ep pi ge se tx ct rs A n c w  t1
  by_cases t2 : 0 ≤ la ∧ la ≤ 1099511627776
  rotate_left
  · have hf : form ⟨ba, la, fr, ep, pi, ge, se, tx, ct, rs⟩ = false := form_F fun h => t2 ⟨h.last0, h.last1⟩
    rw [hf] at hy
    subst hy
    exact reform_f2 ba la fr ep pi ge se tx ct rs A n c w t1 t2
  by_cases t3 : 0 ≤ fr ∧ fr ≤ 1099511627776
  rotate_left
  · have hf : form ⟨ba, la, fr, ep, pi, ge, se, tx, ct, rs⟩ = false := form_F fun h => t3 ⟨h.frm0, h.frm1⟩
    rw [hf] at hy
    subst hy
    exact reform_f3 ba la fr ep pi ge se tx ct rs A n c w t1 t2 t3
  by_cases t4 : ba ≤ la
  rotate_left
  · have hf : form ⟨ba, la, fr, ep, pi, ge, se, tx, ct, rs⟩ = false := form_F fun h => t4 h.le
    rw [hf] at hy
    subst hy
    exact reform_f4 ba la fr ep pi ge se tx ct rs A n c w t1 t2 t3 t4
  by_cases t5 : la - ba < 16
  rotate_left
  · have hf : form ⟨ba, la, fr, ep, pi, ge, se, tx, ct, rs⟩ = false := form_F fun h => t5 h.near
    rw [hf] at hy
    subst hy
    exact reform_f5 ba la fr ep pi ge se tx ct rs A n c w t1 t2 t3 t4 t5
  by_cases t6 : fr + (la - ba) ≤ 1099511627776
  rotate_left
  · have hf : form ⟨ba, la, fr, ep, pi, ge, se, tx, ct, rs⟩ = false := form_F fun h => t6 h.frm2
    rw [hf] at hy
    subst hy
    exact reform_f6 ba la fr ep pi ge se tx ct rs A n c w t1 t2 t3 t4 t5 t6
  by_cases t7 : 0 ≤ ep ∧ ep ≤ 1048576
  rotate_left
  · have hf : form ⟨ba, la, fr, ep, pi, ge, se, tx, ct, rs⟩ = false := form_F fun h => t7 ⟨h.ep0, h.ep1⟩
    rw [hf] at hy
    subst hy
    exact reform_f7 ba la fr ep pi ge se tx ct rs A n c w t1 t2 t3 t4 t5 t6 t7
  by_cases t8 : 0 ≤ ge ∧ ge ≤ 1048576
  rotate_left
  · have hf : form ⟨ba, la, fr, ep, pi, ge, se, tx, ct, rs⟩ = false := form_F fun h => t8 ⟨h.gen0, h.gen1⟩
    rw [hf] at hy
    subst hy
    exact reform_f8 ba la fr ep pi ge se tx ct rs A n c w t1 t2 t3 t4 t5 t6 t7 t8
  by_cases t9 : 0 ≤ se ∧ se ≤ 1048576
  rotate_left
  · have hf : form ⟨ba, la, fr, ep, pi, ge, se, tx, ct, rs⟩ = false := form_F fun h => t9 ⟨h.seq0, h.seq1⟩
    rw [hf] at hy
    subst hy
    exact reform_f9 ba la fr ep pi ge se tx ct rs A n c w t1 t2 t3 t4 t5 t6 t7 t8 t9
  by_cases t10 : se + (la - ba) ≤ 1048576
  rotate_left
  · have hf : form ⟨ba, la, fr, ep, pi, ge, se, tx, ct, rs⟩ = false := form_F fun h => t10 h.seq2
    rw [hf] at hy
    subst hy
    exact reform_f10 ba la fr ep pi ge se tx ct rs A n c w t1 t2 t3 t4 t5 t6 t7 t8 t9 t10
  by_cases q : pi = -1
  · by_cases q1 : ge = 0
    rotate_left
    · have hf : form ⟨ba, la, fr, ep, pi, ge, se, tx, ct, rs⟩ = false := form_F fun h => q1 (h.none q).1
      rw [hf] at hy
      subst hy
      exact reform_p1 ba la fr ep pi ge se tx ct rs A n c w t1 t2 t3 t4 t5 t6 t7 t8 t9 t10 q q1
    by_cases q2 : se = 0
    rotate_left
    · have hf : form ⟨ba, la, fr, ep, pi, ge, se, tx, ct, rs⟩ = false := form_F fun h => q2 (h.none q).2.1
      rw [hf] at hy
      subst hy
      exact reform_p2 ba la fr ep pi ge se tx ct rs A n c w t1 t2 t3 t4 t5 t6 t7 t8 t9 t10 q q1 q2
    by_cases q3 : tx = false
    rotate_left
    · have hf : form ⟨ba, la, fr, ep, pi, ge, se, tx, ct, rs⟩ = false := form_F fun h => q3 (h.none q).2.2.1
      rw [hf] at hy
      subst hy
      exact reform_p3 ba la fr ep pi ge se tx ct rs A n c w t1 t2 t3 t4 t5 t6 t7 t8 t9 t10 q q1 q2 (by simpa using q3)
    by_cases q4 : ct = 0
    rotate_left
    · have hf : form ⟨ba, la, fr, ep, pi, ge, se, tx, ct, rs⟩ = false := form_F fun h => q4 (h.none q).2.2.2
      rw [hf] at hy
      subst hy
      exact reform_p4 ba la fr ep pi ge se tx ct rs A n c w t1 t2 t3 t4 t5 t6 t7 t8 t9 t10 q q1 q2 q3 q4
    have hf : form ⟨ba, la, fr, ep, pi, ge, se, tx, ct, rs⟩ = rise (ba - 1) la rs := by
      cases hri : rise (ba - 1) la rs with
      | false => exact form_F fun h => by have h2 := h.data q4; rw [show rise _ _ _ = false from hri] at h2; cases h2
      | true => exact (form_iff _).2 ⟨t1.1, t1.2, t2.1, t2.2, t3.1, t3.2, t4, t5, t6, t7.1, t7.2, t8.1, t8.2, t9.1, t9.2, t10, by simp only; omega, by simp only; omega, fun _ => ⟨q1, q2, q3, q4⟩, by simp only; omega, by simp only; omega, fun _ => hri, fun hh => absurd q4 hh⟩
    rw [hf] at hy
    subst hy
    exact reform_d1 ba la fr ep pi ge se tx ct rs A n c w t1 t2 t3 t4 t5 t6 t7 t8 t9 t10 q q1 q2 q3 q4 hr hfit hn
  · by_cases q1 : 0 ≤ pi ∧ pi ≤ 1099511627776
    rotate_left
    · have hf : form ⟨ba, la, fr, ep, pi, ge, se, tx, ct, rs⟩ = false := form_F fun h => q1 ⟨by have := h.pid0; simp only at this; omega, h.pid1⟩
      rw [hf] at hy
      subst hy
      exact reform_p5 ba la fr ep pi ge se tx ct rs A n c w t1 t2 t3 t4 t5 t6 t7 t8 t9 t10 q q1
    by_cases k : ct = 0
    · have hf : form ⟨ba, la, fr, ep, pi, ge, se, tx, ct, rs⟩ = rise (ba - 1) la rs := by
        cases hri : rise (ba - 1) la rs with
        | false => exact form_F fun h => by have h2 := h.data k; rw [show rise _ _ _ = false from hri] at h2; cases h2
        | true => exact (form_iff _).2 ⟨t1.1, t1.2, t2.1, t2.2, t3.1, t3.2, t4, t5, t6, t7.1, t7.2, t8.1, t8.2, t9.1, t9.2, t10, by simp only; omega, q1.2, fun hh => absurd hh q, by simp only; omega, by simp only; omega, fun _ => hri, fun hh => absurd k hh⟩
      rw [hf] at hy
      subst hy
      exact reform_d2 ba la fr ep pi ge se tx ct rs A n c w t1 t2 t3 t4 t5 t6 t7 t8 t9 t10 q q1 k hr hfit hn
    by_cases k1 : ct = 1 ∨ ct = 2
    rotate_left
    · have hf : form ⟨ba, la, fr, ep, pi, ge, se, tx, ct, rs⟩ = false := form_F fun h => by have := h.ctl0; have := h.ctl1; simp only at *; omega
      rw [hf] at hy
      subst hy
      exact reform_c0 ba la fr ep pi ge se tx ct rs A n c w t1 t2 t3 t4 t5 t6 t7 t8 t9 t10 q q1 k (by omega) (by omega)
    have hl := hr.len
    by_cases m : la - ba = 0
    rotate_left
    · have hf : form ⟨ba, la, fr, ep, pi, ge, se, tx, ct, rs⟩ = false := form_F fun h => m (by have := (h.ends k).1; simp only at this; omega)
      rw [hf] at hy
      subst hy
      rcases k1 with k1 | k1
      · exact reform_c1a ba la fr ep pi ge se tx ct rs A n c w t1 t2 t3 t4 t5 t6 t7 t8 t9 t10 q q1 k1 m
      · exact reform_c2a ba la fr ep pi ge se tx ct rs A n c w t1 t2 t3 t4 t5 t6 t7 t8 t9 t10 q q1 k1 m
    by_cases m1 : n = 0
    rotate_left
    · have hf : form ⟨ba, la, fr, ep, pi, ge, se, tx, ct, rs⟩ = false := form_F fun h => m1 (by have := (h.ends k).2.1; simp only at this; rw [this] at hl; exact hl.symm)
      rw [hf] at hy
      subst hy
      rcases k1 with k1 | k1
      · exact reform_c1b ba la fr ep pi ge se tx ct rs A n c w t1 t2 t3 t4 t5 t6 t7 t8 t9 t10 q q1 k1 m m1
      · exact reform_c2b ba la fr ep pi ge se tx ct rs A n c w t1 t2 t3 t4 t5 t6 t7 t8 t9 t10 q q1 k1 m m1
    by_cases m2 : tx = true
    rotate_left
    · have hf : form ⟨ba, la, fr, ep, pi, ge, se, tx, ct, rs⟩ = false := form_F fun h => m2 (h.ends k).2.2.1
      rw [hf] at hy
      subst hy
      rcases k1 with k1 | k1
      · exact reform_c1c ba la fr ep pi ge se tx ct rs A n c w t1 t2 t3 t4 t5 t6 t7 t8 t9 t10 q q1 k1 m m1 (by simpa using m2)
      · exact reform_c2c ba la fr ep pi ge se tx ct rs A n c w t1 t2 t3 t4 t5 t6 t7 t8 t9 t10 q q1 k1 m m1 (by simpa using m2)
    have hf : form ⟨ba, la, fr, ep, pi, ge, se, tx, ct, rs⟩ = true := (form_iff _).2 ⟨t1.1, t1.2, t2.1, t2.2, t3.1, t3.2, t4, t5, t6, t7.1, t7.2, t8.1, t8.2, t9.1, t9.2, t10, by simp only; omega, q1.2, fun hh => absurd hh q, by simp only; omega, by simp only; omega, fun hh => absurd hh k, fun _ => ⟨by simp only; omega, List.eq_nil_of_length_eq_zero (hl.trans m1), m2, q1.1⟩⟩
    rw [hf] at hy
    subst hy
    rcases k1 with k1 | k1
    · exact reform_c1d ba la fr ep pi ge se tx ct rs A n c w t1 t2 t3 t4 t5 t6 t7 t8 t9 t10 q q1 k1 m m1 m2
    · exact reform_c2d ba la fr ep pi ge se tx ct rs A n c w t1 t2 t3 t4 t5 t6 t7 t8 t9 t10 q q1 k1 m m1 m2
end Go.Proofs.YtlfbagkonckffaaGreat.Bat

/- The contracts of the document's own Check, Size and Put of a batch. -/
namespace Go.Proofs.YtlfbagkonckffaaGreat.Bat
open Go.RowKit Oct Rec Crc

set_option maxRecDepth 100000 in
set_option maxHeartbeats 1000000 in
theorem refBCheck (ba la fr ep pi ge se : Int) (tx : Bool) (ct : Int) (rs : List Rc) (A : Option Addr) (n c : Nat) (w : World) (hct : I64 ct) (hr : RdR w w.heap.size A n rs) (hfit : ∀ r ∈ rs, r.key.size ≤ 1099511627776 ∧ r.val.size ≤ 1099511627776) (hn : n ≤ 1099511627776) :
    Calls Tryz.prog 46 #[.agg #[.int .i64 ba, .int .i64 la, .int .i64 fr, .int .i64 ep, .int .i64 pi, .int .i64 ge, .int .i64 se, .bool tx, .int .i64 ct, .slice A n c]] w fun e w' => e = .returned (.int .i64 (chB ⟨ba, la, fr, ep, pi, ge, se, tx, ct, rs⟩)) ∧ Below w.heap.size w w' := by
  have hI := u8row
  have HR := Lib.hid hr
  have HN := Lib.hid hn
  have HB0 := Lib.hid (boxB_new w 28 ⟨ba, la, fr, ep, pi, ge, se, tx, ct, rs⟩ (.slice A n c))
  have hsz : w.heap.size < (w.alloc (.cells #[.int .i64 ba, .int .i64 la, .int .i64 fr, .int .i64 ep, .int .i64 pi, .int .i64 ge, .int .i64 se, .bool tx, .int .i64 ct, .slice A n c] 28)).heap.size := by simp
  have HW0 := Lib.hid (bel_alloc (Below.refl w.heap.size w) (.cells #[.int .i64 ba, .int .i64 la, .int .i64 fr, .int .i64 ep, .int .i64 pi, .int .i64 ge, .int .i64 se, .bool tx, .int .i64 ct, .slice A n c] 28))
  have HRA := Lib.hid ((hr.below HW0.out (Nat.le_refl _)).more (Nat.le_of_lt hsz))
  cases hy : form ⟨ba, la, fr, ep, pi, ge, se, tx, ct, rs⟩
  · have hc : chB ⟨ba, la, fr, ep, pi, ge, se, tx, ct, rs⟩ = 1 := by unfold chB; rw [hy]; rfl
    rw [hc]
    have HF := Lib.hid (refForm_any ba la fr ep pi ge se tx ct rs A n c (w.alloc (.cells #[.int .i64 ba, .int .i64 la, .int .i64 fr, .int .i64 ep, .int .i64 pi, .int .i64 ge, .int .i64 se, .bool tx, .int .i64 ct, .slice A n c] 28)) hct HRA.out hfit hn hy)
    clear hc hy hr hn hfit hct
    go_enter Tryz.func46, Tryz.ntmps46
    go_wp2_with (first | (go_at_call 76; refine HF.out.mono ?_; rintro e w2 ⟨rfl, hb2⟩; have hb02 := bel_trans HW0.out hb2; obtain ⟨z0, z1, z2, z3, z4, z5, z6, z7, z8, z9⟩ := HB0.out.below hb2 hsz))
    go_ret
    exact ⟨rfl, hb02⟩
  · have HF := Lib.hid (refForm_any ba la fr ep pi ge se tx ct rs A n c (w.alloc (.cells #[.int .i64 ba, .int .i64 la, .int .i64 fr, .int .i64 ep, .int .i64 pi, .int .i64 ge, .int .i64 se, .bool tx, .int .i64 ct, .slice A n c] 28)) hct HRA.out hfit hn hy)
    have HFM := Lib.hid ((form_iff _).1 hy)
    by_cases hlen : 2048 < (byB ⟨ba, la, fr, ep, pi, ge, se, tx, ct, rs⟩).length
    · have hc : chB ⟨ba, la, fr, ep, pi, ge, se, tx, ct, rs⟩ = 2 := by unfold chB; rw [hy, if_pos hlen]; rfl
      rw [hc]
      have HL := Lib.hid hlen
      clear hc hy hr hn hfit hct hlen
      go_enter Tryz.func46, Tryz.ntmps46
      go_wp2_with (first | (go_at_call 76; refine HF.out.mono ?_; rintro e w2 ⟨rfl, hb2⟩; have hb02 := bel_trans HW0.out hb2; obtain ⟨z0, z1, z2, z3, z4, z5, z6, z7, z8, z9⟩ := HB0.out.below hb2 hsz) | (go_at_call 77; refine (refbytes_any ba la fr ep pi ge se tx ct rs A n c w2 HFM.out ((HR.out.below hb02 (Nat.le_refl _)).more hb02.size) HN.out).mono ?_; rintro e w3 ⟨A3, n3, c3, rfl, hown3, hb3⟩; have hl3 := hown3.len; have q3 : (2048 : Int) < (n3 : Int) := (by have := HL.out; omega)))
      go_ret
      exact ⟨rfl, bel_trans hb02 hb3⟩
    · have hc : chB ⟨ba, la, fr, ep, pi, ge, se, tx, ct, rs⟩ = 0 := by unfold chB; rw [hy, if_neg hlen]; rfl
      rw [hc]
      have HL := Lib.hid hlen
      clear hc hy hr hn hfit hct hlen
      go_enter Tryz.func46, Tryz.ntmps46
      go_wp2_with (first | (go_at_call 76; refine HF.out.mono ?_; rintro e w2 ⟨rfl, hb2⟩; have hb02 := bel_trans HW0.out hb2; obtain ⟨z0, z1, z2, z3, z4, z5, z6, z7, z8, z9⟩ := HB0.out.below hb2 hsz) | (go_at_call 77; refine (refbytes_any ba la fr ep pi ge se tx ct rs A n c w2 HFM.out ((HR.out.below hb02 (Nat.le_refl _)).more hb02.size) HN.out).mono ?_; rintro e w3 ⟨A3, n3, c3, rfl, hown3, hb3⟩; have hl3 := hown3.len; have q3 : (n3 : Int) ≤ 2048 := (by have := HL.out; omega)))
      go_ret
      exact ⟨rfl, bel_trans hb02 hb3⟩
end Go.Proofs.YtlfbagkonckffaaGreat.Bat

/- Contracts whose values are written out. -/
namespace Go.Proofs.YtlfbagkonckffaaGreat.Bat
open Go.RowKit Oct Rec Crc Lay

theorem refCheckB_is (ba la fr ep pi ge se : Int) (tx : Bool) (ct : Int) (rs : List Rc) (A : Option Addr) (n c : Nat) (w : World) (hf : Fits ⟨ba, la, fr, ep, pi, ge, se, tx, ct, rs⟩) (hr : RdR w w.heap.size A n rs) (hn : n ≤ 1099511627776) {z : Int} (h : chB ⟨ba, la, fr, ep, pi, ge, se, tx, ct, rs⟩ = z) :
    Calls Tryz.prog 46 #[.agg #[.int .i64 ba, .int .i64 la, .int .i64 fr, .int .i64 ep, .int .i64 pi, .int .i64 ge, .int .i64 se, .bool tx, .int .i64 ct, .slice A n c]] w fun e w' => e = .returned (.int .i64 z) ∧ Below w.heap.size w w' := by
  subst h; exact refBCheck ba la fr ep pi ge se tx ct rs A n c w hf.ctl hr (fun r hr => (hf.recs r hr).2.2) hn
end Go.Proofs.YtlfbagkonckffaaGreat.Bat

/- The document's FewAll. -/
namespace Go.Proofs.YtlfbagkonckffaaGreat.Bat
open Go.RowKit Oct Rec Crc Lay

def faRel (bs : List Bt) (n : Nat) (w : World) (i : Value) (wr : World) : Prop :=
  ∃ k : Nat, i = .int .i64 (k : Int) ∧ k ≤ n ∧ bs.all fewT = (bs.drop k).all fewT ∧ Below w.heap.size w wr
theorem fewAll_step {bs : List Bt} {k : Nat} {b : Bt} (h : bs[k]? = some b) : (bs.drop k).all fewT = (fewT b && (bs.drop (k + 1)).all fewT) := by
  have e : bs.drop k = b :: bs.drop (k + 1) := by
    obtain ⟨hlt, hr⟩ := List.getElem?_eq_some_iff.1 h
    rw [List.drop_eq_getElem_cons hlt, hr]
  rw [e]
  rfl
set_option maxRecDepth 100000 in
set_option maxHeartbeats 1000000 in
theorem refFewAll_is (bs : List Bt) (A : Option Addr) (n c : Nat) (most : Int) (w : World) (hr : RdL w w.heap.size A n bs) (hn : n ≤ reach) {z : Bool} (hz : (bs.all fewT && decide ((bs.length : Int) ≤ most)) = z) :
    Calls Tryz.prog 53 #[.slice A n c, .int .i64 most] w fun e w' => e = .returned (.bool z) ∧ Below w.heap.size w w' := by
  have HZ := Lib.hid hz
  have HR := Lib.hid hr
  have hn2 : n ≤ 140737488351232 := hn
  clear hz hr hn
  go_enter Tryz.func53, Tryz.ntmps53
  go_wp2
  go_loopw [9] (fun i wr => faRel bs n w i wr) (fun i _ => n - (intOf i).toNat)
  case atStart => exact ⟨0, rfl, Nat.zero_le _, rfl, Below.refl _ _⟩
  case round =>
    obtain ⟨k, rfl, hk, hD, hb⟩ := hrel
    have HD := Lib.hid hD
    have HBL := Lib.hid hb
    have HBR := Lib.hid (HR.out.below hb (Nat.le_refl _))
    clear hD hb
    by_cases hlt : k < n
    · obtain ⟨b, o, x, cs, hA, hbl, hxk, his, hcell⟩ := HBR.out.at hlt
      have HS := Lib.hid (fewAll_step hxk)
      obtain ⟨ba, la, fr, ep, pi, ge, se, tx, ct, rs⟩ := x
      obtain ⟨A1, n1, c1, rfl, hfit, hn1, hc1, hrl⟩ := his
      have a0 : wr.cell? ⟨b, o + k * 10, none⟩ = some (.int .i64 ba) := hcell 0 _ rfl
      have a1 : wr.cell? ⟨b, o + k * 10 + 1, none⟩ = some (.int .i64 la) := hcell 1 _ rfl
      have a2 : wr.cell? ⟨b, o + k * 10 + 2, none⟩ = some (.int .i64 fr) := hcell 2 _ rfl
      have a3 : wr.cell? ⟨b, o + k * 10 + 3, none⟩ = some (.int .i64 ep) := hcell 3 _ rfl
      have a4 : wr.cell? ⟨b, o + k * 10 + 4, none⟩ = some (.int .i64 pi) := hcell 4 _ rfl
      have a5 : wr.cell? ⟨b, o + k * 10 + 5, none⟩ = some (.int .i64 ge) := hcell 5 _ rfl
      have a6 : wr.cell? ⟨b, o + k * 10 + 6, none⟩ = some (.int .i64 se) := hcell 6 _ rfl
      have a7 : wr.cell? ⟨b, o + k * 10 + 7, none⟩ = some (.bool tx) := hcell 7 _ rfl
      have a8 : wr.cell? ⟨b, o + k * 10 + 8, none⟩ = some (.int .i64 ct) := hcell 8 _ rfl
      have a9 : wr.cell? ⟨b, o + k * 10 + 9, none⟩ = some (.slice A1 n1 c1) := hcell 9 _ rfl
      simp only at hrl
      have HFIT := Lib.hid (RdL_fit hrl)
      have HX := Lib.hid (BR.new (b := ⟨ba, la, fr, ep, pi, ge, se, tx, ct, rs⟩) (c := c1) 28 ((RdL_recs hrl).more HBL.out.size))
      obtain ⟨x0, x1, x2, x3, x4, x5, x6, x7, x8, x9⟩ := HX.out.box
      have hn1r := Nat.le_trans hn1 hc1
      subst hA
      clear hcell hxk hfit hrl
      rcases hf : fewT ⟨ba, la, fr, ep, pi, ge, se, tx, ct, rs⟩ with _ | _
      · have HF := Lib.hid hf
        have HZF := Lib.hid (show z = false by rw [← HZ.out, HD.out, HS.out, HF.out]; rfl)
        clear hf
        go_wp2_with (go_at_call 14; (with_reducible refine (refFew_is ba la fr ep pi ge se tx ct rs A1 n1 c1 _ HX.out.rd HFIT.out hn1r HF.out).mono ?_); rintro e w4 ⟨rfl, hb4⟩)
        go_ret
        exact ⟨by rw [HZF.out]; rfl, bel_trans (bel_alloc HBL.out _) hb4⟩
      · have HF := Lib.hid hf
        have HN := Lib.hid (show bs.all fewT = (bs.drop (k + 1)).all fewT by rw [HD.out, HS.out, HF.out]; rfl)
        clear hf
        go_wp2_with (go_at_call 14; (with_reducible refine (refFew_is ba la fr ep pi ge se tx ct rs A1 n1 c1 _ HX.out.rd HFIT.out hn1r HF.out).mono ?_); rintro e w4 ⟨rfl, hb4⟩)
        go_roundw
        case rel => exact ⟨k + 1, by go_num, by omega, HN.out, bel_trans (bel_alloc HBL.out _) hb4⟩
        case measure => simp [intOf]; omega
    · have hkn : k = n := by omega
      subst hkn
      have HZF := Lib.hid (show z = decide ((k : Int) ≤ most) by
        rw [← HZ.out, HD.out]
        have hl := HBR.out.len
        rw [hl, List.drop_of_length_le (by omega)]
        rfl)
      go_wp2
      go_ret
      exact ⟨by rw [HZF.out]; rfl, HBL.out⟩
end Go.Proofs.YtlfbagkonckffaaGreat.Bat
