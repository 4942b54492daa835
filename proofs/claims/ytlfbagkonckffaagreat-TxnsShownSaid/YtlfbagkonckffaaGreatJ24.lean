/- Joined: BatDevHf, BatDevWr1, OctRPut, CrcRef. -/
import Derived.Test.YtlfbagkonckffaaGreatJ21
import Derived.Test.YtlfbagkonckffaaGreatJ23
import Derived.Test.YtlfbagkonckffaaGreatJ14
import Derived.Deep.RegionWith
import Derived.Test.YtlfbagkonckffaaGreatJ07
/- The contract of the landed hasForm. -/
namespace Go.Proofs.YtlfbagkonckffaaGreat.Bat
open Go.RowKit Oct Rec Crc

theorem form_of {b : Bt} {h : Bool} (hl : I64 b.last) (hb : I64 b.base) (hh : hdOk b = h) : form b = (h && !(decide (b.pid < 0) && (b.gen != 0 || b.seq != 0 || b.txn || b.ctl != 0)) && (if b.ctl = 0 then rise (b.base - 1) b.last b.recs else decide ((b.ctl = 1 ∨ b.ctl = 2) ∧ b.base = b.last ∧ b.recs = [] ∧ b.txn = true))) := by
  have hi := hdOk_iff hl hb
  rw [← hh]
  unfold form
  cases hok : hdOk b with
  | false =>
    have hn : ¬ (0 ≤ b.base ∧ b.base ≤ 1099511627776 ∧ b.base ≤ b.last ∧ b.last ≤ 1099511627776 ∧ b.last - b.base < 16 ∧ 0 ≤ b.frm ∧ b.frm + (b.last - b.base) ≤ 1099511627776 ∧
    0 ≤ b.epoch ∧ b.epoch ≤ 1048576 ∧ -1 ≤ b.pid ∧ b.pid ≤ 1099511627776 ∧ 0 ≤ b.gen ∧ b.gen ≤ 1048576 ∧ 0 ≤ b.seq ∧ b.seq + (b.last - b.base) ≤ 1048576) := fun h => by have := hi.2 h; rw [hok] at this; cases this
    rw [decide_eq_false]
    · simp
    · rintro ⟨h1, h2, h3, h4, h5, h6, h7, h8, h9, h10, h11, h12, h13, h14, h15, h16, h17⟩
      apply hn
      rcases h17 with ⟨h18, _⟩ | ⟨_, h18, h19⟩ <;> (refine ⟨?_, ?_, ?_, ?_, ?_, ?_, ?_, ?_, ?_, ?_, ?_, ?_, ?_, ?_, ?_⟩ <;> omega)
  | true =>
    obtain ⟨h0, h1, h2, h3, h4, h5, h6, h7, h8, h9, h10, h11, h12, h13, h14⟩ := hi.1 hok
    simp only [Bool.true_and]
    by_cases hp : b.pid < 0
    · have hp1 : b.pid = -1 := by omega
      rw [decide_eq_true hp, Bool.true_and]
      by_cases hq : b.gen = 0 ∧ b.seq = 0 ∧ b.txn = false ∧ b.ctl = 0
      · obtain ⟨q1, q2, q3, q4⟩ := hq
        rw [if_pos q4, if_pos q4, decide_eq_true]
        · simp [q1, q2, q3, q4]
        · refine ⟨?_, ?_, ?_, ?_, ?_, ?_, ?_, ?_, ?_, ?_, ?_, ?_, ?_, ?_, ?_, ?_, .inl ⟨hp1, q1, q2, q3, q4⟩⟩ <;> omega
      · have hz : (b.gen != 0 || b.seq != 0 || b.txn || b.ctl != 0) = true := by
          cases hz : (b.gen != 0 || b.seq != 0 || b.txn || b.ctl != 0) with
          | true => rfl
          | false =>
            simp at hz
            exact (hq ⟨hz.1.1.1, hz.1.1.2, hz.1.2, hz.2⟩).elim
        rw [hz, decide_eq_false]
        · simp
        · rintro ⟨_, _, _, _, _, _, _, _, _, _, _, _, _, _, _, _, h17⟩
          rcases h17 with ⟨_, h18⟩ | ⟨_, h18, _⟩
          · exact hq h18
          · omega
    · rw [decide_eq_false hp, Bool.false_and, Bool.not_false, Bool.true_and, decide_eq_true, Bool.true_and]
      · by_cases hc : b.ctl = 0
        · rw [if_pos hc, if_pos hc]
        · rw [if_neg hc, if_neg hc]
          apply decide_eq_decide.2
          constructor
          · rintro ⟨k1, k2, k3, k4, _⟩; exact ⟨k1, k2.symm, k3, k4⟩
          · rintro ⟨k1, k2, k3, k4⟩; exact ⟨k1, k2.symm, k3, k4, by omega⟩
      · refine ⟨?_, ?_, ?_, ?_, ?_, ?_, ?_, ?_, ?_, ?_, ?_, ?_, ?_, ?_, ?_, ?_, .inr ⟨?_, ?_, ?_⟩⟩ <;> omega
set_option maxRecDepth 100000 in
set_option maxHeartbeats 4000000 in
theorem hasForm_any (ba la fr ep pi ge se : Int) (tx : Bool) (ct : Int) (rs : List Rc) (A : Option Addr) (n c : Nat) (w : World) (hF : Fits ⟨ba, la, fr, ep, pi, ge, se, tx, ct, rs⟩) (hr : RdR w w.heap.size A n rs) (hn : n ≤ 1099511627776) {y : Bool} (hy : form ⟨ba, la, fr, ep, pi, ge, se, tx, ct, rs⟩ = y) :
    Calls Tryz.prog 93 #[.agg #[.int .i64 ba, .int .i64 la, .int .i64 fr, .int .i64 ep, .int .i64 pi, .int .i64 ge, .int .i64 se, .bool tx, .int .i64 ct, .slice A n c]] w fun e w' => e = .returned (.bool y) ∧ Below w.heap.size w w' := by
  subst hy
  have hbx := boxB_new w 28 ⟨ba, la, fr, ep, pi, ge, se, tx, ct, rs⟩ (.slice A n c)
  have hfz : (w.alloc (.cells #[.int .i64 ba, .int .i64 la, .int .i64 fr, .int .i64 ep, .int .i64 pi, .int .i64 ge, .int .i64 se, .bool tx, .int .i64 ct, .slice A n c] 28)).frozen? ⟨w.heap.size, 1, none⟩ = false := by simp [go_sem]
  have hsz : w.heap.size < (w.alloc (.cells #[.int .i64 ba, .int .i64 la, .int .i64 fr, .int .i64 ep, .int .i64 pi, .int .i64 ge, .int .i64 se, .bool tx, .int .i64 ct, .slice A n c] 28)).heap.size := by simp
  have hb0 := bel_alloc (Below.refl w.heap.size w) (.cells #[.int .i64 ba, .int .i64 la, .int .i64 fr, .int .i64 ep, .int .i64 pi, .int .i64 ge, .int .i64 se, .bool tx, .int .i64 ct, .slice A n c] 28)
  obtain ⟨h, hh⟩ : ∃ h, hdOk ⟨ba, la, fr, ep, pi, ge, se, tx, ct, rs⟩ = h := ⟨_, rfl⟩
  have HE := Lib.hid (hfEach _ w.heap.size ⟨ba, la, fr, ep, pi, ge, se, tx, ct, rs⟩ (.slice A n c) hbx hfz hsz hF hh)
  have HB0 := Lib.hid hb0
  have HR := Lib.hid hr
  have hl := hr.len
  have hfo := form_of (b := ⟨ba, la, fr, ep, pi, ge, se, tx, ct, rs⟩) hF.last hF.base hh
  simp only at hfo
  have hix := hdOk_iff (b := ⟨ba, la, fr, ep, pi, ge, se, tx, ct, rs⟩) hF.last hF.base
  simp only at hix
  have HFT := Lib.hid hF
  clear hbx hfz hb0 hr hF
  rcases h with _ | _
  · rw [show form ⟨ba, la, fr, ep, pi, ge, se, tx, ct, rs⟩ = false by rw [hfo]; simp]
    clear hfo
    clear hix
    go_enter Tryz.func93, Tryz.ntmps93
    go_wp2_with (go_at_call 109; (with_reducible refine (HE.out).mono ?_); rintro e w2 ⟨rfl, hbx2, hb2⟩; have HB2 := Lib.hid (HB0.out.trans hb2); obtain ⟨y0, y1, y2, y3, y4, y5, y6, y7, y8, y9⟩ := hbx2; simp only at y0 y1 y2 y3 y4 y5 y6 y7 y8 y9; clear hb2)
    go_ret
    exact ⟨rfl, HB2.out⟩
  have hok := hix.1 hh
  simp only [Bool.true_and] at hfo
  obtain ⟨ri, hri⟩ : ∃ ri, rise (ba - 1) la rs = ri := ⟨_, rfl⟩
  by_cases hp : pi < 0
  · rw [decide_eq_true hp, Bool.true_and] at hfo
    by_cases q1 : ge = 0
    rotate_left
    · have e1 : (ge != 0) = true := by simp [q1]
      rw [show form ⟨ba, la, fr, ep, pi, ge, se, tx, ct, rs⟩ = false by rw [hfo, e1]; simp]
      clear hfo hok
      clear hix
      go_enter Tryz.func93, Tryz.ntmps93
      go_wp2_with (go_at_call 109; (with_reducible refine (HE.out).mono ?_); rintro e w2 ⟨rfl, hbx2, hb2⟩; have HB2 := Lib.hid (HB0.out.trans hb2); obtain ⟨y0, y1, y2, y3, y4, y5, y6, y7, y8, y9⟩ := hbx2; simp only at y0 y1 y2 y3 y4 y5 y6 y7 y8 y9; clear hb2)
      go_ret
      exact ⟨rfl, HB2.out⟩
    subst q1
    by_cases q2 : se = 0
    rotate_left
    · have e1 : (se != 0) = true := by simp [q2]
      rw [show form ⟨ba, la, fr, ep, pi, 0, se, tx, ct, rs⟩ = false by rw [hfo, e1]; simp]
      clear hfo hok
      clear hix
      go_enter Tryz.func93, Tryz.ntmps93
      go_wp2_with (go_at_call 109; (with_reducible refine (HE.out).mono ?_); rintro e w2 ⟨rfl, hbx2, hb2⟩; have HB2 := Lib.hid (HB0.out.trans hb2); obtain ⟨y0, y1, y2, y3, y4, y5, y6, y7, y8, y9⟩ := hbx2; simp only at y0 y1 y2 y3 y4 y5 y6 y7 y8 y9; clear hb2)
      go_ret
      exact ⟨rfl, HB2.out⟩
    subst q2
    rcases tx with _ | _
    rotate_left
    · rw [show form ⟨ba, la, fr, ep, pi, 0, 0, true, ct, rs⟩ = false by rw [hfo]; simp]
      clear hfo hok
      clear hix
      go_enter Tryz.func93, Tryz.ntmps93
      go_wp2_with (go_at_call 109; (with_reducible refine (HE.out).mono ?_); rintro e w2 ⟨rfl, hbx2, hb2⟩; have HB2 := Lib.hid (HB0.out.trans hb2); obtain ⟨y0, y1, y2, y3, y4, y5, y6, y7, y8, y9⟩ := hbx2; simp only at y0 y1 y2 y3 y4 y5 y6 y7 y8 y9; clear hb2)
      go_ret
      exact ⟨rfl, HB2.out⟩
    by_cases q4 : ct = 0
    rotate_left
    · have e1 : (ct != 0) = true := by simp [q4]
      rw [show form ⟨ba, la, fr, ep, pi, 0, 0, false, ct, rs⟩ = false by rw [hfo, e1]; simp]
      clear hfo hok
      clear hix
      go_enter Tryz.func93, Tryz.ntmps93
      go_wp2_with (go_at_call 109; (with_reducible refine (HE.out).mono ?_); rintro e w2 ⟨rfl, hbx2, hb2⟩; have HB2 := Lib.hid (HB0.out.trans hb2); obtain ⟨y0, y1, y2, y3, y4, y5, y6, y7, y8, y9⟩ := hbx2; simp only at y0 y1 y2 y3 y4 y5 y6 y7 y8 y9; clear hb2)
      go_ret
      exact ⟨rfl, HB2.out⟩
    subst q4
    rw [show form ⟨ba, la, fr, ep, pi, 0, 0, false, 0, rs⟩ = ri by rw [hfo, ← hri, if_pos rfl]; simp]
    clear hfo
    have HRF := Lib.hid (fun (w' : World) (hb : Below w.heap.size w w') => recsForm_any ba la fr ep pi 0 0 false 0 rs A n c w' ⟨hok.1, hok.2.1⟩ HFT.out.last ((HR.out.below hb (Nat.le_refl _)).more hb.size) HFT.out.recs hn hri)
    clear hok hl hix
    go_enter Tryz.func93, Tryz.ntmps93
    go_wp2_with (first | (go_at_call 109; (with_reducible refine (HE.out).mono ?_); rintro e w2 ⟨rfl, hbx2, hb2⟩; have HB2 := Lib.hid (HB0.out.trans hb2); obtain ⟨y0, y1, y2, y3, y4, y5, y6, y7, y8, y9⟩ := hbx2; simp only at y0 y1 y2 y3 y4 y5 y6 y7 y8 y9; clear hb2) | (go_at_call 110; (with_reducible refine (HRF.out w2 HB2.out).mono ?_); rintro e w3 ⟨rfl, hb3⟩))
    go_ret
    exact ⟨rfl, bel_trans HB2.out hb3⟩
  · rw [decide_eq_false hp, Bool.false_and, Bool.not_false, Bool.true_and] at hfo
    by_cases k : ct = 0
    · rw [if_pos k] at hfo
      rw [show form ⟨ba, la, fr, ep, pi, ge, se, tx, ct, rs⟩ = ri by rw [hfo, ← hri]]
      clear hfo
      subst k
      have HRF := Lib.hid (fun (w' : World) (hb : Below w.heap.size w w') => recsForm_any ba la fr ep pi ge se tx 0 rs A n c w' ⟨hok.1, hok.2.1⟩ HFT.out.last ((HR.out.below hb (Nat.le_refl _)).more hb.size) HFT.out.recs hn hri)
      clear hok hl hix
      go_enter Tryz.func93, Tryz.ntmps93
      go_wp2_with (first | (go_at_call 109; (with_reducible refine (HE.out).mono ?_); rintro e w2 ⟨rfl, hbx2, hb2⟩; have HB2 := Lib.hid (HB0.out.trans hb2); obtain ⟨y0, y1, y2, y3, y4, y5, y6, y7, y8, y9⟩ := hbx2; simp only at y0 y1 y2 y3 y4 y5 y6 y7 y8 y9; clear hb2) | (go_at_call 110; (with_reducible refine (HRF.out w2 HB2.out).mono ?_); rintro e w3 ⟨rfl, hb3⟩))
      go_ret
      exact ⟨rfl, bel_trans HB2.out hb3⟩
    rw [if_neg k] at hfo
    by_cases k12 : ct = 1 ∨ ct = 2
    rotate_left
    · rw [show form ⟨ba, la, fr, ep, pi, ge, se, tx, ct, rs⟩ = false by rw [hfo]; exact decide_eq_false fun h => k12 h.1]
      have k1 : ¬ ct = 1 := fun h => k12 (.inl h)
      have k2 : ¬ ct = 2 := fun h => k12 (.inr h)
      clear hfo hok k12
      clear hix
      go_enter Tryz.func93, Tryz.ntmps93
      go_wp2_with (go_at_call 109; (with_reducible refine (HE.out).mono ?_); rintro e w2 ⟨rfl, hbx2, hb2⟩; have HB2 := Lib.hid (HB0.out.trans hb2); obtain ⟨y0, y1, y2, y3, y4, y5, y6, y7, y8, y9⟩ := hbx2; simp only at y0 y1 y2 y3 y4 y5 y6 y7 y8 y9; clear hb2)
      go_ret
      exact ⟨rfl, HB2.out⟩
    by_cases m : ba = la
    rotate_left
    · rw [show form ⟨ba, la, fr, ep, pi, ge, se, tx, ct, rs⟩ = false by rw [hfo]; exact decide_eq_false fun h => m h.2.1]
      have e1 : (ba == la) = false := beqF m
      clear hfo hok m
      rcases k12 with k1 | k1
      · subst k1
        clear hix
        go_enter Tryz.func93, Tryz.ntmps93
        go_wp2_with (go_at_call 109; (with_reducible refine (HE.out).mono ?_); rintro e w2 ⟨rfl, hbx2, hb2⟩; have HB2 := Lib.hid (HB0.out.trans hb2); obtain ⟨y0, y1, y2, y3, y4, y5, y6, y7, y8, y9⟩ := hbx2; simp only at y0 y1 y2 y3 y4 y5 y6 y7 y8 y9; clear hb2)
        go_ret
        exact ⟨rfl, HB2.out⟩
      · subst k1
        clear hix
        go_enter Tryz.func93, Tryz.ntmps93
        go_wp2_with (go_at_call 109; (with_reducible refine (HE.out).mono ?_); rintro e w2 ⟨rfl, hbx2, hb2⟩; have HB2 := Lib.hid (HB0.out.trans hb2); obtain ⟨y0, y1, y2, y3, y4, y5, y6, y7, y8, y9⟩ := hbx2; simp only at y0 y1 y2 y3 y4 y5 y6 y7 y8 y9; clear hb2)
        go_ret
        exact ⟨rfl, HB2.out⟩
    subst m
    by_cases m1 : n = 0
    rotate_left
    · rw [show form ⟨ba, ba, fr, ep, pi, ge, se, tx, ct, rs⟩ = false by rw [hfo]; exact decide_eq_false fun h => m1 (by rw [← hl, h.2.2.1]; rfl)]
      have e1 : ((n : Int) == 0) = false := beqF (by omega)
      clear hfo hok
      rcases k12 with k1 | k1
      · subst k1
        clear hix
        go_enter Tryz.func93, Tryz.ntmps93
        go_wp2_with (go_at_call 109; (with_reducible refine (HE.out).mono ?_); rintro e w2 ⟨rfl, hbx2, hb2⟩; have HB2 := Lib.hid (HB0.out.trans hb2); obtain ⟨y0, y1, y2, y3, y4, y5, y6, y7, y8, y9⟩ := hbx2; simp only at y0 y1 y2 y3 y4 y5 y6 y7 y8 y9; clear hb2)
        go_ret
        exact ⟨rfl, HB2.out⟩
      · subst k1
        clear hix
        go_enter Tryz.func93, Tryz.ntmps93
        go_wp2_with (go_at_call 109; (with_reducible refine (HE.out).mono ?_); rintro e w2 ⟨rfl, hbx2, hb2⟩; have HB2 := Lib.hid (HB0.out.trans hb2); obtain ⟨y0, y1, y2, y3, y4, y5, y6, y7, y8, y9⟩ := hbx2; simp only at y0 y1 y2 y3 y4 y5 y6 y7 y8 y9; clear hb2)
        go_ret
        exact ⟨rfl, HB2.out⟩
    have hrs : rs = [] := List.eq_nil_of_length_eq_zero (hl.trans m1)
    rw [show form ⟨ba, ba, fr, ep, pi, ge, se, tx, ct, rs⟩ = tx by rw [hfo]; cases tx with | false => exact decide_eq_false (fun h => by cases h.2.2.2) | true => exact decide_eq_true ⟨k12, rfl, hrs, rfl⟩]
    subst m1
    clear hfo hok hl
    rcases k12 with k1 | k1
    · subst k1
      clear hix
      go_enter Tryz.func93, Tryz.ntmps93
      go_wp2_with (go_at_call 109; (with_reducible refine (HE.out).mono ?_); rintro e w2 ⟨rfl, hbx2, hb2⟩; have HB2 := Lib.hid (HB0.out.trans hb2); obtain ⟨y0, y1, y2, y3, y4, y5, y6, y7, y8, y9⟩ := hbx2; simp only at y0 y1 y2 y3 y4 y5 y6 y7 y8 y9; clear hb2)
      go_ret
      exact ⟨rfl, HB2.out⟩
    · subst k1
      clear hix
      go_enter Tryz.func93, Tryz.ntmps93
      go_wp2_with (go_at_call 109; (with_reducible refine (HE.out).mono ?_); rintro e w2 ⟨rfl, hbx2, hb2⟩; have HB2 := Lib.hid (HB0.out.trans hb2); obtain ⟨y0, y1, y2, y3, y4, y5, y6, y7, y8, y9⟩ := hbx2; simp only at y0 y1 y2 y3 y4 y5 y6 y7 y8 y9; clear hb2)
      go_ret
      exact ⟨rfl, HB2.out⟩
end Go.Proofs.YtlfbagkonckffaaGreat.Bat

/- The contract of the landed write's own function: a number is put behind the body. -/
namespace Go.Proofs.YtlfbagkonckffaaGreat.Bat
open Go.RowKit Oct Rec Crc

theorem below_undrew {B : Nat} {w w' : World} (h : Below B w.drew w') : Below B w w' := ((Below.refl B w).drew).trans h
def WR1 (e : TypeId) (X : Nat) (w : World) (l : List UInt8) (w' : World) : Prop :=
  ∃ A n c w1, OwnB w1 e w.heap.size (.slice A n c) n l ∧ Below w.heap.size w w1 ∧ w1.setCell ⟨X, 0, none⟩ (.slice A n c) = w'
set_option maxRecDepth 100000 in
theorem wr1_any (a : Addr) (v lo hi : Int) (X : Nat) (A : Option Addr) (n c : Nat) (l : List UInt8) (B : Nat) (w : World) (ha : w.cell? a = some (.int .i64 v)) (hal : a.block < w.heap.size) (hI : I64 v) (hX : w.cell? ⟨X, 0, none⟩ = some (.slice A n c)) (hf : w.frozen? ⟨X, 0, none⟩ = false) (hXl : X < w.heap.size) (hr : Rd w B A n l) (hB : B ≤ w.heap.size) (hn : n ≤ 549755813888) :
    Calls Tryz.prog 111 #[.pointer (some a), .int .i64 lo, .int .i64 hi, .pointer (some ⟨X, 0, none⟩)] w fun e w' => e = .returned (.bool true) ∧ WR1 5 X w (l ++ vb (zz v)) w' := by
  have HR := Lib.hid hr
  obtain ⟨h1, h2⟩ := hI
  have hBd : B ≤ w.drew.heap.size := hB
  clear hr
  go_enter Tryz.func111, Tryz.ntmps111
  go_wp2
  go_region_with (go_at_call 112; (with_reducible refine (PutVar_any A n c v l B _ HR.out.drew hBd hn h1 h2).mono ?_); rintro e w1 ⟨A1, n1, c1, rfl, hown1, hb1⟩; have hX1 := (hb1.cell (p := ⟨X, 0, none⟩) hXl).trans hX; have hf1 := (hb1.frozen (p := ⟨X, 0, none⟩) hXl).trans hf; have ha1 := (hb1.cell (p := a) hal).trans ha; have HO := Lib.hid hown1; have HB := Lib.hid hb1; clear hown1 hb1)
  all_goals go_wp2
  all_goals go_ret
  all_goals exact ⟨rfl, A1, n1, c1, w1, HO.out, below_undrew HB.out, rfl⟩
end Go.Proofs.YtlfbagkonckffaaGreat.Bat

/- The contract of the document's Put. -/
namespace Go.Proofs.YtlfbagkonckffaaGreat.Oct
open Go.RowKit

def rputIn (x q : Nat) (v i : Value) : Prop := ∃ t X, v = .int .u64 ((X : Nat) : Int) ∧ i = .int .i64 ((t : Nat) : Int) ∧ t ≤ q ∧ X = x / 256 ^ t ∧ X ≤ x

set_option maxRecDepth 100000 in
set_option maxHeartbeats 800000 in
theorem refPut_yes (A : Option Addr) (n c : Nat) (x k : Nat) (l : List UInt8) (B : Nat) (w : World) (hr : Rd w B A n l) (hn : n ≤ 274877906944) (hk1 : 1 ≤ k) (hk8 : k ≤ 8) (hx : x < 18446744073709551616) :
    Calls Tryz.prog 102 #[.slice A n c, .int .u64 (x : Int), .int .i64 (k : Int)] w (RB 5 w.heap.size w (l ++ beN x k k)) := by
  have hI := u8row
  have hlen := Lib.hid hr.len
  have HN := Lib.hid hn
  have HX := Lib.hid hx
  clear hn hx
  go_enter Tryz.func102, Tryz.ntmps102
  go_wp2_with (go_at_call 117; refine (Copy_any A n c l B w hr (by have := HN.out; omega)).mono ?_; rintro e w1 ⟨A1, n1, c1, rfl, hown1, hb1⟩)
  have hsz := hb1.size
  go_loopw [7, 20] (fun v i wr => putRel w.heap.size l x k w v i wr) (fun _ i _ => k - (intOf i).toNat)
  case atStart => exact ⟨A1, n1, c1, 0, rfl, rfl, Nat.zero_le _, by simpa [beN_zero] using hown1, hb1⟩
  case round =>
    clear hown1
    obtain ⟨A2, n2, c2, j, rfl, rfl, hj, hown2, hb2⟩ := hrel
    have hn2 : n2 ≤ n + 8 := by
      have a1 := hown2.len
      have a3 := hlen.out
      rw [List.length_append, beN_length] at a1
      omega
    have hbs := hb2.size
    obtain ⟨wo, rfl⟩ : ∃ wo : World, wo = wr := ⟨_, rfl⟩
    by_cases hlt : j < k
    · go_wp2
      go_loop [9, 28] (fun v i => rputIn x (k - 1 - j) v i) (fun _ i => (k - 1 - j) - (intOf i).toNat)
      case atStart => exact ⟨0, x, rfl, rfl, Nat.zero_le _, by simp, Nat.le_refl _⟩
      case round =>
        obtain ⟨t, X, rfl, rfl, ht, hX, hXx⟩ := hrel
        have HXX := Lib.hid hX
        have HXL := Lib.hid hXx
        clear hX hXx
        by_cases htq : t < k - 1 - j
        · go_wp2
          go_round
          case rel =>
            refine ⟨t + 1, X / 256, congrArg (Value.int .u64) (div_u64 X 256 (Nat.lt_of_le_of_lt HXL.out HX.out)), by go_num, by omega, ?_, Nat.le_trans (Nat.div_le_self _ _) HXL.out⟩
            rw [HXX.out, Nat.div_div_eq_div_mul, Nat.pow_succ]
          case measure => simp [intOf]; omega
        · have htq' : t = k - 1 - j := by omega
          have HB := Lib.hid (show (X : Int) % 256 = ((UInt8.ofNat (x / 256 ^ (k - 1 - j))).toNat : Int) by rw [UInt8.toNat_ofNat', HXX.out, htq']; omega)
          go_wp2_with (at_builtin; refine wpList_app1 _ rfl _ _ 94 rfl w.heap.size 5 Tryz.underlying94 hI _ n2 _ rfl hown2 _ _ rfl HB.out (by have := HN.out; omega) (by omega) ?_; intro A3 c3 w3 hown3 hb3)
          go_roundw
          case rel =>
            refine ⟨A3, n2 + 1, c3, j + 1, rfl, by go_num, by omega, ?_, hb2.trans hb3⟩
            rw [beN_succ, ← List.append_assoc]
            exact hown3
          case measure => simp [intOf]; omega
    · have hjk : j = k := by omega
      subst hjk
      go_wp2
      go_ret
      exact ⟨A2, n2, c2, rfl, hown2, hb2⟩

theorem refPut_any (A : Option Addr) (n c : Nat) (x : Nat) (k : Int) (l : List UInt8) (B : Nat) (w : World) (hr : Rd w B A n l) (hn : n ≤ 274877906944) (hx : x < 18446744073709551616) :
    Calls Tryz.prog 102 #[.slice A n c, .int .u64 (x : Int), .int .i64 k] w (RB 5 w.heap.size w (l ++ if isW k then beN x k.toNat k.toNat else [])) := by
  by_cases hk : isW k = true
  · obtain ⟨m, rfl⟩ : ∃ m : Nat, k = (m : Int) := ⟨k.toNat, by simp [isW] at hk; omega⟩
    have h := hk
    simp [isW] at h
    rw [if_pos hk, Int.toNat_natCast]
    exact refPut_yes A n c x m l B w hr hn (by omega) (by omega) hx
  · rw [if_neg hk, List.append_nil]
    have hk' : ¬ (1 ≤ k ∧ k ≤ 8) := by simpa [isW] using hk
    clear hk hx
    rcases (show k < 1 ∨ 8 < k by omega) with h | h
    all_goals
      go_enter Tryz.func102, Tryz.ntmps102
      go_wp2_with (go_at_call 117; refine (Copy_any A n c l B w hr (by omega)).mono ?_; rintro e w1 ⟨A1, n1, c1, rfl, hown1, hb1⟩)
      go_ret
      exact ⟨A1, n1, c1, rfl, hown1, hb1⟩

end Go.Proofs.YtlfbagkonckffaaGreat.Oct

/- The contracts of the document's own answers of layer 2. -/
namespace Go.Proofs.YtlfbagkonckffaaGreat.Crc
open Go.RowKit Oct

theorem xor_u32 (a b : Nat) (ha : a < 4294967296) (hb : b < 4294967296) : bits .xor .u32 (a : Int) (b : Int) = ((a ^^^ b : Nat) : Int) := u32_xor_nat a b ha hb
theorem xor_poly (v : Nat) (h : v < 4294967296) : bits .xor .u32 ((v : Int) / 2) 3988292384 = ((v / 2 ^^^ 3988292384 : Nat) : Int) := by
  have e : (v : Int) / 2 = ((v / 2 : Nat) : Int) := by omega
  rw [e]
  exact u32_xor_nat (v / 2) 3988292384 (by omega) (by omega)
theorem step_odd {v : Nat} (h : v % 2 = 1) : step v = v / 2 ^^^ 3988292384 := by unfold step; rw [if_pos h]
theorem step_ev {v : Nat} (h : ¬ v % 2 = 1) : step v = v / 2 := by unfold step; rw [if_neg h]

theorem refStep_any (v : Nat) (w : World) (h : v < 4294967296) :
    Calls Tryz.prog 159 #[.int .u32 (v : Int)] w fun e w' => e = .returned (.int .u32 (step v : Int)) ∧ w = w' := by
  by_cases hp : v % 2 = 1
  · have H := Lib.hid ((xor_poly v h).trans (congrArg Nat.cast (step_odd hp).symm))
    have hp2 : ((v : Int) % 2 == 1) = true := beqT (by omega)
    have hb : (v : Int) ≤ 4294967295 := by omega
    clear h hp
    go_enter Tryz.func159, Tryz.ntmps159
    go_wp2
    go_ret
    exact ⟨ret_int H.out, rfl⟩
  · have H := Lib.hid (show (v : Int) / 2 = (step v : Int) by rw [step_ev hp]; omega)
    have hp2 : ((v : Int) % 2 == 1) = false := beqF (by omega)
    have hb : (v : Int) ≤ 4294967295 := by omega
    clear h hp
    go_enter Tryz.func159, Tryz.ntmps159
    go_wp2
    go_ret
    exact ⟨ret_int H.out, rfl⟩

def rstRel (v N : Nat) (x i : Value) : Prop := ∃ j, x = .int .u32 (steps j v : Int) ∧ i = .int .i64 ((j : Nat) : Int) ∧ j ≤ N
set_option maxRecDepth 100000 in
theorem refSteps_any (v N : Nat) (w : World) (h : v < 4294967296) (hN : N ≤ 100000) :
    Calls Tryz.prog 147 #[.int .u32 (v : Int), .int .i64 (N : Int)] w fun e w' => e = .returned (.int .u32 (steps N v : Int)) ∧ w = w' := by
  have H := Lib.hid h
  clear h
  go_enter Tryz.func147, Tryz.ntmps147
  go_wp2
  go_loop [0, 5] (fun x i => rstRel v N x i) (fun _ i => N - (intOf i).toNat)
  case atStart => exact ⟨0, rfl, rfl, Nat.zero_le _⟩
  case round =>
    obtain ⟨j, rfl, rfl, hj⟩ := hrel
    obtain ⟨x, hx⟩ : ∃ x, x = steps j v := ⟨_, rfl⟩
    rw [← hx]
    have HX := Lib.hid hx
    have HX2 := Lib.hid (show x < 4294967296 by rw [hx]; exact steps_lt H.out)
    clear hx
    by_cases hlt : j < N
    · go_wp2_with (go_at_call 159; refine (refStep_any x _ HX2.out).mono ?_; rintro e w1 ⟨rfl, rfl⟩)
      go_round
      case rel => exact ⟨j + 1, congrArg (fun z : Nat => Value.int .u32 (z : Int)) (by rw [steps_succ, HX.out]), by go_num, by omega⟩
      case measure => simp [intOf]; omega
    · have hjN : j = N := by omega
      have HR := Lib.hid (show x = steps N v by rw [HX.out, hjN])
      clear hjN
      go_wp2
      go_ret
      exact ⟨congrArg (fun z : Nat => Ending.returned (.int .u32 (z : Int))) HR.out, rfl⟩

def rsumRel (l : List UInt8) (n : Nat) (x i : Value) : Prop := ∃ j, x = .int .u32 (crc 4294967295 (l.take j) : Int) ∧ i = .int .i64 ((j : Nat) : Int) ∧ j ≤ n
theorem crc_take {v j : Nat} {l : List UInt8} {d : UInt8} (h : l[j]? = some d) : crc v (l.take (j + 1)) = steps 8 (crc v (l.take j) ^^^ d.toNat) := by
  rw [List.take_add_one, h]
  exact crc_snoc _ _ _
set_option maxRecDepth 100000 in
theorem refSum_any (A : Option Addr) (n c : Nat) (l : List UInt8) (B : Nat) (w : World) (hr : Rd w B A n l) (hn : n ≤ 1099511627776) :
    Calls Tryz.prog 120 #[.slice A n c] w fun e w' => e = .returned (.int .u32 (sum l : Int)) ∧ w = w' := by
  have HL := Lib.hid hr.len
  have HN := Lib.hid hn
  clear hn
  go_enter Tryz.func120, Tryz.ntmps120
  go_wp2
  go_loop [3, 4] (fun x i => rsumRel l n x i) (fun _ i => n - (intOf i).toNat)
  case atStart => exact ⟨0, rfl, rfl, Nat.zero_le _⟩
  case round =>
    obtain ⟨j, rfl, rfl, hj⟩ := hrel
    obtain ⟨x, hx⟩ : ∃ x, x = crc 4294967295 (l.take j) := ⟨_, rfl⟩
    rw [← hx]
    have HX := Lib.hid hx
    have HX2 := Lib.hid (show x < 4294967296 by rw [hx]; exact crc_lt (by omega))
    clear hx
    have hnn := HN.out
    by_cases hlt : j < n
    · obtain ⟨b, o, d, rfl, _, hd, hcell⟩ := hr.at hlt
      have HD := Lib.hid hd
      have hd255 : d.toNat ≤ 255 := by have := d.toNat_lt; omega
      have hxor := xor_u32 x d.toNat HX2.out (by omega)
      obtain ⟨y, hy⟩ : ∃ y, y = x ^^^ d.toNat := ⟨_, rfl⟩
      have HY := Lib.hid hy
      have HY2 := Lib.hid (show y < 4294967296 by rw [hy]; exact xor32 HX2.out (by omega))
      rw [← hy] at hxor
      clear hd hr hy
      go_wp2_with (go_at_call 147; refine (refSteps_any y 8 _ HY2.out (by omega)).mono ?_; rintro e w1 ⟨rfl, rfl⟩)
      go_round
      case rel => exact ⟨j + 1, congrArg (fun z : Nat => Value.int .u32 (z : Int)) (by rw [crc_take HD.out, HY.out, HX.out]), by go_num, by omega⟩
      case measure => simp [intOf]; omega
    · have hjn : j = n := by omega
      have HR := Lib.hid ((xor_u32 x 4294967295 HX2.out (by omega)).trans (congrArg Nat.cast (show x ^^^ 4294967295 = sum l by rw [HX.out, List.take_of_length_le (by have := HL.out; omega)]; rfl)))
      clear hjn hr
      go_wp2
      go_ret
      exact ⟨ret_int HR.out, rfl⟩

end Go.Proofs.YtlfbagkonckffaaGreat.Crc
