/- Joined: BatFew. -/
import Derived.Test.YtlfbagkonckffaaGreatJ29
/- The document's Few, of one batch. -/
namespace Go.Proofs.YtlfbagkonckffaaGreat.Bat
open Go.RowKit Oct Rec Crc Lay

def fwRel (rs : List Rc) (n : Nat) (w : World) (v i : Value) (wr : World) : Prop :=
  ∃ k m : Nat, v = .int .i64 (m : Int) ∧ i = .int .i64 (k : Int) ∧ k ≤ n ∧ m ≤ 20000 ∧ fewR rs 0 = fewR (rs.drop k) m ∧ Below w.heap.size w wr
theorem fewR_step {rs : List Rc} {k m : Nat} {r : Rc} (h : rs[k]? = some r) : fewR (rs.drop k) m = if 20000 < m + (r.key.size + r.val.size) then false else fewR (rs.drop (k + 1)) (m + (r.key.size + r.val.size)) := by
  have e : rs.drop k = r :: rs.drop (k + 1) := by
    obtain ⟨hlt, hr⟩ := List.getElem?_eq_some_iff.1 h
    rw [List.drop_eq_getElem_cons hlt, hr]
  rw [e]
  rfl
set_option maxRecDepth 100000 in
set_option maxHeartbeats 1000000 in
theorem refFew_is (ba la fr ep pi ge se : Int) (tx : Bool) (ct : Int) (rs : List Rc) (A : Option Addr) (n c : Nat) (w : World) (hr : RdR w w.heap.size A n rs) (hf : ∀ r ∈ rs, Fit r) (hn : n ≤ reach) {z : Bool} (hz : fewT ⟨ba, la, fr, ep, pi, ge, se, tx, ct, rs⟩ = z) :
    Calls Tryz.prog 14 #[.agg #[.int .i64 ba, .int .i64 la, .int .i64 fr, .int .i64 ep, .int .i64 pi, .int .i64 ge, .int .i64 se, .bool tx, .int .i64 ct, .slice A n c]] w fun e w' => e = .returned (.bool z) ∧ Below w.heap.size w w' := by
  have HZ := Lib.hid hz
  have HW1 := Lib.hid (bel_alloc (Below.refl w.heap.size w) (.cells #[.int .i64 ba, .int .i64 la, .int .i64 fr, .int .i64 ep, .int .i64 pi, .int .i64 ge, .int .i64 se, .bool tx, .int .i64 ct, .slice A n c] 28))
  have HB := Lib.hid (BR.new (b := ⟨ba, la, fr, ep, pi, ge, se, tx, ct, rs⟩) (c := c) 28 hr)
  have HF := Lib.hid hf
  have hn2 : n ≤ 140737488351232 := hn
  clear hz hr hf hn
  go_enter Tryz.func14, Tryz.ntmps14
  go_wp2
  generalize hw1 : w.alloc (.cells #[.int .i64 ba, .int .i64 la, .int .i64 fr, .int .i64 ep, .int .i64 pi, .int .i64 ge, .int .i64 se, .bool tx, .int .i64 ct, .slice A n c] 28) = w1 at *
  clear hw1
  go_loopw [3, 9] (fun v i wr => fwRel rs n w1 v i wr) (fun _ i _ => n - (intOf i).toNat)
  case atStart => exact ⟨0, 0, rfl, rfl, Nat.zero_le _, Nat.zero_le _, rfl, Below.refl _ _⟩
  case round =>
    obtain ⟨k, m, rfl, rfl, hk, hm, hR, hb⟩ := hrel
    have HR := Lib.hid hR
    have HBL := Lib.hid hb
    have HBR := Lib.hid (HB.out.below hb)
    clear hR hb
    by_cases hlt : k < n
    · obtain ⟨b, o, r, hA, _, hrk, hat⟩ := HBR.out.rd.at hlt
      have hfit := HF.out r (List.mem_of_getElem? hrk)
      have q1 : r.key.size ≤ 140737488351232 := hfit.2.2.1
      have q2 : r.val.size ≤ 140737488351232 := hfit.2.2.2
      have HS := Lib.hid (fewR_step (m := m) hrk)
      have HA := Lib.hid hA
      obtain ⟨a0, a1, a2, a3, a4⟩ := hat
      obtain ⟨ro, rk, rv, rd, rt⟩ := r
      simp only at a0 a1 a2 a3 a4 q1 q2
      subst hA
      clear hfit hrk HA
      by_cases hbig : 20000 < m + (rk.size + rv.size)
      · have HZF := Lib.hid (show z = false by
          rw [← HZ.out]
          unfold fewT
          simp only
          rw [HR.out, HS.out]
          simp only
          rw [if_pos hbig]
          rfl)
        have hbig2 : (20000 : Int) < (m : Int) + ((rk.size : Int) + (rv.size : Int)) := by omega
        clear hbig
        go_wp2
        go_ret
        exact ⟨by rw [HZF.out]; rfl, HW1.out.trans ((HBL.out.alloc HBL.out.size _).mono HW1.out.size)⟩
      · have HN := Lib.hid (show fewR rs 0 = fewR (rs.drop (k + 1)) (m + (rk.size + rv.size)) by
          rw [HR.out, HS.out]
          simp only
          rw [if_neg hbig])
        have hbig2 : ¬ (20000 : Int) < (m : Int) + ((rk.size : Int) + (rv.size : Int)) := by omega
        have hm2 : m + (rk.size + rv.size) ≤ 20000 := by omega
        clear hbig
        go_wp2
        go_roundw
        case rel => exact ⟨k + 1, m + (rk.size + rv.size), by go_num, by go_num, by omega, hm2, HN.out, HBL.out.alloc HBL.out.size _⟩
        case measure => simp [intOf]; omega
    · have hkn : k = n := by omega
      subst hkn
      obtain ⟨x0, x1, x2, x3, x4, x5, x6, x7, x8, x9⟩ := HBR.out.box
      have HZF := Lib.hid (show z = decide ((k : Int) ≤ 100) by
        rw [← HZ.out]
        have hl := HBR.out.rd.len
        unfold fewT
        simp only at hl ⊢
        rw [HR.out, hl, List.drop_of_length_le (by omega)]
        show (true && _) = _
        rw [Bool.true_and]
        exact decide_eq_decide.2 ⟨fun h => by omega, fun h => by omega⟩)
      go_wp2
      go_ret
      exact ⟨by rw [HZF.out]; rfl, HW1.out.trans (HBL.out.mono HW1.out.size)⟩
end Go.Proofs.YtlfbagkonckffaaGreat.Bat
