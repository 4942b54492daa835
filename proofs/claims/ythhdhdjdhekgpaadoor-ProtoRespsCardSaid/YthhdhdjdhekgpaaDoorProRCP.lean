/- Joined: ProRCP. -/
import Derived.Test.YthhdhdjdhekgpaaDoorProCP
import Derived.Test.YthhdhdjdhekgpaaDoorProP3
import Derived.Test.YthhdhdjdhekgpaaDoorInL
import Derived.Deep.DeepCutAuto
/- The document's checkResp. -/
namespace Go.Proofs.YthhdhdjdhekgpaaDoor.Pro
open Go.RowKit Go.Proofs.YthhdhdjdhekgpaaDoor.Oct Go.Proofs.YthhdhdjdhekgpaaDoor.Lay Go.Proofs.YthhdhdjdhekgpaaDoor.InR

set_option maxRecDepth 100000 in
set_option maxHeartbeats 40000000 in
theorem refcheckResp_any (k v i E t : Int) (A1 : Option Addr) (n1 c1 : Nat) (l1 : List Int) (A2 : Option Addr) (n2 c2 : Nat) (l2 : List ByteArray) (A3 : Option Addr) (n3 c3 : Nat) (l3 : List UInt8) (w : World)
    (hI : RdL w w.heap.size A1 n1 l1) (hn1 : n1 ≤ 140737488351232) (hT : RdL w w.heap.size A2 n2 l2) (hn2 : n2 ≤ 140737488351232) (hn3 : n3 ≤ 140737488351232) (hl3 : l3.length = n3) :
    Calls Tryd.prog 71 #[.agg #[.int .i64 k, .int .i64 v, .int .i64 i, .int .i64 E, .int .i64 t, .slice A1 n1 c1, .slice A2 n2 c2, .slice A3 n3 c3]] w fun e w' => e = .returned (.int .i64 (ckP ⟨k, v, i, E, t, l1, l2, l3⟩)) ∧ Below w.heap.size w w' := by
  have HI := Lib.hid hI
  have HT := Lib.hid hT
  have HL1 := Lib.hid hI.len
  have HL2 := Lib.hid hT.len
  have HL3 := Lib.hid hl3
  clear hI hT hl3
  obtain ⟨z, hz⟩ : ∃ z, known k v = z := ⟨_, rfl⟩
  have HKN := Lib.hid hz
  by_cases hz0 : z = 0
  case neg =>
    have HZ := Lib.hid (show ckP ⟨k, v, i, E, t, l1, l2, l3⟩ = z from (ckP_head (r := ⟨k, v, i, E, t, l1, l2, l3⟩) (by show known k v ≠ 0; omega)).trans hz)
    have hzN : (z != 0) = true := by simp [hz0]
    clear hz hz0
    rw [HZ.out]
    go_enter Tryd.func71, Tryd.ntmps71
    go_wp2_with (go_at_call 65; (with_reducible refine (refknown_any k v _).mono ?_); rw [HKN.out]; rintro e w9 ⟨rfl, rfl⟩)
    go_ret
    exact ⟨rfl, bel_alloc (Below.refl _ _) _⟩
  subst hz0
  have HBAD := Lib.hid (fun h : ¬ OkP ⟨k, v, i, E, t, l1, l2, l3⟩ => ckP_one (r := ⟨k, v, i, E, t, l1, l2, l3⟩) hz h)
  clear hz
  go_enter Tryd.func71, Tryd.ntmps71
  go_upto_region 4 with (go_at_call 65; (with_reducible refine (refknown_any k v _).mono ?_); rw [HKN.out]; rintro e w9 ⟨rfl, rfl⟩)
  obtain ⟨q0, q1, q2, q3, q4, q5, q6, q7⟩ := BoxP_new w 38 k v i E t (.slice A1 n1 c1) (.slice A2 n2 c2) (.slice A3 n3 c3)
  have HB0 := Lib.hid (bel_alloc (Below.refl w.heap.size w) (.cells #[.int .i64 k, .int .i64 v, .int .i64 i, .int .i64 E, .int .i64 t, .slice A1 n1 c1, .slice A2 n2 c2, .slice A3 n3 c3] 38))
  generalize (w.alloc (.cells #[.int .i64 k, .int .i64 v, .int .i64 i, .int .i64 E, .int .i64 t, .slice A1 n1 c1, .slice A2 n2 c2, .slice A3 n3 c3] 38)) = wd at HB0 q0 q1 q2 q3 q4 q5 q6 q7 ⊢
  refine region_seq fun ops Q HOPS HQ => ?_
  refine lstepQ HOPS ?_ rfl (by kernel_rfl) rfl ?_ ?_
  rotate_left
  · go_simp; (first | done | with_reducible rfl)
  dsimp only [List.set_cons_zero, List.set_cons_succ]
  refine lstepQ HOPS ?_ rfl (by kernel_rfl) rfl ?_ ?_
  rotate_left
  · go_simp; (first | done | with_reducible rfl)
  dsimp only [List.set_cons_zero, List.set_cons_succ]
  rcases y1 : decide (i < 0) with _ | _
  · have y1' := of_decide_eq_false y1
    refine lstepQ HOPS ?_ rfl (by kernel_rfl) rfl ?_ ?_
    rotate_left
    · go_simp; (first | done | with_reducible rfl)
    dsimp only [List.set_cons_zero, List.set_cons_succ]
    refine lstepQ HOPS ?_ rfl (by kernel_rfl) rfl ?_ ?_
    rotate_left
    · go_simp; (first | done | with_reducible rfl)
    dsimp only [List.set_cons_zero, List.set_cons_succ]
    refine lstepQ HOPS ?_ rfl (by kernel_rfl) rfl ?_ ?_
    rotate_left
    · go_simp; (first | done | with_reducible rfl)
    dsimp only [List.set_cons_zero, List.set_cons_succ]
    refine lstepQ HOPS ?_ rfl (by kernel_rfl) rfl ?_ ?_
    rotate_left
    · go_simp; (first | done | with_reducible rfl)
    dsimp only [List.set_cons_zero, List.set_cons_succ]
    rcases y2 : decide (1099511627776 < i) with _ | _
    · have y2' := of_decide_eq_false y2
      refine lstepQ HOPS ?_ rfl (by kernel_rfl) rfl ?_ ?_
      rotate_left
      · go_simp; (first | done | with_reducible rfl)
      dsimp only [List.set_cons_zero, List.set_cons_succ]
      refine lstepQ HOPS ?_ rfl (by kernel_rfl) rfl ?_ ?_
      rotate_left
      · go_simp; (first | done | with_reducible rfl)
      dsimp only [List.set_cons_zero, List.set_cons_succ]
      refine lstepQ HOPS ?_ rfl (by kernel_rfl) rfl ?_ ?_
      rotate_left
      · go_simp; (first | done | with_reducible rfl)
      dsimp only [List.set_cons_zero, List.set_cons_succ]
      refine lstepQ HOPS ?_ rfl (by kernel_rfl) rfl ?_ ?_
      rotate_left
      · go_simp; (first | done | with_reducible rfl)
      dsimp only [List.set_cons_zero, List.set_cons_succ]
      refine lstepQ HOPS ?_ rfl (by kernel_rfl) rfl ?_ ?_
      rotate_left
      · go_simp; (first | done | with_reducible rfl)
      dsimp only [List.set_cons_zero, List.set_cons_succ]
      rcases y3 : decide (t < 0) with _ | _
      · have y3' := of_decide_eq_false y3
        refine lstepQ HOPS ?_ rfl (by kernel_rfl) rfl ?_ ?_
        rotate_left
        · go_simp; (first | done | with_reducible rfl)
        dsimp only [List.set_cons_zero, List.set_cons_succ]
        refine lstepQ HOPS ?_ rfl (by kernel_rfl) rfl ?_ ?_
        rotate_left
        · go_simp; (first | done | with_reducible rfl)
        dsimp only [List.set_cons_zero, List.set_cons_succ]
        refine lstepQ HOPS ?_ rfl (by kernel_rfl) rfl ?_ ?_
        rotate_left
        · go_simp; (first | done | with_reducible rfl)
        dsimp only [List.set_cons_zero, List.set_cons_succ]
        refine lstepQ HOPS ?_ rfl (by kernel_rfl) rfl ?_ ?_
        rotate_left
        · go_simp; (first | done | with_reducible rfl)
        dsimp only [List.set_cons_zero, List.set_cons_succ]
        refine lstepQ HOPS ?_ rfl (by kernel_rfl) rfl ?_ ?_
        rotate_left
        · go_simp; (first | done | with_reducible rfl)
        dsimp only [List.set_cons_zero, List.set_cons_succ]
        rcases y4 : decide (1099511627776 < t) with _ | _
        · have y4' := of_decide_eq_false y4
          refine lstepQ HOPS ?_ rfl (by kernel_rfl) rfl ?_ ?_
          rotate_left
          · go_simp; (first | done | with_reducible rfl)
          dsimp only [List.set_cons_zero, List.set_cons_succ]
          refine lstepQ HOPS ?_ rfl (by kernel_rfl) rfl ?_ ?_
          rotate_left
          · go_simp; (first | done | with_reducible rfl)
          dsimp only [List.set_cons_zero, List.set_cons_succ]
          refine lstepQ HOPS ?_ rfl (by kernel_rfl) rfl ?_ ?_
          rotate_left
          · go_simp; (first | done | with_reducible rfl)
          dsimp only [List.set_cons_zero, List.set_cons_succ]
          refine lstepQ HOPS ?_ rfl (by kernel_rfl) rfl ?_ ?_
          rotate_left
          · go_simp; (first | done | with_reducible rfl)
          dsimp only [List.set_cons_zero, List.set_cons_succ]
          refine lstepQ HOPS ?_ rfl (by kernel_rfl) rfl ?_ ?_
          rotate_left
          · go_simp; (first | done | with_reducible rfl)
          dsimp only [List.set_cons_zero, List.set_cons_succ]
          rcases y5 : (v == 0) with _ | _
          · have HW0 := Lib.hid (show v = 0 → t = 0 from fun h => by rw [h] at y5; cases y5)
            refine lstepQ HOPS ?_ rfl (by kernel_rfl) rfl ?_ ?_
            rotate_left
            · go_simp; (first | done | with_reducible rfl)
            dsimp only [List.set_cons_zero, List.set_cons_succ]
            refine lstepQ HOPS ?_ rfl (by kernel_rfl) rfl ?_ ?_
            rotate_left
            · go_simp; (first | done | with_reducible rfl)
            dsimp only [List.set_cons_zero, List.set_cons_succ]
            refine lstepU HOPS rfl (by kernel_rfl) rfl ?_
            dsimp only [List.set_cons_zero, List.set_cons_succ]
            refine lstepU HOPS rfl (by kernel_rfl) rfl ?_
            dsimp only [List.set_cons_zero, List.set_cons_succ]
            refine lstepU HOPS rfl (by kernel_rfl) rfl ?_
            dsimp only [List.set_cons_zero, List.set_cons_succ]
            refine lstepQ HOPS ?_ rfl (by kernel_rfl) rfl ?_ ?_
            rotate_left
            · go_simp; (first | done | with_reducible rfl)
            dsimp only [List.set_cons_zero, List.set_cons_succ]
            refine lstepQ HOPS ?_ rfl (by kernel_rfl) rfl ?_ ?_
            rotate_left
            · go_simp; (first | done | with_reducible rfl)
            dsimp only [List.set_cons_zero, List.set_cons_succ]
            refine lstepQ HOPS ?_ rfl (by kernel_rfl) rfl ?_ ?_
            rotate_left
            · go_simp; (first | done | with_reducible rfl)
            dsimp only [List.set_cons_zero, List.set_cons_succ]
            refine lstepQ HOPS ?_ rfl (by kernel_rfl) rfl ?_ ?_
            rotate_left
            · go_simp; (first | done | with_reducible rfl)
            dsimp only [List.set_cons_zero, List.set_cons_succ]
            refine lstepQ HOPS ?_ rfl (by kernel_rfl) rfl ?_ ?_
            rotate_left
            · go_simp; (first | done | with_reducible rfl)
            dsimp only [List.set_cons_zero, List.set_cons_succ]
            rcases y7 : decide (E < 0) with _ | _
            · have y7' := of_decide_eq_false y7
              refine lstepQ HOPS ?_ rfl (by kernel_rfl) rfl ?_ ?_
              rotate_left
              · go_simp; (first | done | with_reducible rfl)
              dsimp only [List.set_cons_zero, List.set_cons_succ]
              refine lstepQ HOPS ?_ rfl (by kernel_rfl) rfl ?_ ?_
              rotate_left
              · go_simp; (first | done | with_reducible rfl)
              dsimp only [List.set_cons_zero, List.set_cons_succ]
              refine lstepQ HOPS ?_ rfl (by kernel_rfl) rfl ?_ ?_
              rotate_left
              · go_simp; (first | done | with_reducible rfl)
              dsimp only [List.set_cons_zero, List.set_cons_succ]
              refine lstepQ HOPS ?_ rfl (by kernel_rfl) rfl ?_ ?_
              rotate_left
              · go_simp; (first | done | with_reducible rfl)
              dsimp only [List.set_cons_zero, List.set_cons_succ]
              refine lstepQ HOPS ?_ rfl (by kernel_rfl) rfl ?_ ?_
              rotate_left
              · go_simp; (first | done | with_reducible rfl)
              dsimp only [List.set_cons_zero, List.set_cons_succ]
              rcases y8 : decide (999 < E) with _ | _
              · have y8' := of_decide_eq_false y8
                refine lstepQ HOPS ?_ rfl (by kernel_rfl) rfl ?_ ?_
                rotate_left
                · go_simp; (first | done | with_reducible rfl)
                dsimp only [List.set_cons_zero, List.set_cons_succ]
                refine lstepQ HOPS ?_ rfl (by kernel_rfl) rfl ?_ ?_
                rotate_left
                · go_simp; (first | done | with_reducible rfl)
                dsimp only [List.set_cons_zero, List.set_cons_succ]
                refine lstepQ HOPS ?_ rfl (by kernel_rfl) rfl ?_ ?_
                rotate_left
                · go_simp; (first | done | with_reducible rfl)
                dsimp only [List.set_cons_zero, List.set_cons_succ]
                refine lstepQ HOPS ?_ rfl (by kernel_rfl) rfl ?_ ?_
                rotate_left
                · go_simp; (first | done | with_reducible rfl)
                dsimp only [List.set_cons_zero, List.set_cons_succ]
                refine lstepQ HOPS ?_ rfl (by kernel_rfl) rfl ?_ ?_
                rotate_left
                · go_simp; (first | done | with_reducible rfl)
                dsimp only [List.set_cons_zero, List.set_cons_succ]
                refine lstepQ HOPS ?_ rfl (by kernel_rfl) rfl ?_ ?_
                rotate_left
                · go_simp; (first | done | with_reducible rfl)
                dsimp only [List.set_cons_zero, List.set_cons_succ]
                rcases y8b : decide (64 < (n1 : Int)) with _ | _
                · have y8b' := of_decide_eq_false y8b
                  refine lstepQ HOPS ?_ rfl (by kernel_rfl) rfl ?_ ?_
                  rotate_left
                  · go_simp; (first | done | with_reducible rfl)
                  dsimp only [List.set_cons_zero, List.set_cons_succ]
                  refine lstepQ HOPS ?_ rfl (by kernel_rfl) rfl ?_ ?_
                  rotate_left
                  · go_simp; (first | done | with_reducible rfl)
                  dsimp only [List.set_cons_zero, List.set_cons_succ]
                  refine lstepQ HOPS ?_ rfl (by kernel_rfl) rfl ?_ ?_
                  rotate_left
                  · go_simp; (first | done | with_reducible rfl)
                  dsimp only [List.set_cons_zero, List.set_cons_succ]
                  refine lstepQ HOPS ?_ rfl (by kernel_rfl) rfl ?_ ?_
                  rotate_left
                  · go_simp; (first | done | with_reducible rfl)
                  dsimp only [List.set_cons_zero, List.set_cons_succ]
                  refine lstepQ HOPS ?_ rfl (by kernel_rfl) rfl ?_ ?_
                  rotate_left
                  · go_simp; (first | done | with_reducible rfl)
                  dsimp only [List.set_cons_zero, List.set_cons_succ]
                  rcases y9 : allIn l1 (-1099511627776) 1099511627776 with _ | _
                  · have HZ := Lib.hid (HBAD.out fun h => by rw [allIn_iff.2 h.2.2.2.2.2.1] at y9; cases y9)
                    refine lstepC HOPS rfl (by kernel_rfl) ?_
                    go_simp
                    with_reducible refine (refin_any A1 n1 c1 l1 (-1099511627776) 1099511627776 w.heap.size _ (HI.out.below HB0.out (Nat.le_refl _)) hn1).mono ?_
                    rw [y9]
                    rintro e w9 ⟨rfl, rfl⟩
                    dsimp only
                    try simp only [Act.put, List.setIfInBounds_toArray, List.set_cons_zero, List.set_cons_succ]
                    refine lstepQ HOPS ?_ rfl (by kernel_rfl) rfl ?_ ?_
                    rotate_left
                    · go_simp; (first | done | with_reducible rfl)
                    dsimp only [List.set_cons_zero, List.set_cons_succ]
                    refine lstepQ HOPS ?_ rfl (by kernel_rfl) rfl ?_ ?_
                    rotate_left
                    · go_simp; (first | done | with_reducible rfl)
                    dsimp only [List.set_cons_zero, List.set_cons_succ]
                    refine lstepQ HOPS ?_ rfl (by kernel_rfl) rfl ?_ ?_
                    rotate_left
                    · go_simp; (first | done | with_reducible rfl)
                    dsimp only [List.set_cons_zero, List.set_cons_succ]
                    refine lstepU HOPS rfl (by kernel_rfl) rfl ?_
                    dsimp only [List.set_cons_zero, List.set_cons_succ]
                    refine lstepU HOPS rfl (by kernel_rfl) rfl ?_
                    dsimp only [List.set_cons_zero, List.set_cons_succ]
                    refine lstepU HOPS rfl (by kernel_rfl) rfl ?_
                    dsimp only [List.set_cons_zero, List.set_cons_succ]
                    refine lstepU HOPS rfl (by kernel_rfl) rfl ?_
                    dsimp only [List.set_cons_zero, List.set_cons_succ]
                    refine lstepQ HOPS ?_ rfl (by kernel_rfl) rfl ?_ ?_
                    rotate_left
                    · go_simp; (first | done | with_reducible rfl)
                    dsimp only [List.set_cons_zero, List.set_cons_succ]
                    refine lstepQ HOPS ?_ rfl (by kernel_rfl) rfl ?_ ?_
                    rotate_left
                    · go_simp; (first | done | with_reducible rfl)
                    dsimp only [List.set_cons_zero, List.set_cons_succ]
                    refine lstepU HOPS rfl (by kernel_rfl) rfl ?_
                    dsimp only [List.set_cons_zero, List.set_cons_succ]
                    refine lstepU HOPS rfl (by kernel_rfl) rfl ?_
                    dsimp only [List.set_cons_zero, List.set_cons_succ]
                    refine lstepU HOPS rfl (by kernel_rfl) rfl ?_
                    dsimp only [List.set_cons_zero, List.set_cons_succ]
                    refine lstepU HOPS rfl (by kernel_rfl) rfl ?_
                    dsimp only [List.set_cons_zero, List.set_cons_succ]
                    refine lstepQ HOPS ?_ rfl (by kernel_rfl) rfl ?_ ?_
                    rotate_left
                    · go_simp; (first | done | with_reducible rfl)
                    dsimp only [List.set_cons_zero, List.set_cons_succ]
                    refine lstepQ HOPS ?_ rfl (by kernel_rfl) rfl ?_ ?_
                    rotate_left
                    · go_simp; (first | done | with_reducible rfl)
                    dsimp only [List.set_cons_zero, List.set_cons_succ]
                    refine lstepU HOPS rfl (by kernel_rfl) rfl ?_
                    dsimp only [List.set_cons_zero, List.set_cons_succ]
                    refine lstepU HOPS rfl (by kernel_rfl) rfl ?_
                    dsimp only [List.set_cons_zero, List.set_cons_succ]
                    refine lstepU HOPS rfl (by kernel_rfl) rfl ?_
                    dsimp only [List.set_cons_zero, List.set_cons_succ]
                    refine lstepU HOPS rfl (by kernel_rfl) rfl ?_
                    dsimp only [List.set_cons_zero, List.set_cons_succ]
                    refine lstepQ HOPS ?_ rfl (by kernel_rfl) rfl ?_ ?_
                    rotate_left
                    · go_simp; (first | done | with_reducible rfl)
                    dsimp only [List.set_cons_zero, List.set_cons_succ]
                    refine lstepE HOPS (by decide) (HQ.out _ _ ?_)
                    clear HQ HOPS
                    clear Q ops
                    go_wp2
                    go_ret
                    exact ⟨by rw [HZ.out]; rfl, HB0.out⟩
                  · have y9' := Lib.hid y9
                    refine lstepC HOPS rfl (by kernel_rfl) ?_
                    go_simp
                    with_reducible refine (refin_any A1 n1 c1 l1 (-1099511627776) 1099511627776 w.heap.size _ (HI.out.below HB0.out (Nat.le_refl _)) hn1).mono ?_
                    rw [y9]
                    rintro e w9 ⟨rfl, rfl⟩
                    dsimp only
                    try simp only [Act.put, List.setIfInBounds_toArray, List.set_cons_zero, List.set_cons_succ]
                    refine lstepQ HOPS ?_ rfl (by kernel_rfl) rfl ?_ ?_
                    rotate_left
                    · go_simp; (first | done | with_reducible rfl)
                    dsimp only [List.set_cons_zero, List.set_cons_succ]
                    refine lstepQ HOPS ?_ rfl (by kernel_rfl) rfl ?_ ?_
                    rotate_left
                    · go_simp; (first | done | with_reducible rfl)
                    dsimp only [List.set_cons_zero, List.set_cons_succ]
                    refine lstepQ HOPS ?_ rfl (by kernel_rfl) rfl ?_ ?_
                    rotate_left
                    · go_simp; (first | done | with_reducible rfl)
                    dsimp only [List.set_cons_zero, List.set_cons_succ]
                    refine lstepQ HOPS ?_ rfl (by kernel_rfl) rfl ?_ ?_
                    rotate_left
                    · go_simp; (first | done | with_reducible rfl)
                    dsimp only [List.set_cons_zero, List.set_cons_succ]
                    refine lstepQ HOPS ?_ rfl (by kernel_rfl) rfl ?_ ?_
                    rotate_left
                    · go_simp; (first | done | with_reducible rfl)
                    dsimp only [List.set_cons_zero, List.set_cons_succ]
                    refine lstepQ HOPS ?_ rfl (by kernel_rfl) rfl ?_ ?_
                    rotate_left
                    · go_simp; (first | done | with_reducible rfl)
                    dsimp only [List.set_cons_zero, List.set_cons_succ]
                    rcases y10 : decide (16 < (n2 : Int)) with _ | _
                    · have y10' := of_decide_eq_false y10
                      refine lstepQ HOPS ?_ rfl (by kernel_rfl) rfl ?_ ?_
                      rotate_left
                      · go_simp; (first | done | with_reducible rfl)
                      dsimp only [List.set_cons_zero, List.set_cons_succ]
                      refine lstepQ HOPS ?_ rfl (by kernel_rfl) rfl ?_ ?_
                      rotate_left
                      · go_simp; (first | done | with_reducible rfl)
                      dsimp only [List.set_cons_zero, List.set_cons_succ]
                      refine lstepQ HOPS ?_ rfl (by kernel_rfl) rfl ?_ ?_
                      rotate_left
                      · go_simp; (first | done | with_reducible rfl)
                      dsimp only [List.set_cons_zero, List.set_cons_succ]
                      refine lstepQ HOPS ?_ rfl (by kernel_rfl) rfl ?_ ?_
                      rotate_left
                      · go_simp; (first | done | with_reducible rfl)
                      dsimp only [List.set_cons_zero, List.set_cons_succ]
                      refine lstepQ HOPS ?_ rfl (by kernel_rfl) rfl ?_ ?_
                      rotate_left
                      · go_simp; (first | done | with_reducible rfl)
                      dsimp only [List.set_cons_zero, List.set_cons_succ]
                      rcases y11 : allShort 64 l2 with _ | _
                      · have HZ := Lib.hid (HBAD.out fun h => by rw [allShort_iff.2 h.2.2.2.2.2.2.2.1] at y11; cases y11)
                        refine lstepC HOPS rfl (by kernel_rfl) ?_
                        go_simp
                        with_reducible refine (refshort_any A2 n2 c2 l2 w.heap.size _ (HT.out.below HB0.out (Nat.le_refl _)) hn2).mono ?_
                        rw [y11]
                        rintro e w9 ⟨rfl, rfl⟩
                        dsimp only
                        try simp only [Act.put, List.setIfInBounds_toArray, List.set_cons_zero, List.set_cons_succ]
                        refine lstepQ HOPS ?_ rfl (by kernel_rfl) rfl ?_ ?_
                        rotate_left
                        · go_simp; (first | done | with_reducible rfl)
                        dsimp only [List.set_cons_zero, List.set_cons_succ]
                        refine lstepQ HOPS ?_ rfl (by kernel_rfl) rfl ?_ ?_
                        rotate_left
                        · go_simp; (first | done | with_reducible rfl)
                        dsimp only [List.set_cons_zero, List.set_cons_succ]
                        refine lstepQ HOPS ?_ rfl (by kernel_rfl) rfl ?_ ?_
                        rotate_left
                        · go_simp; (first | done | with_reducible rfl)
                        dsimp only [List.set_cons_zero, List.set_cons_succ]
                        refine lstepU HOPS rfl (by kernel_rfl) rfl ?_
                        dsimp only [List.set_cons_zero, List.set_cons_succ]
                        refine lstepU HOPS rfl (by kernel_rfl) rfl ?_
                        dsimp only [List.set_cons_zero, List.set_cons_succ]
                        refine lstepU HOPS rfl (by kernel_rfl) rfl ?_
                        dsimp only [List.set_cons_zero, List.set_cons_succ]
                        refine lstepU HOPS rfl (by kernel_rfl) rfl ?_
                        dsimp only [List.set_cons_zero, List.set_cons_succ]
                        refine lstepQ HOPS ?_ rfl (by kernel_rfl) rfl ?_ ?_
                        rotate_left
                        · go_simp; (first | done | with_reducible rfl)
                        dsimp only [List.set_cons_zero, List.set_cons_succ]
                        refine lstepE HOPS (by decide) (HQ.out _ _ ?_)
                        clear HQ HOPS
                        clear Q ops
                        go_wp2
                        go_ret
                        exact ⟨by rw [HZ.out]; rfl, HB0.out⟩
                      · have y11' := Lib.hid y11
                        refine lstepC HOPS rfl (by kernel_rfl) ?_
                        go_simp
                        with_reducible refine (refshort_any A2 n2 c2 l2 w.heap.size _ (HT.out.below HB0.out (Nat.le_refl _)) hn2).mono ?_
                        rw [y11]
                        rintro e w9 ⟨rfl, rfl⟩
                        dsimp only
                        try simp only [Act.put, List.setIfInBounds_toArray, List.set_cons_zero, List.set_cons_succ]
                        refine lstepQ HOPS ?_ rfl (by kernel_rfl) rfl ?_ ?_
                        rotate_left
                        · go_simp; (first | done | with_reducible rfl)
                        dsimp only [List.set_cons_zero, List.set_cons_succ]
                        refine lstepQ HOPS ?_ rfl (by kernel_rfl) rfl ?_ ?_
                        rotate_left
                        · go_simp; (first | done | with_reducible rfl)
                        dsimp only [List.set_cons_zero, List.set_cons_succ]
                        refine lstepQ HOPS ?_ rfl (by kernel_rfl) rfl ?_ ?_
                        rotate_left
                        · go_simp; (first | done | with_reducible rfl)
                        dsimp only [List.set_cons_zero, List.set_cons_succ]
                        refine lstepQ HOPS ?_ rfl (by kernel_rfl) rfl ?_ ?_
                        rotate_left
                        · go_simp; (first | done | with_reducible rfl)
                        dsimp only [List.set_cons_zero, List.set_cons_succ]
                        refine lstepQ HOPS ?_ rfl (by kernel_rfl) rfl ?_ ?_
                        rotate_left
                        · go_simp; (first | done | with_reducible rfl)
                        dsimp only [List.set_cons_zero, List.set_cons_succ]
                        refine lstepQ HOPS ?_ rfl (by kernel_rfl) rfl ?_ ?_
                        rotate_left
                        · go_simp; (first | done | with_reducible rfl)
                        dsimp only [List.set_cons_zero, List.set_cons_succ]
                        rcases y12 : decide (4096 < (n3 : Int)) with _ | _
                        · have y12' := of_decide_eq_false y12
                          have HZ := Lib.hid (show ckP ⟨k, v, i, E, t, l1, l2, l3⟩ = 0 from ckP_iff.2 ⟨HKN.out, ⟨by show 0 ≤ i ∧ i ≤ 1099511627776; omega, by show 0 ≤ t ∧ t ≤ 1099511627776; omega, HW0.out, by show 0 ≤ E ∧ E ≤ 999; omega, by show l1.length ≤ 64; rw [HL1.out]; omega, allIn_iff.1 y9'.out, by show l2.length ≤ 16; rw [HL2.out]; omega, allShort_iff.1 y11'.out, by show l3.length ≤ 4096; rw [HL3.out]; omega⟩⟩)
                          refine lstepQ HOPS ?_ rfl (by kernel_rfl) rfl ?_ ?_
                          rotate_left
                          · go_simp; (first | done | with_reducible rfl)
                          dsimp only [List.set_cons_zero, List.set_cons_succ]
                          refine lstepQ HOPS ?_ rfl (by kernel_rfl) rfl ?_ ?_
                          rotate_left
                          · go_simp; (first | done | with_reducible rfl)
                          dsimp only [List.set_cons_zero, List.set_cons_succ]
                          refine lstepE HOPS (by decide) (HQ.out _ _ ?_)
                          clear HQ HOPS
                          clear Q ops
                          go_wp2
                          go_ret
                          exact ⟨by rw [HZ.out]; rfl, HB0.out⟩
                        · have y12' := of_decide_eq_true y12
                          have HZ := Lib.hid (HBAD.out fun h => by have h7 : l3.length ≤ 4096 := h.2.2.2.2.2.2.2.2; rw [HL3.out] at h7; omega)
                          refine lstepQ HOPS ?_ rfl (by kernel_rfl) rfl ?_ ?_
                          rotate_left
                          · go_simp; (first | done | with_reducible rfl)
                          dsimp only [List.set_cons_zero, List.set_cons_succ]
                          refine lstepQ HOPS ?_ rfl (by kernel_rfl) rfl ?_ ?_
                          rotate_left
                          · go_simp; (first | done | with_reducible rfl)
                          dsimp only [List.set_cons_zero, List.set_cons_succ]
                          refine lstepE HOPS (by decide) (HQ.out _ _ ?_)
                          clear HQ HOPS
                          clear Q ops
                          go_wp2
                          go_ret
                          exact ⟨by rw [HZ.out]; rfl, HB0.out⟩
                    · have y10' := of_decide_eq_true y10
                      have HZ := Lib.hid (HBAD.out fun h => by have h7 : l2.length ≤ 16 := h.2.2.2.2.2.2.1; rw [HL2.out] at h7; omega)
                      refine lstepQ HOPS ?_ rfl (by kernel_rfl) rfl ?_ ?_
                      rotate_left
                      · go_simp; (first | done | with_reducible rfl)
                      dsimp only [List.set_cons_zero, List.set_cons_succ]
                      refine lstepQ HOPS ?_ rfl (by kernel_rfl) rfl ?_ ?_
                      rotate_left
                      · go_simp; (first | done | with_reducible rfl)
                      dsimp only [List.set_cons_zero, List.set_cons_succ]
                      refine lstepQ HOPS ?_ rfl (by kernel_rfl) rfl ?_ ?_
                      rotate_left
                      · go_simp; (first | done | with_reducible rfl)
                      dsimp only [List.set_cons_zero, List.set_cons_succ]
                      refine lstepU HOPS rfl (by kernel_rfl) rfl ?_
                      dsimp only [List.set_cons_zero, List.set_cons_succ]
                      refine lstepU HOPS rfl (by kernel_rfl) rfl ?_
                      dsimp only [List.set_cons_zero, List.set_cons_succ]
                      refine lstepU HOPS rfl (by kernel_rfl) rfl ?_
                      dsimp only [List.set_cons_zero, List.set_cons_succ]
                      refine lstepU HOPS rfl (by kernel_rfl) rfl ?_
                      dsimp only [List.set_cons_zero, List.set_cons_succ]
                      refine lstepQ HOPS ?_ rfl (by kernel_rfl) rfl ?_ ?_
                      rotate_left
                      · go_simp; (first | done | with_reducible rfl)
                      dsimp only [List.set_cons_zero, List.set_cons_succ]
                      refine lstepQ HOPS ?_ rfl (by kernel_rfl) rfl ?_ ?_
                      rotate_left
                      · go_simp; (first | done | with_reducible rfl)
                      dsimp only [List.set_cons_zero, List.set_cons_succ]
                      refine lstepU HOPS rfl (by kernel_rfl) rfl ?_
                      dsimp only [List.set_cons_zero, List.set_cons_succ]
                      refine lstepU HOPS rfl (by kernel_rfl) rfl ?_
                      dsimp only [List.set_cons_zero, List.set_cons_succ]
                      refine lstepU HOPS rfl (by kernel_rfl) rfl ?_
                      dsimp only [List.set_cons_zero, List.set_cons_succ]
                      refine lstepU HOPS rfl (by kernel_rfl) rfl ?_
                      dsimp only [List.set_cons_zero, List.set_cons_succ]
                      refine lstepQ HOPS ?_ rfl (by kernel_rfl) rfl ?_ ?_
                      rotate_left
                      · go_simp; (first | done | with_reducible rfl)
                      dsimp only [List.set_cons_zero, List.set_cons_succ]
                      refine lstepE HOPS (by decide) (HQ.out _ _ ?_)
                      clear HQ HOPS
                      clear Q ops
                      go_wp2
                      go_ret
                      exact ⟨by rw [HZ.out]; rfl, HB0.out⟩
                · have y8b' := of_decide_eq_true y8b
                  have HZ := Lib.hid (HBAD.out fun h => by have h7 : l1.length ≤ 64 := h.2.2.2.2.1; rw [HL1.out] at h7; omega)
                  refine lstepQ HOPS ?_ rfl (by kernel_rfl) rfl ?_ ?_
                  rotate_left
                  · go_simp; (first | done | with_reducible rfl)
                  dsimp only [List.set_cons_zero, List.set_cons_succ]
                  refine lstepQ HOPS ?_ rfl (by kernel_rfl) rfl ?_ ?_
                  rotate_left
                  · go_simp; (first | done | with_reducible rfl)
                  dsimp only [List.set_cons_zero, List.set_cons_succ]
                  refine lstepQ HOPS ?_ rfl (by kernel_rfl) rfl ?_ ?_
                  rotate_left
                  · go_simp; (first | done | with_reducible rfl)
                  dsimp only [List.set_cons_zero, List.set_cons_succ]
                  refine lstepU HOPS rfl (by kernel_rfl) rfl ?_
                  dsimp only [List.set_cons_zero, List.set_cons_succ]
                  refine lstepU HOPS rfl (by kernel_rfl) rfl ?_
                  dsimp only [List.set_cons_zero, List.set_cons_succ]
                  refine lstepU HOPS rfl (by kernel_rfl) rfl ?_
                  dsimp only [List.set_cons_zero, List.set_cons_succ]
                  refine lstepU HOPS rfl (by kernel_rfl) rfl ?_
                  dsimp only [List.set_cons_zero, List.set_cons_succ]
                  refine lstepQ HOPS ?_ rfl (by kernel_rfl) rfl ?_ ?_
                  rotate_left
                  · go_simp; (first | done | with_reducible rfl)
                  dsimp only [List.set_cons_zero, List.set_cons_succ]
                  refine lstepQ HOPS ?_ rfl (by kernel_rfl) rfl ?_ ?_
                  rotate_left
                  · go_simp; (first | done | with_reducible rfl)
                  dsimp only [List.set_cons_zero, List.set_cons_succ]
                  refine lstepU HOPS rfl (by kernel_rfl) rfl ?_
                  dsimp only [List.set_cons_zero, List.set_cons_succ]
                  refine lstepU HOPS rfl (by kernel_rfl) rfl ?_
                  dsimp only [List.set_cons_zero, List.set_cons_succ]
                  refine lstepU HOPS rfl (by kernel_rfl) rfl ?_
                  dsimp only [List.set_cons_zero, List.set_cons_succ]
                  refine lstepU HOPS rfl (by kernel_rfl) rfl ?_
                  dsimp only [List.set_cons_zero, List.set_cons_succ]
                  refine lstepQ HOPS ?_ rfl (by kernel_rfl) rfl ?_ ?_
                  rotate_left
                  · go_simp; (first | done | with_reducible rfl)
                  dsimp only [List.set_cons_zero, List.set_cons_succ]
                  refine lstepQ HOPS ?_ rfl (by kernel_rfl) rfl ?_ ?_
                  rotate_left
                  · go_simp; (first | done | with_reducible rfl)
                  dsimp only [List.set_cons_zero, List.set_cons_succ]
                  refine lstepU HOPS rfl (by kernel_rfl) rfl ?_
                  dsimp only [List.set_cons_zero, List.set_cons_succ]
                  refine lstepU HOPS rfl (by kernel_rfl) rfl ?_
                  dsimp only [List.set_cons_zero, List.set_cons_succ]
                  refine lstepU HOPS rfl (by kernel_rfl) rfl ?_
                  dsimp only [List.set_cons_zero, List.set_cons_succ]
                  refine lstepU HOPS rfl (by kernel_rfl) rfl ?_
                  dsimp only [List.set_cons_zero, List.set_cons_succ]
                  refine lstepQ HOPS ?_ rfl (by kernel_rfl) rfl ?_ ?_
                  rotate_left
                  · go_simp; (first | done | with_reducible rfl)
                  dsimp only [List.set_cons_zero, List.set_cons_succ]
                  refine lstepQ HOPS ?_ rfl (by kernel_rfl) rfl ?_ ?_
                  rotate_left
                  · go_simp; (first | done | with_reducible rfl)
                  dsimp only [List.set_cons_zero, List.set_cons_succ]
                  refine lstepU HOPS rfl (by kernel_rfl) rfl ?_
                  dsimp only [List.set_cons_zero, List.set_cons_succ]
                  refine lstepU HOPS rfl (by kernel_rfl) rfl ?_
                  dsimp only [List.set_cons_zero, List.set_cons_succ]
                  refine lstepU HOPS rfl (by kernel_rfl) rfl ?_
                  dsimp only [List.set_cons_zero, List.set_cons_succ]
                  refine lstepU HOPS rfl (by kernel_rfl) rfl ?_
                  dsimp only [List.set_cons_zero, List.set_cons_succ]
                  refine lstepQ HOPS ?_ rfl (by kernel_rfl) rfl ?_ ?_
                  rotate_left
                  · go_simp; (first | done | with_reducible rfl)
                  dsimp only [List.set_cons_zero, List.set_cons_succ]
                  refine lstepE HOPS (by decide) (HQ.out _ _ ?_)
                  clear HQ HOPS
                  clear Q ops
                  go_wp2
                  go_ret
                  exact ⟨by rw [HZ.out]; rfl, HB0.out⟩
              · have y8' := of_decide_eq_true y8
                have HZ := Lib.hid (HBAD.out fun h => by have h2 : 0 ≤ E ∧ E ≤ 999 := h.2.2.2.1; omega)
                refine lstepQ HOPS ?_ rfl (by kernel_rfl) rfl ?_ ?_
                rotate_left
                · go_simp; (first | done | with_reducible rfl)
                dsimp only [List.set_cons_zero, List.set_cons_succ]
                refine lstepQ HOPS ?_ rfl (by kernel_rfl) rfl ?_ ?_
                rotate_left
                · go_simp; (first | done | with_reducible rfl)
                dsimp only [List.set_cons_zero, List.set_cons_succ]
                refine lstepQ HOPS ?_ rfl (by kernel_rfl) rfl ?_ ?_
                rotate_left
                · go_simp; (first | done | with_reducible rfl)
                dsimp only [List.set_cons_zero, List.set_cons_succ]
                refine lstepU HOPS rfl (by kernel_rfl) rfl ?_
                dsimp only [List.set_cons_zero, List.set_cons_succ]
                refine lstepU HOPS rfl (by kernel_rfl) rfl ?_
                dsimp only [List.set_cons_zero, List.set_cons_succ]
                refine lstepU HOPS rfl (by kernel_rfl) rfl ?_
                dsimp only [List.set_cons_zero, List.set_cons_succ]
                refine lstepU HOPS rfl (by kernel_rfl) rfl ?_
                dsimp only [List.set_cons_zero, List.set_cons_succ]
                refine lstepQ HOPS ?_ rfl (by kernel_rfl) rfl ?_ ?_
                rotate_left
                · go_simp; (first | done | with_reducible rfl)
                dsimp only [List.set_cons_zero, List.set_cons_succ]
                refine lstepQ HOPS ?_ rfl (by kernel_rfl) rfl ?_ ?_
                rotate_left
                · go_simp; (first | done | with_reducible rfl)
                dsimp only [List.set_cons_zero, List.set_cons_succ]
                refine lstepU HOPS rfl (by kernel_rfl) rfl ?_
                dsimp only [List.set_cons_zero, List.set_cons_succ]
                refine lstepU HOPS rfl (by kernel_rfl) rfl ?_
                dsimp only [List.set_cons_zero, List.set_cons_succ]
                refine lstepU HOPS rfl (by kernel_rfl) rfl ?_
                dsimp only [List.set_cons_zero, List.set_cons_succ]
                refine lstepU HOPS rfl (by kernel_rfl) rfl ?_
                dsimp only [List.set_cons_zero, List.set_cons_succ]
                refine lstepQ HOPS ?_ rfl (by kernel_rfl) rfl ?_ ?_
                rotate_left
                · go_simp; (first | done | with_reducible rfl)
                dsimp only [List.set_cons_zero, List.set_cons_succ]
                refine lstepQ HOPS ?_ rfl (by kernel_rfl) rfl ?_ ?_
                rotate_left
                · go_simp; (first | done | with_reducible rfl)
                dsimp only [List.set_cons_zero, List.set_cons_succ]
                refine lstepU HOPS rfl (by kernel_rfl) rfl ?_
                dsimp only [List.set_cons_zero, List.set_cons_succ]
                refine lstepU HOPS rfl (by kernel_rfl) rfl ?_
                dsimp only [List.set_cons_zero, List.set_cons_succ]
                refine lstepU HOPS rfl (by kernel_rfl) rfl ?_
                dsimp only [List.set_cons_zero, List.set_cons_succ]
                refine lstepU HOPS rfl (by kernel_rfl) rfl ?_
                dsimp only [List.set_cons_zero, List.set_cons_succ]
                refine lstepQ HOPS ?_ rfl (by kernel_rfl) rfl ?_ ?_
                rotate_left
                · go_simp; (first | done | with_reducible rfl)
                dsimp only [List.set_cons_zero, List.set_cons_succ]
                refine lstepQ HOPS ?_ rfl (by kernel_rfl) rfl ?_ ?_
                rotate_left
                · go_simp; (first | done | with_reducible rfl)
                dsimp only [List.set_cons_zero, List.set_cons_succ]
                refine lstepU HOPS rfl (by kernel_rfl) rfl ?_
                dsimp only [List.set_cons_zero, List.set_cons_succ]
                refine lstepU HOPS rfl (by kernel_rfl) rfl ?_
                dsimp only [List.set_cons_zero, List.set_cons_succ]
                refine lstepU HOPS rfl (by kernel_rfl) rfl ?_
                dsimp only [List.set_cons_zero, List.set_cons_succ]
                refine lstepU HOPS rfl (by kernel_rfl) rfl ?_
                dsimp only [List.set_cons_zero, List.set_cons_succ]
                refine lstepQ HOPS ?_ rfl (by kernel_rfl) rfl ?_ ?_
                rotate_left
                · go_simp; (first | done | with_reducible rfl)
                dsimp only [List.set_cons_zero, List.set_cons_succ]
                refine lstepQ HOPS ?_ rfl (by kernel_rfl) rfl ?_ ?_
                rotate_left
                · go_simp; (first | done | with_reducible rfl)
                dsimp only [List.set_cons_zero, List.set_cons_succ]
                refine lstepU HOPS rfl (by kernel_rfl) rfl ?_
                dsimp only [List.set_cons_zero, List.set_cons_succ]
                refine lstepU HOPS rfl (by kernel_rfl) rfl ?_
                dsimp only [List.set_cons_zero, List.set_cons_succ]
                refine lstepU HOPS rfl (by kernel_rfl) rfl ?_
                dsimp only [List.set_cons_zero, List.set_cons_succ]
                refine lstepU HOPS rfl (by kernel_rfl) rfl ?_
                dsimp only [List.set_cons_zero, List.set_cons_succ]
                refine lstepQ HOPS ?_ rfl (by kernel_rfl) rfl ?_ ?_
                rotate_left
                · go_simp; (first | done | with_reducible rfl)
                dsimp only [List.set_cons_zero, List.set_cons_succ]
                refine lstepE HOPS (by decide) (HQ.out _ _ ?_)
                clear HQ HOPS
                clear Q ops
                go_wp2
                go_ret
                exact ⟨by rw [HZ.out]; rfl, HB0.out⟩
            · have y7' := of_decide_eq_true y7
              have HZ := Lib.hid (HBAD.out fun h => by have h2 : 0 ≤ E ∧ E ≤ 999 := h.2.2.2.1; omega)
              refine lstepQ HOPS ?_ rfl (by kernel_rfl) rfl ?_ ?_
              rotate_left
              · go_simp; (first | done | with_reducible rfl)
              dsimp only [List.set_cons_zero, List.set_cons_succ]
              refine lstepQ HOPS ?_ rfl (by kernel_rfl) rfl ?_ ?_
              rotate_left
              · go_simp; (first | done | with_reducible rfl)
              dsimp only [List.set_cons_zero, List.set_cons_succ]
              refine lstepQ HOPS ?_ rfl (by kernel_rfl) rfl ?_ ?_
              rotate_left
              · go_simp; (first | done | with_reducible rfl)
              dsimp only [List.set_cons_zero, List.set_cons_succ]
              refine lstepU HOPS rfl (by kernel_rfl) rfl ?_
              dsimp only [List.set_cons_zero, List.set_cons_succ]
              refine lstepU HOPS rfl (by kernel_rfl) rfl ?_
              dsimp only [List.set_cons_zero, List.set_cons_succ]
              refine lstepU HOPS rfl (by kernel_rfl) rfl ?_
              dsimp only [List.set_cons_zero, List.set_cons_succ]
              refine lstepQ HOPS ?_ rfl (by kernel_rfl) rfl ?_ ?_
              rotate_left
              · go_simp; (first | done | with_reducible rfl)
              dsimp only [List.set_cons_zero, List.set_cons_succ]
              refine lstepQ HOPS ?_ rfl (by kernel_rfl) rfl ?_ ?_
              rotate_left
              · go_simp; (first | done | with_reducible rfl)
              dsimp only [List.set_cons_zero, List.set_cons_succ]
              refine lstepU HOPS rfl (by kernel_rfl) rfl ?_
              dsimp only [List.set_cons_zero, List.set_cons_succ]
              refine lstepU HOPS rfl (by kernel_rfl) rfl ?_
              dsimp only [List.set_cons_zero, List.set_cons_succ]
              refine lstepU HOPS rfl (by kernel_rfl) rfl ?_
              dsimp only [List.set_cons_zero, List.set_cons_succ]
              refine lstepU HOPS rfl (by kernel_rfl) rfl ?_
              dsimp only [List.set_cons_zero, List.set_cons_succ]
              refine lstepQ HOPS ?_ rfl (by kernel_rfl) rfl ?_ ?_
              rotate_left
              · go_simp; (first | done | with_reducible rfl)
              dsimp only [List.set_cons_zero, List.set_cons_succ]
              refine lstepQ HOPS ?_ rfl (by kernel_rfl) rfl ?_ ?_
              rotate_left
              · go_simp; (first | done | with_reducible rfl)
              dsimp only [List.set_cons_zero, List.set_cons_succ]
              refine lstepU HOPS rfl (by kernel_rfl) rfl ?_
              dsimp only [List.set_cons_zero, List.set_cons_succ]
              refine lstepU HOPS rfl (by kernel_rfl) rfl ?_
              dsimp only [List.set_cons_zero, List.set_cons_succ]
              refine lstepU HOPS rfl (by kernel_rfl) rfl ?_
              dsimp only [List.set_cons_zero, List.set_cons_succ]
              refine lstepU HOPS rfl (by kernel_rfl) rfl ?_
              dsimp only [List.set_cons_zero, List.set_cons_succ]
              refine lstepQ HOPS ?_ rfl (by kernel_rfl) rfl ?_ ?_
              rotate_left
              · go_simp; (first | done | with_reducible rfl)
              dsimp only [List.set_cons_zero, List.set_cons_succ]
              refine lstepQ HOPS ?_ rfl (by kernel_rfl) rfl ?_ ?_
              rotate_left
              · go_simp; (first | done | with_reducible rfl)
              dsimp only [List.set_cons_zero, List.set_cons_succ]
              refine lstepU HOPS rfl (by kernel_rfl) rfl ?_
              dsimp only [List.set_cons_zero, List.set_cons_succ]
              refine lstepU HOPS rfl (by kernel_rfl) rfl ?_
              dsimp only [List.set_cons_zero, List.set_cons_succ]
              refine lstepU HOPS rfl (by kernel_rfl) rfl ?_
              dsimp only [List.set_cons_zero, List.set_cons_succ]
              refine lstepU HOPS rfl (by kernel_rfl) rfl ?_
              dsimp only [List.set_cons_zero, List.set_cons_succ]
              refine lstepQ HOPS ?_ rfl (by kernel_rfl) rfl ?_ ?_
              rotate_left
              · go_simp; (first | done | with_reducible rfl)
              dsimp only [List.set_cons_zero, List.set_cons_succ]
              refine lstepQ HOPS ?_ rfl (by kernel_rfl) rfl ?_ ?_
              rotate_left
              · go_simp; (first | done | with_reducible rfl)
              dsimp only [List.set_cons_zero, List.set_cons_succ]
              refine lstepU HOPS rfl (by kernel_rfl) rfl ?_
              dsimp only [List.set_cons_zero, List.set_cons_succ]
              refine lstepU HOPS rfl (by kernel_rfl) rfl ?_
              dsimp only [List.set_cons_zero, List.set_cons_succ]
              refine lstepU HOPS rfl (by kernel_rfl) rfl ?_
              dsimp only [List.set_cons_zero, List.set_cons_succ]
              refine lstepU HOPS rfl (by kernel_rfl) rfl ?_
              dsimp only [List.set_cons_zero, List.set_cons_succ]
              refine lstepQ HOPS ?_ rfl (by kernel_rfl) rfl ?_ ?_
              rotate_left
              · go_simp; (first | done | with_reducible rfl)
              dsimp only [List.set_cons_zero, List.set_cons_succ]
              refine lstepQ HOPS ?_ rfl (by kernel_rfl) rfl ?_ ?_
              rotate_left
              · go_simp; (first | done | with_reducible rfl)
              dsimp only [List.set_cons_zero, List.set_cons_succ]
              refine lstepU HOPS rfl (by kernel_rfl) rfl ?_
              dsimp only [List.set_cons_zero, List.set_cons_succ]
              refine lstepU HOPS rfl (by kernel_rfl) rfl ?_
              dsimp only [List.set_cons_zero, List.set_cons_succ]
              refine lstepU HOPS rfl (by kernel_rfl) rfl ?_
              dsimp only [List.set_cons_zero, List.set_cons_succ]
              refine lstepU HOPS rfl (by kernel_rfl) rfl ?_
              dsimp only [List.set_cons_zero, List.set_cons_succ]
              refine lstepQ HOPS ?_ rfl (by kernel_rfl) rfl ?_ ?_
              rotate_left
              · go_simp; (first | done | with_reducible rfl)
              dsimp only [List.set_cons_zero, List.set_cons_succ]
              refine lstepE HOPS (by decide) (HQ.out _ _ ?_)
              clear HQ HOPS
              clear Q ops
              go_wp2
              go_ret
              exact ⟨by rw [HZ.out]; rfl, HB0.out⟩
          · have HV0 := Lib.hid (show v = 0 by simpa using y5)
            refine lstepQ HOPS ?_ rfl (by kernel_rfl) rfl ?_ ?_
            rotate_left
            · go_simp; (first | done | with_reducible rfl)
            dsimp only [List.set_cons_zero, List.set_cons_succ]
            refine lstepQ HOPS ?_ rfl (by kernel_rfl) rfl ?_ ?_
            rotate_left
            · go_simp; (first | done | with_reducible rfl)
            dsimp only [List.set_cons_zero, List.set_cons_succ]
            refine lstepQ HOPS ?_ rfl (by kernel_rfl) rfl ?_ ?_
            rotate_left
            · go_simp; (first | done | with_reducible rfl)
            dsimp only [List.set_cons_zero, List.set_cons_succ]
            refine lstepQ HOPS ?_ rfl (by kernel_rfl) rfl ?_ ?_
            rotate_left
            · go_simp; (first | done | with_reducible rfl)
            dsimp only [List.set_cons_zero, List.set_cons_succ]
            rcases y6 : (t != 0) with _ | _
            · have HW0 := Lib.hid (show v = 0 → t = 0 from fun _ => by simpa using y6)
              refine lstepQ HOPS ?_ rfl (by kernel_rfl) rfl ?_ ?_
              rotate_left
              · go_simp; (first | done | with_reducible rfl)
              dsimp only [List.set_cons_zero, List.set_cons_succ]
              refine lstepQ HOPS ?_ rfl (by kernel_rfl) rfl ?_ ?_
              rotate_left
              · go_simp; (first | done | with_reducible rfl)
              dsimp only [List.set_cons_zero, List.set_cons_succ]
              refine lstepQ HOPS ?_ rfl (by kernel_rfl) rfl ?_ ?_
              rotate_left
              · go_simp; (first | done | with_reducible rfl)
              dsimp only [List.set_cons_zero, List.set_cons_succ]
              refine lstepQ HOPS ?_ rfl (by kernel_rfl) rfl ?_ ?_
              rotate_left
              · go_simp; (first | done | with_reducible rfl)
              dsimp only [List.set_cons_zero, List.set_cons_succ]
              refine lstepQ HOPS ?_ rfl (by kernel_rfl) rfl ?_ ?_
              rotate_left
              · go_simp; (first | done | with_reducible rfl)
              dsimp only [List.set_cons_zero, List.set_cons_succ]
              refine lstepQ HOPS ?_ rfl (by kernel_rfl) rfl ?_ ?_
              rotate_left
              · go_simp; (first | done | with_reducible rfl)
              dsimp only [List.set_cons_zero, List.set_cons_succ]
              rcases y7 : decide (E < 0) with _ | _
              · have y7' := of_decide_eq_false y7
                refine lstepQ HOPS ?_ rfl (by kernel_rfl) rfl ?_ ?_
                rotate_left
                · go_simp; (first | done | with_reducible rfl)
                dsimp only [List.set_cons_zero, List.set_cons_succ]
                refine lstepQ HOPS ?_ rfl (by kernel_rfl) rfl ?_ ?_
                rotate_left
                · go_simp; (first | done | with_reducible rfl)
                dsimp only [List.set_cons_zero, List.set_cons_succ]
                refine lstepQ HOPS ?_ rfl (by kernel_rfl) rfl ?_ ?_
                rotate_left
                · go_simp; (first | done | with_reducible rfl)
                dsimp only [List.set_cons_zero, List.set_cons_succ]
                refine lstepQ HOPS ?_ rfl (by kernel_rfl) rfl ?_ ?_
                rotate_left
                · go_simp; (first | done | with_reducible rfl)
                dsimp only [List.set_cons_zero, List.set_cons_succ]
                refine lstepQ HOPS ?_ rfl (by kernel_rfl) rfl ?_ ?_
                rotate_left
                · go_simp; (first | done | with_reducible rfl)
                dsimp only [List.set_cons_zero, List.set_cons_succ]
                rcases y8 : decide (999 < E) with _ | _
                · have y8' := of_decide_eq_false y8
                  refine lstepQ HOPS ?_ rfl (by kernel_rfl) rfl ?_ ?_
                  rotate_left
                  · go_simp; (first | done | with_reducible rfl)
                  dsimp only [List.set_cons_zero, List.set_cons_succ]
                  refine lstepQ HOPS ?_ rfl (by kernel_rfl) rfl ?_ ?_
                  rotate_left
                  · go_simp; (first | done | with_reducible rfl)
                  dsimp only [List.set_cons_zero, List.set_cons_succ]
                  refine lstepQ HOPS ?_ rfl (by kernel_rfl) rfl ?_ ?_
                  rotate_left
                  · go_simp; (first | done | with_reducible rfl)
                  dsimp only [List.set_cons_zero, List.set_cons_succ]
                  refine lstepQ HOPS ?_ rfl (by kernel_rfl) rfl ?_ ?_
                  rotate_left
                  · go_simp; (first | done | with_reducible rfl)
                  dsimp only [List.set_cons_zero, List.set_cons_succ]
                  refine lstepQ HOPS ?_ rfl (by kernel_rfl) rfl ?_ ?_
                  rotate_left
                  · go_simp; (first | done | with_reducible rfl)
                  dsimp only [List.set_cons_zero, List.set_cons_succ]
                  refine lstepQ HOPS ?_ rfl (by kernel_rfl) rfl ?_ ?_
                  rotate_left
                  · go_simp; (first | done | with_reducible rfl)
                  dsimp only [List.set_cons_zero, List.set_cons_succ]
                  rcases y8b : decide (64 < (n1 : Int)) with _ | _
                  · have y8b' := of_decide_eq_false y8b
                    refine lstepQ HOPS ?_ rfl (by kernel_rfl) rfl ?_ ?_
                    rotate_left
                    · go_simp; (first | done | with_reducible rfl)
                    dsimp only [List.set_cons_zero, List.set_cons_succ]
                    refine lstepQ HOPS ?_ rfl (by kernel_rfl) rfl ?_ ?_
                    rotate_left
                    · go_simp; (first | done | with_reducible rfl)
                    dsimp only [List.set_cons_zero, List.set_cons_succ]
                    refine lstepQ HOPS ?_ rfl (by kernel_rfl) rfl ?_ ?_
                    rotate_left
                    · go_simp; (first | done | with_reducible rfl)
                    dsimp only [List.set_cons_zero, List.set_cons_succ]
                    refine lstepQ HOPS ?_ rfl (by kernel_rfl) rfl ?_ ?_
                    rotate_left
                    · go_simp; (first | done | with_reducible rfl)
                    dsimp only [List.set_cons_zero, List.set_cons_succ]
                    refine lstepQ HOPS ?_ rfl (by kernel_rfl) rfl ?_ ?_
                    rotate_left
                    · go_simp; (first | done | with_reducible rfl)
                    dsimp only [List.set_cons_zero, List.set_cons_succ]
                    rcases y9 : allIn l1 (-1099511627776) 1099511627776 with _ | _
                    · have HZ := Lib.hid (HBAD.out fun h => by rw [allIn_iff.2 h.2.2.2.2.2.1] at y9; cases y9)
                      refine lstepC HOPS rfl (by kernel_rfl) ?_
                      go_simp
                      with_reducible refine (refin_any A1 n1 c1 l1 (-1099511627776) 1099511627776 w.heap.size _ (HI.out.below HB0.out (Nat.le_refl _)) hn1).mono ?_
                      rw [y9]
                      rintro e w9 ⟨rfl, rfl⟩
                      dsimp only
                      try simp only [Act.put, List.setIfInBounds_toArray, List.set_cons_zero, List.set_cons_succ]
                      refine lstepQ HOPS ?_ rfl (by kernel_rfl) rfl ?_ ?_
                      rotate_left
                      · go_simp; (first | done | with_reducible rfl)
                      dsimp only [List.set_cons_zero, List.set_cons_succ]
                      refine lstepQ HOPS ?_ rfl (by kernel_rfl) rfl ?_ ?_
                      rotate_left
                      · go_simp; (first | done | with_reducible rfl)
                      dsimp only [List.set_cons_zero, List.set_cons_succ]
                      refine lstepQ HOPS ?_ rfl (by kernel_rfl) rfl ?_ ?_
                      rotate_left
                      · go_simp; (first | done | with_reducible rfl)
                      dsimp only [List.set_cons_zero, List.set_cons_succ]
                      refine lstepU HOPS rfl (by kernel_rfl) rfl ?_
                      dsimp only [List.set_cons_zero, List.set_cons_succ]
                      refine lstepU HOPS rfl (by kernel_rfl) rfl ?_
                      dsimp only [List.set_cons_zero, List.set_cons_succ]
                      refine lstepU HOPS rfl (by kernel_rfl) rfl ?_
                      dsimp only [List.set_cons_zero, List.set_cons_succ]
                      refine lstepU HOPS rfl (by kernel_rfl) rfl ?_
                      dsimp only [List.set_cons_zero, List.set_cons_succ]
                      refine lstepQ HOPS ?_ rfl (by kernel_rfl) rfl ?_ ?_
                      rotate_left
                      · go_simp; (first | done | with_reducible rfl)
                      dsimp only [List.set_cons_zero, List.set_cons_succ]
                      refine lstepQ HOPS ?_ rfl (by kernel_rfl) rfl ?_ ?_
                      rotate_left
                      · go_simp; (first | done | with_reducible rfl)
                      dsimp only [List.set_cons_zero, List.set_cons_succ]
                      refine lstepU HOPS rfl (by kernel_rfl) rfl ?_
                      dsimp only [List.set_cons_zero, List.set_cons_succ]
                      refine lstepU HOPS rfl (by kernel_rfl) rfl ?_
                      dsimp only [List.set_cons_zero, List.set_cons_succ]
                      refine lstepU HOPS rfl (by kernel_rfl) rfl ?_
                      dsimp only [List.set_cons_zero, List.set_cons_succ]
                      refine lstepU HOPS rfl (by kernel_rfl) rfl ?_
                      dsimp only [List.set_cons_zero, List.set_cons_succ]
                      refine lstepQ HOPS ?_ rfl (by kernel_rfl) rfl ?_ ?_
                      rotate_left
                      · go_simp; (first | done | with_reducible rfl)
                      dsimp only [List.set_cons_zero, List.set_cons_succ]
                      refine lstepQ HOPS ?_ rfl (by kernel_rfl) rfl ?_ ?_
                      rotate_left
                      · go_simp; (first | done | with_reducible rfl)
                      dsimp only [List.set_cons_zero, List.set_cons_succ]
                      refine lstepU HOPS rfl (by kernel_rfl) rfl ?_
                      dsimp only [List.set_cons_zero, List.set_cons_succ]
                      refine lstepU HOPS rfl (by kernel_rfl) rfl ?_
                      dsimp only [List.set_cons_zero, List.set_cons_succ]
                      refine lstepU HOPS rfl (by kernel_rfl) rfl ?_
                      dsimp only [List.set_cons_zero, List.set_cons_succ]
                      refine lstepU HOPS rfl (by kernel_rfl) rfl ?_
                      dsimp only [List.set_cons_zero, List.set_cons_succ]
                      refine lstepQ HOPS ?_ rfl (by kernel_rfl) rfl ?_ ?_
                      rotate_left
                      · go_simp; (first | done | with_reducible rfl)
                      dsimp only [List.set_cons_zero, List.set_cons_succ]
                      refine lstepE HOPS (by decide) (HQ.out _ _ ?_)
                      clear HQ HOPS
                      clear Q ops
                      go_wp2
                      go_ret
                      exact ⟨by rw [HZ.out]; rfl, HB0.out⟩
                    · have y9' := Lib.hid y9
                      refine lstepC HOPS rfl (by kernel_rfl) ?_
                      go_simp
                      with_reducible refine (refin_any A1 n1 c1 l1 (-1099511627776) 1099511627776 w.heap.size _ (HI.out.below HB0.out (Nat.le_refl _)) hn1).mono ?_
                      rw [y9]
                      rintro e w9 ⟨rfl, rfl⟩
                      dsimp only
                      try simp only [Act.put, List.setIfInBounds_toArray, List.set_cons_zero, List.set_cons_succ]
                      refine lstepQ HOPS ?_ rfl (by kernel_rfl) rfl ?_ ?_
                      rotate_left
                      · go_simp; (first | done | with_reducible rfl)
                      dsimp only [List.set_cons_zero, List.set_cons_succ]
                      refine lstepQ HOPS ?_ rfl (by kernel_rfl) rfl ?_ ?_
                      rotate_left
                      · go_simp; (first | done | with_reducible rfl)
                      dsimp only [List.set_cons_zero, List.set_cons_succ]
                      refine lstepQ HOPS ?_ rfl (by kernel_rfl) rfl ?_ ?_
                      rotate_left
                      · go_simp; (first | done | with_reducible rfl)
                      dsimp only [List.set_cons_zero, List.set_cons_succ]
                      refine lstepQ HOPS ?_ rfl (by kernel_rfl) rfl ?_ ?_
                      rotate_left
                      · go_simp; (first | done | with_reducible rfl)
                      dsimp only [List.set_cons_zero, List.set_cons_succ]
                      refine lstepQ HOPS ?_ rfl (by kernel_rfl) rfl ?_ ?_
                      rotate_left
                      · go_simp; (first | done | with_reducible rfl)
                      dsimp only [List.set_cons_zero, List.set_cons_succ]
                      refine lstepQ HOPS ?_ rfl (by kernel_rfl) rfl ?_ ?_
                      rotate_left
                      · go_simp; (first | done | with_reducible rfl)
                      dsimp only [List.set_cons_zero, List.set_cons_succ]
                      rcases y10 : decide (16 < (n2 : Int)) with _ | _
                      · have y10' := of_decide_eq_false y10
                        refine lstepQ HOPS ?_ rfl (by kernel_rfl) rfl ?_ ?_
                        rotate_left
                        · go_simp; (first | done | with_reducible rfl)
                        dsimp only [List.set_cons_zero, List.set_cons_succ]
                        refine lstepQ HOPS ?_ rfl (by kernel_rfl) rfl ?_ ?_
                        rotate_left
                        · go_simp; (first | done | with_reducible rfl)
                        dsimp only [List.set_cons_zero, List.set_cons_succ]
                        refine lstepQ HOPS ?_ rfl (by kernel_rfl) rfl ?_ ?_
                        rotate_left
                        · go_simp; (first | done | with_reducible rfl)
                        dsimp only [List.set_cons_zero, List.set_cons_succ]
                        refine lstepQ HOPS ?_ rfl (by kernel_rfl) rfl ?_ ?_
                        rotate_left
                        · go_simp; (first | done | with_reducible rfl)
                        dsimp only [List.set_cons_zero, List.set_cons_succ]
                        refine lstepQ HOPS ?_ rfl (by kernel_rfl) rfl ?_ ?_
                        rotate_left
                        · go_simp; (first | done | with_reducible rfl)
                        dsimp only [List.set_cons_zero, List.set_cons_succ]
                        rcases y11 : allShort 64 l2 with _ | _
                        · have HZ := Lib.hid (HBAD.out fun h => by rw [allShort_iff.2 h.2.2.2.2.2.2.2.1] at y11; cases y11)
                          refine lstepC HOPS rfl (by kernel_rfl) ?_
                          go_simp
                          with_reducible refine (refshort_any A2 n2 c2 l2 w.heap.size _ (HT.out.below HB0.out (Nat.le_refl _)) hn2).mono ?_
                          rw [y11]
                          rintro e w9 ⟨rfl, rfl⟩
                          dsimp only
                          try simp only [Act.put, List.setIfInBounds_toArray, List.set_cons_zero, List.set_cons_succ]
                          refine lstepQ HOPS ?_ rfl (by kernel_rfl) rfl ?_ ?_
                          rotate_left
                          · go_simp; (first | done | with_reducible rfl)
                          dsimp only [List.set_cons_zero, List.set_cons_succ]
                          refine lstepQ HOPS ?_ rfl (by kernel_rfl) rfl ?_ ?_
                          rotate_left
                          · go_simp; (first | done | with_reducible rfl)
                          dsimp only [List.set_cons_zero, List.set_cons_succ]
                          refine lstepQ HOPS ?_ rfl (by kernel_rfl) rfl ?_ ?_
                          rotate_left
                          · go_simp; (first | done | with_reducible rfl)
                          dsimp only [List.set_cons_zero, List.set_cons_succ]
                          refine lstepU HOPS rfl (by kernel_rfl) rfl ?_
                          dsimp only [List.set_cons_zero, List.set_cons_succ]
                          refine lstepU HOPS rfl (by kernel_rfl) rfl ?_
                          dsimp only [List.set_cons_zero, List.set_cons_succ]
                          refine lstepU HOPS rfl (by kernel_rfl) rfl ?_
                          dsimp only [List.set_cons_zero, List.set_cons_succ]
                          refine lstepU HOPS rfl (by kernel_rfl) rfl ?_
                          dsimp only [List.set_cons_zero, List.set_cons_succ]
                          refine lstepQ HOPS ?_ rfl (by kernel_rfl) rfl ?_ ?_
                          rotate_left
                          · go_simp; (first | done | with_reducible rfl)
                          dsimp only [List.set_cons_zero, List.set_cons_succ]
                          refine lstepE HOPS (by decide) (HQ.out _ _ ?_)
                          clear HQ HOPS
                          clear Q ops
                          go_wp2
                          go_ret
                          exact ⟨by rw [HZ.out]; rfl, HB0.out⟩
                        · have y11' := Lib.hid y11
                          refine lstepC HOPS rfl (by kernel_rfl) ?_
                          go_simp
                          with_reducible refine (refshort_any A2 n2 c2 l2 w.heap.size _ (HT.out.below HB0.out (Nat.le_refl _)) hn2).mono ?_
                          rw [y11]
                          rintro e w9 ⟨rfl, rfl⟩
                          dsimp only
                          try simp only [Act.put, List.setIfInBounds_toArray, List.set_cons_zero, List.set_cons_succ]
                          refine lstepQ HOPS ?_ rfl (by kernel_rfl) rfl ?_ ?_
                          rotate_left
                          · go_simp; (first | done | with_reducible rfl)
                          dsimp only [List.set_cons_zero, List.set_cons_succ]
                          refine lstepQ HOPS ?_ rfl (by kernel_rfl) rfl ?_ ?_
                          rotate_left
                          · go_simp; (first | done | with_reducible rfl)
                          dsimp only [List.set_cons_zero, List.set_cons_succ]
                          refine lstepQ HOPS ?_ rfl (by kernel_rfl) rfl ?_ ?_
                          rotate_left
                          · go_simp; (first | done | with_reducible rfl)
                          dsimp only [List.set_cons_zero, List.set_cons_succ]
                          refine lstepQ HOPS ?_ rfl (by kernel_rfl) rfl ?_ ?_
                          rotate_left
                          · go_simp; (first | done | with_reducible rfl)
                          dsimp only [List.set_cons_zero, List.set_cons_succ]
                          refine lstepQ HOPS ?_ rfl (by kernel_rfl) rfl ?_ ?_
                          rotate_left
                          · go_simp; (first | done | with_reducible rfl)
                          dsimp only [List.set_cons_zero, List.set_cons_succ]
                          refine lstepQ HOPS ?_ rfl (by kernel_rfl) rfl ?_ ?_
                          rotate_left
                          · go_simp; (first | done | with_reducible rfl)
                          dsimp only [List.set_cons_zero, List.set_cons_succ]
                          rcases y12 : decide (4096 < (n3 : Int)) with _ | _
                          · have y12' := of_decide_eq_false y12
                            have HZ := Lib.hid (show ckP ⟨k, v, i, E, t, l1, l2, l3⟩ = 0 from ckP_iff.2 ⟨HKN.out, ⟨by show 0 ≤ i ∧ i ≤ 1099511627776; omega, by show 0 ≤ t ∧ t ≤ 1099511627776; omega, HW0.out, by show 0 ≤ E ∧ E ≤ 999; omega, by show l1.length ≤ 64; rw [HL1.out]; omega, allIn_iff.1 y9'.out, by show l2.length ≤ 16; rw [HL2.out]; omega, allShort_iff.1 y11'.out, by show l3.length ≤ 4096; rw [HL3.out]; omega⟩⟩)
                            refine lstepQ HOPS ?_ rfl (by kernel_rfl) rfl ?_ ?_
                            rotate_left
                            · go_simp; (first | done | with_reducible rfl)
                            dsimp only [List.set_cons_zero, List.set_cons_succ]
                            refine lstepQ HOPS ?_ rfl (by kernel_rfl) rfl ?_ ?_
                            rotate_left
                            · go_simp; (first | done | with_reducible rfl)
                            dsimp only [List.set_cons_zero, List.set_cons_succ]
                            refine lstepE HOPS (by decide) (HQ.out _ _ ?_)
                            clear HQ HOPS
                            clear Q ops
                            go_wp2
                            go_ret
                            exact ⟨by rw [HZ.out]; rfl, HB0.out⟩
                          · have y12' := of_decide_eq_true y12
                            have HZ := Lib.hid (HBAD.out fun h => by have h7 : l3.length ≤ 4096 := h.2.2.2.2.2.2.2.2; rw [HL3.out] at h7; omega)
                            refine lstepQ HOPS ?_ rfl (by kernel_rfl) rfl ?_ ?_
                            rotate_left
                            · go_simp; (first | done | with_reducible rfl)
                            dsimp only [List.set_cons_zero, List.set_cons_succ]
                            refine lstepQ HOPS ?_ rfl (by kernel_rfl) rfl ?_ ?_
                            rotate_left
                            · go_simp; (first | done | with_reducible rfl)
                            dsimp only [List.set_cons_zero, List.set_cons_succ]
                            refine lstepE HOPS (by decide) (HQ.out _ _ ?_)
                            clear HQ HOPS
                            clear Q ops
                            go_wp2
                            go_ret
                            exact ⟨by rw [HZ.out]; rfl, HB0.out⟩
                      · have y10' := of_decide_eq_true y10
                        have HZ := Lib.hid (HBAD.out fun h => by have h7 : l2.length ≤ 16 := h.2.2.2.2.2.2.1; rw [HL2.out] at h7; omega)
                        refine lstepQ HOPS ?_ rfl (by kernel_rfl) rfl ?_ ?_
                        rotate_left
                        · go_simp; (first | done | with_reducible rfl)
                        dsimp only [List.set_cons_zero, List.set_cons_succ]
                        refine lstepQ HOPS ?_ rfl (by kernel_rfl) rfl ?_ ?_
                        rotate_left
                        · go_simp; (first | done | with_reducible rfl)
                        dsimp only [List.set_cons_zero, List.set_cons_succ]
                        refine lstepQ HOPS ?_ rfl (by kernel_rfl) rfl ?_ ?_
                        rotate_left
                        · go_simp; (first | done | with_reducible rfl)
                        dsimp only [List.set_cons_zero, List.set_cons_succ]
                        refine lstepU HOPS rfl (by kernel_rfl) rfl ?_
                        dsimp only [List.set_cons_zero, List.set_cons_succ]
                        refine lstepU HOPS rfl (by kernel_rfl) rfl ?_
                        dsimp only [List.set_cons_zero, List.set_cons_succ]
                        refine lstepU HOPS rfl (by kernel_rfl) rfl ?_
                        dsimp only [List.set_cons_zero, List.set_cons_succ]
                        refine lstepU HOPS rfl (by kernel_rfl) rfl ?_
                        dsimp only [List.set_cons_zero, List.set_cons_succ]
                        refine lstepQ HOPS ?_ rfl (by kernel_rfl) rfl ?_ ?_
                        rotate_left
                        · go_simp; (first | done | with_reducible rfl)
                        dsimp only [List.set_cons_zero, List.set_cons_succ]
                        refine lstepQ HOPS ?_ rfl (by kernel_rfl) rfl ?_ ?_
                        rotate_left
                        · go_simp; (first | done | with_reducible rfl)
                        dsimp only [List.set_cons_zero, List.set_cons_succ]
                        refine lstepU HOPS rfl (by kernel_rfl) rfl ?_
                        dsimp only [List.set_cons_zero, List.set_cons_succ]
                        refine lstepU HOPS rfl (by kernel_rfl) rfl ?_
                        dsimp only [List.set_cons_zero, List.set_cons_succ]
                        refine lstepU HOPS rfl (by kernel_rfl) rfl ?_
                        dsimp only [List.set_cons_zero, List.set_cons_succ]
                        refine lstepU HOPS rfl (by kernel_rfl) rfl ?_
                        dsimp only [List.set_cons_zero, List.set_cons_succ]
                        refine lstepQ HOPS ?_ rfl (by kernel_rfl) rfl ?_ ?_
                        rotate_left
                        · go_simp; (first | done | with_reducible rfl)
                        dsimp only [List.set_cons_zero, List.set_cons_succ]
                        refine lstepE HOPS (by decide) (HQ.out _ _ ?_)
                        clear HQ HOPS
                        clear Q ops
                        go_wp2
                        go_ret
                        exact ⟨by rw [HZ.out]; rfl, HB0.out⟩
                  · have y8b' := of_decide_eq_true y8b
                    have HZ := Lib.hid (HBAD.out fun h => by have h7 : l1.length ≤ 64 := h.2.2.2.2.1; rw [HL1.out] at h7; omega)
                    refine lstepQ HOPS ?_ rfl (by kernel_rfl) rfl ?_ ?_
                    rotate_left
                    · go_simp; (first | done | with_reducible rfl)
                    dsimp only [List.set_cons_zero, List.set_cons_succ]
                    refine lstepQ HOPS ?_ rfl (by kernel_rfl) rfl ?_ ?_
                    rotate_left
                    · go_simp; (first | done | with_reducible rfl)
                    dsimp only [List.set_cons_zero, List.set_cons_succ]
                    refine lstepQ HOPS ?_ rfl (by kernel_rfl) rfl ?_ ?_
                    rotate_left
                    · go_simp; (first | done | with_reducible rfl)
                    dsimp only [List.set_cons_zero, List.set_cons_succ]
                    refine lstepU HOPS rfl (by kernel_rfl) rfl ?_
                    dsimp only [List.set_cons_zero, List.set_cons_succ]
                    refine lstepU HOPS rfl (by kernel_rfl) rfl ?_
                    dsimp only [List.set_cons_zero, List.set_cons_succ]
                    refine lstepU HOPS rfl (by kernel_rfl) rfl ?_
                    dsimp only [List.set_cons_zero, List.set_cons_succ]
                    refine lstepU HOPS rfl (by kernel_rfl) rfl ?_
                    dsimp only [List.set_cons_zero, List.set_cons_succ]
                    refine lstepQ HOPS ?_ rfl (by kernel_rfl) rfl ?_ ?_
                    rotate_left
                    · go_simp; (first | done | with_reducible rfl)
                    dsimp only [List.set_cons_zero, List.set_cons_succ]
                    refine lstepQ HOPS ?_ rfl (by kernel_rfl) rfl ?_ ?_
                    rotate_left
                    · go_simp; (first | done | with_reducible rfl)
                    dsimp only [List.set_cons_zero, List.set_cons_succ]
                    refine lstepU HOPS rfl (by kernel_rfl) rfl ?_
                    dsimp only [List.set_cons_zero, List.set_cons_succ]
                    refine lstepU HOPS rfl (by kernel_rfl) rfl ?_
                    dsimp only [List.set_cons_zero, List.set_cons_succ]
                    refine lstepU HOPS rfl (by kernel_rfl) rfl ?_
                    dsimp only [List.set_cons_zero, List.set_cons_succ]
                    refine lstepU HOPS rfl (by kernel_rfl) rfl ?_
                    dsimp only [List.set_cons_zero, List.set_cons_succ]
                    refine lstepQ HOPS ?_ rfl (by kernel_rfl) rfl ?_ ?_
                    rotate_left
                    · go_simp; (first | done | with_reducible rfl)
                    dsimp only [List.set_cons_zero, List.set_cons_succ]
                    refine lstepQ HOPS ?_ rfl (by kernel_rfl) rfl ?_ ?_
                    rotate_left
                    · go_simp; (first | done | with_reducible rfl)
                    dsimp only [List.set_cons_zero, List.set_cons_succ]
                    refine lstepU HOPS rfl (by kernel_rfl) rfl ?_
                    dsimp only [List.set_cons_zero, List.set_cons_succ]
                    refine lstepU HOPS rfl (by kernel_rfl) rfl ?_
                    dsimp only [List.set_cons_zero, List.set_cons_succ]
                    refine lstepU HOPS rfl (by kernel_rfl) rfl ?_
                    dsimp only [List.set_cons_zero, List.set_cons_succ]
                    refine lstepU HOPS rfl (by kernel_rfl) rfl ?_
                    dsimp only [List.set_cons_zero, List.set_cons_succ]
                    refine lstepQ HOPS ?_ rfl (by kernel_rfl) rfl ?_ ?_
                    rotate_left
                    · go_simp; (first | done | with_reducible rfl)
                    dsimp only [List.set_cons_zero, List.set_cons_succ]
                    refine lstepQ HOPS ?_ rfl (by kernel_rfl) rfl ?_ ?_
                    rotate_left
                    · go_simp; (first | done | with_reducible rfl)
                    dsimp only [List.set_cons_zero, List.set_cons_succ]
                    refine lstepU HOPS rfl (by kernel_rfl) rfl ?_
                    dsimp only [List.set_cons_zero, List.set_cons_succ]
                    refine lstepU HOPS rfl (by kernel_rfl) rfl ?_
                    dsimp only [List.set_cons_zero, List.set_cons_succ]
                    refine lstepU HOPS rfl (by kernel_rfl) rfl ?_
                    dsimp only [List.set_cons_zero, List.set_cons_succ]
                    refine lstepU HOPS rfl (by kernel_rfl) rfl ?_
                    dsimp only [List.set_cons_zero, List.set_cons_succ]
                    refine lstepQ HOPS ?_ rfl (by kernel_rfl) rfl ?_ ?_
                    rotate_left
                    · go_simp; (first | done | with_reducible rfl)
                    dsimp only [List.set_cons_zero, List.set_cons_succ]
                    refine lstepE HOPS (by decide) (HQ.out _ _ ?_)
                    clear HQ HOPS
                    clear Q ops
                    go_wp2
                    go_ret
                    exact ⟨by rw [HZ.out]; rfl, HB0.out⟩
                · have y8' := of_decide_eq_true y8
                  have HZ := Lib.hid (HBAD.out fun h => by have h2 : 0 ≤ E ∧ E ≤ 999 := h.2.2.2.1; omega)
                  refine lstepQ HOPS ?_ rfl (by kernel_rfl) rfl ?_ ?_
                  rotate_left
                  · go_simp; (first | done | with_reducible rfl)
                  dsimp only [List.set_cons_zero, List.set_cons_succ]
                  refine lstepQ HOPS ?_ rfl (by kernel_rfl) rfl ?_ ?_
                  rotate_left
                  · go_simp; (first | done | with_reducible rfl)
                  dsimp only [List.set_cons_zero, List.set_cons_succ]
                  refine lstepQ HOPS ?_ rfl (by kernel_rfl) rfl ?_ ?_
                  rotate_left
                  · go_simp; (first | done | with_reducible rfl)
                  dsimp only [List.set_cons_zero, List.set_cons_succ]
                  refine lstepU HOPS rfl (by kernel_rfl) rfl ?_
                  dsimp only [List.set_cons_zero, List.set_cons_succ]
                  refine lstepU HOPS rfl (by kernel_rfl) rfl ?_
                  dsimp only [List.set_cons_zero, List.set_cons_succ]
                  refine lstepU HOPS rfl (by kernel_rfl) rfl ?_
                  dsimp only [List.set_cons_zero, List.set_cons_succ]
                  refine lstepU HOPS rfl (by kernel_rfl) rfl ?_
                  dsimp only [List.set_cons_zero, List.set_cons_succ]
                  refine lstepQ HOPS ?_ rfl (by kernel_rfl) rfl ?_ ?_
                  rotate_left
                  · go_simp; (first | done | with_reducible rfl)
                  dsimp only [List.set_cons_zero, List.set_cons_succ]
                  refine lstepQ HOPS ?_ rfl (by kernel_rfl) rfl ?_ ?_
                  rotate_left
                  · go_simp; (first | done | with_reducible rfl)
                  dsimp only [List.set_cons_zero, List.set_cons_succ]
                  refine lstepU HOPS rfl (by kernel_rfl) rfl ?_
                  dsimp only [List.set_cons_zero, List.set_cons_succ]
                  refine lstepU HOPS rfl (by kernel_rfl) rfl ?_
                  dsimp only [List.set_cons_zero, List.set_cons_succ]
                  refine lstepU HOPS rfl (by kernel_rfl) rfl ?_
                  dsimp only [List.set_cons_zero, List.set_cons_succ]
                  refine lstepU HOPS rfl (by kernel_rfl) rfl ?_
                  dsimp only [List.set_cons_zero, List.set_cons_succ]
                  refine lstepQ HOPS ?_ rfl (by kernel_rfl) rfl ?_ ?_
                  rotate_left
                  · go_simp; (first | done | with_reducible rfl)
                  dsimp only [List.set_cons_zero, List.set_cons_succ]
                  refine lstepQ HOPS ?_ rfl (by kernel_rfl) rfl ?_ ?_
                  rotate_left
                  · go_simp; (first | done | with_reducible rfl)
                  dsimp only [List.set_cons_zero, List.set_cons_succ]
                  refine lstepU HOPS rfl (by kernel_rfl) rfl ?_
                  dsimp only [List.set_cons_zero, List.set_cons_succ]
                  refine lstepU HOPS rfl (by kernel_rfl) rfl ?_
                  dsimp only [List.set_cons_zero, List.set_cons_succ]
                  refine lstepU HOPS rfl (by kernel_rfl) rfl ?_
                  dsimp only [List.set_cons_zero, List.set_cons_succ]
                  refine lstepU HOPS rfl (by kernel_rfl) rfl ?_
                  dsimp only [List.set_cons_zero, List.set_cons_succ]
                  refine lstepQ HOPS ?_ rfl (by kernel_rfl) rfl ?_ ?_
                  rotate_left
                  · go_simp; (first | done | with_reducible rfl)
                  dsimp only [List.set_cons_zero, List.set_cons_succ]
                  refine lstepQ HOPS ?_ rfl (by kernel_rfl) rfl ?_ ?_
                  rotate_left
                  · go_simp; (first | done | with_reducible rfl)
                  dsimp only [List.set_cons_zero, List.set_cons_succ]
                  refine lstepU HOPS rfl (by kernel_rfl) rfl ?_
                  dsimp only [List.set_cons_zero, List.set_cons_succ]
                  refine lstepU HOPS rfl (by kernel_rfl) rfl ?_
                  dsimp only [List.set_cons_zero, List.set_cons_succ]
                  refine lstepU HOPS rfl (by kernel_rfl) rfl ?_
                  dsimp only [List.set_cons_zero, List.set_cons_succ]
                  refine lstepU HOPS rfl (by kernel_rfl) rfl ?_
                  dsimp only [List.set_cons_zero, List.set_cons_succ]
                  refine lstepQ HOPS ?_ rfl (by kernel_rfl) rfl ?_ ?_
                  rotate_left
                  · go_simp; (first | done | with_reducible rfl)
                  dsimp only [List.set_cons_zero, List.set_cons_succ]
                  refine lstepQ HOPS ?_ rfl (by kernel_rfl) rfl ?_ ?_
                  rotate_left
                  · go_simp; (first | done | with_reducible rfl)
                  dsimp only [List.set_cons_zero, List.set_cons_succ]
                  refine lstepU HOPS rfl (by kernel_rfl) rfl ?_
                  dsimp only [List.set_cons_zero, List.set_cons_succ]
                  refine lstepU HOPS rfl (by kernel_rfl) rfl ?_
                  dsimp only [List.set_cons_zero, List.set_cons_succ]
                  refine lstepU HOPS rfl (by kernel_rfl) rfl ?_
                  dsimp only [List.set_cons_zero, List.set_cons_succ]
                  refine lstepU HOPS rfl (by kernel_rfl) rfl ?_
                  dsimp only [List.set_cons_zero, List.set_cons_succ]
                  refine lstepQ HOPS ?_ rfl (by kernel_rfl) rfl ?_ ?_
                  rotate_left
                  · go_simp; (first | done | with_reducible rfl)
                  dsimp only [List.set_cons_zero, List.set_cons_succ]
                  refine lstepE HOPS (by decide) (HQ.out _ _ ?_)
                  clear HQ HOPS
                  clear Q ops
                  go_wp2
                  go_ret
                  exact ⟨by rw [HZ.out]; rfl, HB0.out⟩
              · have y7' := of_decide_eq_true y7
                have HZ := Lib.hid (HBAD.out fun h => by have h2 : 0 ≤ E ∧ E ≤ 999 := h.2.2.2.1; omega)
                refine lstepQ HOPS ?_ rfl (by kernel_rfl) rfl ?_ ?_
                rotate_left
                · go_simp; (first | done | with_reducible rfl)
                dsimp only [List.set_cons_zero, List.set_cons_succ]
                refine lstepQ HOPS ?_ rfl (by kernel_rfl) rfl ?_ ?_
                rotate_left
                · go_simp; (first | done | with_reducible rfl)
                dsimp only [List.set_cons_zero, List.set_cons_succ]
                refine lstepQ HOPS ?_ rfl (by kernel_rfl) rfl ?_ ?_
                rotate_left
                · go_simp; (first | done | with_reducible rfl)
                dsimp only [List.set_cons_zero, List.set_cons_succ]
                refine lstepU HOPS rfl (by kernel_rfl) rfl ?_
                dsimp only [List.set_cons_zero, List.set_cons_succ]
                refine lstepU HOPS rfl (by kernel_rfl) rfl ?_
                dsimp only [List.set_cons_zero, List.set_cons_succ]
                refine lstepU HOPS rfl (by kernel_rfl) rfl ?_
                dsimp only [List.set_cons_zero, List.set_cons_succ]
                refine lstepQ HOPS ?_ rfl (by kernel_rfl) rfl ?_ ?_
                rotate_left
                · go_simp; (first | done | with_reducible rfl)
                dsimp only [List.set_cons_zero, List.set_cons_succ]
                refine lstepQ HOPS ?_ rfl (by kernel_rfl) rfl ?_ ?_
                rotate_left
                · go_simp; (first | done | with_reducible rfl)
                dsimp only [List.set_cons_zero, List.set_cons_succ]
                refine lstepU HOPS rfl (by kernel_rfl) rfl ?_
                dsimp only [List.set_cons_zero, List.set_cons_succ]
                refine lstepU HOPS rfl (by kernel_rfl) rfl ?_
                dsimp only [List.set_cons_zero, List.set_cons_succ]
                refine lstepU HOPS rfl (by kernel_rfl) rfl ?_
                dsimp only [List.set_cons_zero, List.set_cons_succ]
                refine lstepU HOPS rfl (by kernel_rfl) rfl ?_
                dsimp only [List.set_cons_zero, List.set_cons_succ]
                refine lstepQ HOPS ?_ rfl (by kernel_rfl) rfl ?_ ?_
                rotate_left
                · go_simp; (first | done | with_reducible rfl)
                dsimp only [List.set_cons_zero, List.set_cons_succ]
                refine lstepQ HOPS ?_ rfl (by kernel_rfl) rfl ?_ ?_
                rotate_left
                · go_simp; (first | done | with_reducible rfl)
                dsimp only [List.set_cons_zero, List.set_cons_succ]
                refine lstepU HOPS rfl (by kernel_rfl) rfl ?_
                dsimp only [List.set_cons_zero, List.set_cons_succ]
                refine lstepU HOPS rfl (by kernel_rfl) rfl ?_
                dsimp only [List.set_cons_zero, List.set_cons_succ]
                refine lstepU HOPS rfl (by kernel_rfl) rfl ?_
                dsimp only [List.set_cons_zero, List.set_cons_succ]
                refine lstepU HOPS rfl (by kernel_rfl) rfl ?_
                dsimp only [List.set_cons_zero, List.set_cons_succ]
                refine lstepQ HOPS ?_ rfl (by kernel_rfl) rfl ?_ ?_
                rotate_left
                · go_simp; (first | done | with_reducible rfl)
                dsimp only [List.set_cons_zero, List.set_cons_succ]
                refine lstepQ HOPS ?_ rfl (by kernel_rfl) rfl ?_ ?_
                rotate_left
                · go_simp; (first | done | with_reducible rfl)
                dsimp only [List.set_cons_zero, List.set_cons_succ]
                refine lstepU HOPS rfl (by kernel_rfl) rfl ?_
                dsimp only [List.set_cons_zero, List.set_cons_succ]
                refine lstepU HOPS rfl (by kernel_rfl) rfl ?_
                dsimp only [List.set_cons_zero, List.set_cons_succ]
                refine lstepU HOPS rfl (by kernel_rfl) rfl ?_
                dsimp only [List.set_cons_zero, List.set_cons_succ]
                refine lstepU HOPS rfl (by kernel_rfl) rfl ?_
                dsimp only [List.set_cons_zero, List.set_cons_succ]
                refine lstepQ HOPS ?_ rfl (by kernel_rfl) rfl ?_ ?_
                rotate_left
                · go_simp; (first | done | with_reducible rfl)
                dsimp only [List.set_cons_zero, List.set_cons_succ]
                refine lstepQ HOPS ?_ rfl (by kernel_rfl) rfl ?_ ?_
                rotate_left
                · go_simp; (first | done | with_reducible rfl)
                dsimp only [List.set_cons_zero, List.set_cons_succ]
                refine lstepU HOPS rfl (by kernel_rfl) rfl ?_
                dsimp only [List.set_cons_zero, List.set_cons_succ]
                refine lstepU HOPS rfl (by kernel_rfl) rfl ?_
                dsimp only [List.set_cons_zero, List.set_cons_succ]
                refine lstepU HOPS rfl (by kernel_rfl) rfl ?_
                dsimp only [List.set_cons_zero, List.set_cons_succ]
                refine lstepU HOPS rfl (by kernel_rfl) rfl ?_
                dsimp only [List.set_cons_zero, List.set_cons_succ]
                refine lstepQ HOPS ?_ rfl (by kernel_rfl) rfl ?_ ?_
                rotate_left
                · go_simp; (first | done | with_reducible rfl)
                dsimp only [List.set_cons_zero, List.set_cons_succ]
                refine lstepQ HOPS ?_ rfl (by kernel_rfl) rfl ?_ ?_
                rotate_left
                · go_simp; (first | done | with_reducible rfl)
                dsimp only [List.set_cons_zero, List.set_cons_succ]
                refine lstepU HOPS rfl (by kernel_rfl) rfl ?_
                dsimp only [List.set_cons_zero, List.set_cons_succ]
                refine lstepU HOPS rfl (by kernel_rfl) rfl ?_
                dsimp only [List.set_cons_zero, List.set_cons_succ]
                refine lstepU HOPS rfl (by kernel_rfl) rfl ?_
                dsimp only [List.set_cons_zero, List.set_cons_succ]
                refine lstepU HOPS rfl (by kernel_rfl) rfl ?_
                dsimp only [List.set_cons_zero, List.set_cons_succ]
                refine lstepQ HOPS ?_ rfl (by kernel_rfl) rfl ?_ ?_
                rotate_left
                · go_simp; (first | done | with_reducible rfl)
                dsimp only [List.set_cons_zero, List.set_cons_succ]
                refine lstepE HOPS (by decide) (HQ.out _ _ ?_)
                clear HQ HOPS
                clear Q ops
                go_wp2
                go_ret
                exact ⟨by rw [HZ.out]; rfl, HB0.out⟩
            · have HZ := Lib.hid (HBAD.out fun h => by have h8 : t = 0 := h.2.2.1 HV0.out; rw [h8] at y6; cases y6)
              refine lstepQ HOPS ?_ rfl (by kernel_rfl) rfl ?_ ?_
              rotate_left
              · go_simp; (first | done | with_reducible rfl)
              dsimp only [List.set_cons_zero, List.set_cons_succ]
              refine lstepQ HOPS ?_ rfl (by kernel_rfl) rfl ?_ ?_
              rotate_left
              · go_simp; (first | done | with_reducible rfl)
              dsimp only [List.set_cons_zero, List.set_cons_succ]
              refine lstepQ HOPS ?_ rfl (by kernel_rfl) rfl ?_ ?_
              rotate_left
              · go_simp; (first | done | with_reducible rfl)
              dsimp only [List.set_cons_zero, List.set_cons_succ]
              refine lstepQ HOPS ?_ rfl (by kernel_rfl) rfl ?_ ?_
              rotate_left
              · go_simp; (first | done | with_reducible rfl)
              dsimp only [List.set_cons_zero, List.set_cons_succ]
              refine lstepU HOPS rfl (by kernel_rfl) rfl ?_
              dsimp only [List.set_cons_zero, List.set_cons_succ]
              refine lstepU HOPS rfl (by kernel_rfl) rfl ?_
              dsimp only [List.set_cons_zero, List.set_cons_succ]
              refine lstepU HOPS rfl (by kernel_rfl) rfl ?_
              dsimp only [List.set_cons_zero, List.set_cons_succ]
              refine lstepQ HOPS ?_ rfl (by kernel_rfl) rfl ?_ ?_
              rotate_left
              · go_simp; (first | done | with_reducible rfl)
              dsimp only [List.set_cons_zero, List.set_cons_succ]
              refine lstepQ HOPS ?_ rfl (by kernel_rfl) rfl ?_ ?_
              rotate_left
              · go_simp; (first | done | with_reducible rfl)
              dsimp only [List.set_cons_zero, List.set_cons_succ]
              refine lstepU HOPS rfl (by kernel_rfl) rfl ?_
              dsimp only [List.set_cons_zero, List.set_cons_succ]
              refine lstepU HOPS rfl (by kernel_rfl) rfl ?_
              dsimp only [List.set_cons_zero, List.set_cons_succ]
              refine lstepU HOPS rfl (by kernel_rfl) rfl ?_
              dsimp only [List.set_cons_zero, List.set_cons_succ]
              refine lstepQ HOPS ?_ rfl (by kernel_rfl) rfl ?_ ?_
              rotate_left
              · go_simp; (first | done | with_reducible rfl)
              dsimp only [List.set_cons_zero, List.set_cons_succ]
              refine lstepQ HOPS ?_ rfl (by kernel_rfl) rfl ?_ ?_
              rotate_left
              · go_simp; (first | done | with_reducible rfl)
              dsimp only [List.set_cons_zero, List.set_cons_succ]
              refine lstepU HOPS rfl (by kernel_rfl) rfl ?_
              dsimp only [List.set_cons_zero, List.set_cons_succ]
              refine lstepU HOPS rfl (by kernel_rfl) rfl ?_
              dsimp only [List.set_cons_zero, List.set_cons_succ]
              refine lstepU HOPS rfl (by kernel_rfl) rfl ?_
              dsimp only [List.set_cons_zero, List.set_cons_succ]
              refine lstepU HOPS rfl (by kernel_rfl) rfl ?_
              dsimp only [List.set_cons_zero, List.set_cons_succ]
              refine lstepQ HOPS ?_ rfl (by kernel_rfl) rfl ?_ ?_
              rotate_left
              · go_simp; (first | done | with_reducible rfl)
              dsimp only [List.set_cons_zero, List.set_cons_succ]
              refine lstepQ HOPS ?_ rfl (by kernel_rfl) rfl ?_ ?_
              rotate_left
              · go_simp; (first | done | with_reducible rfl)
              dsimp only [List.set_cons_zero, List.set_cons_succ]
              refine lstepU HOPS rfl (by kernel_rfl) rfl ?_
              dsimp only [List.set_cons_zero, List.set_cons_succ]
              refine lstepU HOPS rfl (by kernel_rfl) rfl ?_
              dsimp only [List.set_cons_zero, List.set_cons_succ]
              refine lstepU HOPS rfl (by kernel_rfl) rfl ?_
              dsimp only [List.set_cons_zero, List.set_cons_succ]
              refine lstepU HOPS rfl (by kernel_rfl) rfl ?_
              dsimp only [List.set_cons_zero, List.set_cons_succ]
              refine lstepQ HOPS ?_ rfl (by kernel_rfl) rfl ?_ ?_
              rotate_left
              · go_simp; (first | done | with_reducible rfl)
              dsimp only [List.set_cons_zero, List.set_cons_succ]
              refine lstepQ HOPS ?_ rfl (by kernel_rfl) rfl ?_ ?_
              rotate_left
              · go_simp; (first | done | with_reducible rfl)
              dsimp only [List.set_cons_zero, List.set_cons_succ]
              refine lstepU HOPS rfl (by kernel_rfl) rfl ?_
              dsimp only [List.set_cons_zero, List.set_cons_succ]
              refine lstepU HOPS rfl (by kernel_rfl) rfl ?_
              dsimp only [List.set_cons_zero, List.set_cons_succ]
              refine lstepU HOPS rfl (by kernel_rfl) rfl ?_
              dsimp only [List.set_cons_zero, List.set_cons_succ]
              refine lstepU HOPS rfl (by kernel_rfl) rfl ?_
              dsimp only [List.set_cons_zero, List.set_cons_succ]
              refine lstepQ HOPS ?_ rfl (by kernel_rfl) rfl ?_ ?_
              rotate_left
              · go_simp; (first | done | with_reducible rfl)
              dsimp only [List.set_cons_zero, List.set_cons_succ]
              refine lstepQ HOPS ?_ rfl (by kernel_rfl) rfl ?_ ?_
              rotate_left
              · go_simp; (first | done | with_reducible rfl)
              dsimp only [List.set_cons_zero, List.set_cons_succ]
              refine lstepU HOPS rfl (by kernel_rfl) rfl ?_
              dsimp only [List.set_cons_zero, List.set_cons_succ]
              refine lstepU HOPS rfl (by kernel_rfl) rfl ?_
              dsimp only [List.set_cons_zero, List.set_cons_succ]
              refine lstepU HOPS rfl (by kernel_rfl) rfl ?_
              dsimp only [List.set_cons_zero, List.set_cons_succ]
              refine lstepU HOPS rfl (by kernel_rfl) rfl ?_
              dsimp only [List.set_cons_zero, List.set_cons_succ]
              refine lstepQ HOPS ?_ rfl (by kernel_rfl) rfl ?_ ?_
              rotate_left
              · go_simp; (first | done | with_reducible rfl)
              dsimp only [List.set_cons_zero, List.set_cons_succ]
              refine lstepQ HOPS ?_ rfl (by kernel_rfl) rfl ?_ ?_
              rotate_left
              · go_simp; (first | done | with_reducible rfl)
              dsimp only [List.set_cons_zero, List.set_cons_succ]
              refine lstepU HOPS rfl (by kernel_rfl) rfl ?_
              dsimp only [List.set_cons_zero, List.set_cons_succ]
              refine lstepU HOPS rfl (by kernel_rfl) rfl ?_
              dsimp only [List.set_cons_zero, List.set_cons_succ]
              refine lstepU HOPS rfl (by kernel_rfl) rfl ?_
              dsimp only [List.set_cons_zero, List.set_cons_succ]
              refine lstepU HOPS rfl (by kernel_rfl) rfl ?_
              dsimp only [List.set_cons_zero, List.set_cons_succ]
              refine lstepQ HOPS ?_ rfl (by kernel_rfl) rfl ?_ ?_
              rotate_left
              · go_simp; (first | done | with_reducible rfl)
              dsimp only [List.set_cons_zero, List.set_cons_succ]
              refine lstepE HOPS (by decide) (HQ.out _ _ ?_)
              clear HQ HOPS
              clear Q ops
              go_wp2
              go_ret
              exact ⟨by rw [HZ.out]; rfl, HB0.out⟩
        · have y4' := of_decide_eq_true y4
          have HZ := Lib.hid (HBAD.out fun h => by have h2 : 0 ≤ t ∧ t ≤ 1099511627776 := h.2.1; omega)
          refine lstepQ HOPS ?_ rfl (by kernel_rfl) rfl ?_ ?_
          rotate_left
          · go_simp; (first | done | with_reducible rfl)
          dsimp only [List.set_cons_zero, List.set_cons_succ]
          refine lstepQ HOPS ?_ rfl (by kernel_rfl) rfl ?_ ?_
          rotate_left
          · go_simp; (first | done | with_reducible rfl)
          dsimp only [List.set_cons_zero, List.set_cons_succ]
          refine lstepQ HOPS ?_ rfl (by kernel_rfl) rfl ?_ ?_
          rotate_left
          · go_simp; (first | done | with_reducible rfl)
          dsimp only [List.set_cons_zero, List.set_cons_succ]
          refine lstepU HOPS rfl (by kernel_rfl) rfl ?_
          dsimp only [List.set_cons_zero, List.set_cons_succ]
          refine lstepU HOPS rfl (by kernel_rfl) rfl ?_
          dsimp only [List.set_cons_zero, List.set_cons_succ]
          refine lstepU HOPS rfl (by kernel_rfl) rfl ?_
          dsimp only [List.set_cons_zero, List.set_cons_succ]
          refine lstepU HOPS rfl (by kernel_rfl) rfl ?_
          dsimp only [List.set_cons_zero, List.set_cons_succ]
          refine lstepU HOPS rfl (by kernel_rfl) rfl ?_
          dsimp only [List.set_cons_zero, List.set_cons_succ]
          refine lstepU HOPS rfl (by kernel_rfl) rfl ?_
          dsimp only [List.set_cons_zero, List.set_cons_succ]
          refine lstepU HOPS rfl (by kernel_rfl) rfl ?_
          dsimp only [List.set_cons_zero, List.set_cons_succ]
          refine lstepU HOPS rfl (by kernel_rfl) rfl ?_
          dsimp only [List.set_cons_zero, List.set_cons_succ]
          refine lstepQ HOPS ?_ rfl (by kernel_rfl) rfl ?_ ?_
          rotate_left
          · go_simp; (first | done | with_reducible rfl)
          dsimp only [List.set_cons_zero, List.set_cons_succ]
          refine lstepQ HOPS ?_ rfl (by kernel_rfl) rfl ?_ ?_
          rotate_left
          · go_simp; (first | done | with_reducible rfl)
          dsimp only [List.set_cons_zero, List.set_cons_succ]
          refine lstepU HOPS rfl (by kernel_rfl) rfl ?_
          dsimp only [List.set_cons_zero, List.set_cons_succ]
          refine lstepU HOPS rfl (by kernel_rfl) rfl ?_
          dsimp only [List.set_cons_zero, List.set_cons_succ]
          refine lstepU HOPS rfl (by kernel_rfl) rfl ?_
          dsimp only [List.set_cons_zero, List.set_cons_succ]
          refine lstepQ HOPS ?_ rfl (by kernel_rfl) rfl ?_ ?_
          rotate_left
          · go_simp; (first | done | with_reducible rfl)
          dsimp only [List.set_cons_zero, List.set_cons_succ]
          refine lstepQ HOPS ?_ rfl (by kernel_rfl) rfl ?_ ?_
          rotate_left
          · go_simp; (first | done | with_reducible rfl)
          dsimp only [List.set_cons_zero, List.set_cons_succ]
          refine lstepU HOPS rfl (by kernel_rfl) rfl ?_
          dsimp only [List.set_cons_zero, List.set_cons_succ]
          refine lstepU HOPS rfl (by kernel_rfl) rfl ?_
          dsimp only [List.set_cons_zero, List.set_cons_succ]
          refine lstepU HOPS rfl (by kernel_rfl) rfl ?_
          dsimp only [List.set_cons_zero, List.set_cons_succ]
          refine lstepQ HOPS ?_ rfl (by kernel_rfl) rfl ?_ ?_
          rotate_left
          · go_simp; (first | done | with_reducible rfl)
          dsimp only [List.set_cons_zero, List.set_cons_succ]
          refine lstepQ HOPS ?_ rfl (by kernel_rfl) rfl ?_ ?_
          rotate_left
          · go_simp; (first | done | with_reducible rfl)
          dsimp only [List.set_cons_zero, List.set_cons_succ]
          refine lstepU HOPS rfl (by kernel_rfl) rfl ?_
          dsimp only [List.set_cons_zero, List.set_cons_succ]
          refine lstepU HOPS rfl (by kernel_rfl) rfl ?_
          dsimp only [List.set_cons_zero, List.set_cons_succ]
          refine lstepU HOPS rfl (by kernel_rfl) rfl ?_
          dsimp only [List.set_cons_zero, List.set_cons_succ]
          refine lstepU HOPS rfl (by kernel_rfl) rfl ?_
          dsimp only [List.set_cons_zero, List.set_cons_succ]
          refine lstepQ HOPS ?_ rfl (by kernel_rfl) rfl ?_ ?_
          rotate_left
          · go_simp; (first | done | with_reducible rfl)
          dsimp only [List.set_cons_zero, List.set_cons_succ]
          refine lstepQ HOPS ?_ rfl (by kernel_rfl) rfl ?_ ?_
          rotate_left
          · go_simp; (first | done | with_reducible rfl)
          dsimp only [List.set_cons_zero, List.set_cons_succ]
          refine lstepU HOPS rfl (by kernel_rfl) rfl ?_
          dsimp only [List.set_cons_zero, List.set_cons_succ]
          refine lstepU HOPS rfl (by kernel_rfl) rfl ?_
          dsimp only [List.set_cons_zero, List.set_cons_succ]
          refine lstepU HOPS rfl (by kernel_rfl) rfl ?_
          dsimp only [List.set_cons_zero, List.set_cons_succ]
          refine lstepU HOPS rfl (by kernel_rfl) rfl ?_
          dsimp only [List.set_cons_zero, List.set_cons_succ]
          refine lstepQ HOPS ?_ rfl (by kernel_rfl) rfl ?_ ?_
          rotate_left
          · go_simp; (first | done | with_reducible rfl)
          dsimp only [List.set_cons_zero, List.set_cons_succ]
          refine lstepQ HOPS ?_ rfl (by kernel_rfl) rfl ?_ ?_
          rotate_left
          · go_simp; (first | done | with_reducible rfl)
          dsimp only [List.set_cons_zero, List.set_cons_succ]
          refine lstepU HOPS rfl (by kernel_rfl) rfl ?_
          dsimp only [List.set_cons_zero, List.set_cons_succ]
          refine lstepU HOPS rfl (by kernel_rfl) rfl ?_
          dsimp only [List.set_cons_zero, List.set_cons_succ]
          refine lstepU HOPS rfl (by kernel_rfl) rfl ?_
          dsimp only [List.set_cons_zero, List.set_cons_succ]
          refine lstepU HOPS rfl (by kernel_rfl) rfl ?_
          dsimp only [List.set_cons_zero, List.set_cons_succ]
          refine lstepQ HOPS ?_ rfl (by kernel_rfl) rfl ?_ ?_
          rotate_left
          · go_simp; (first | done | with_reducible rfl)
          dsimp only [List.set_cons_zero, List.set_cons_succ]
          refine lstepQ HOPS ?_ rfl (by kernel_rfl) rfl ?_ ?_
          rotate_left
          · go_simp; (first | done | with_reducible rfl)
          dsimp only [List.set_cons_zero, List.set_cons_succ]
          refine lstepU HOPS rfl (by kernel_rfl) rfl ?_
          dsimp only [List.set_cons_zero, List.set_cons_succ]
          refine lstepU HOPS rfl (by kernel_rfl) rfl ?_
          dsimp only [List.set_cons_zero, List.set_cons_succ]
          refine lstepU HOPS rfl (by kernel_rfl) rfl ?_
          dsimp only [List.set_cons_zero, List.set_cons_succ]
          refine lstepU HOPS rfl (by kernel_rfl) rfl ?_
          dsimp only [List.set_cons_zero, List.set_cons_succ]
          refine lstepQ HOPS ?_ rfl (by kernel_rfl) rfl ?_ ?_
          rotate_left
          · go_simp; (first | done | with_reducible rfl)
          dsimp only [List.set_cons_zero, List.set_cons_succ]
          refine lstepQ HOPS ?_ rfl (by kernel_rfl) rfl ?_ ?_
          rotate_left
          · go_simp; (first | done | with_reducible rfl)
          dsimp only [List.set_cons_zero, List.set_cons_succ]
          refine lstepU HOPS rfl (by kernel_rfl) rfl ?_
          dsimp only [List.set_cons_zero, List.set_cons_succ]
          refine lstepU HOPS rfl (by kernel_rfl) rfl ?_
          dsimp only [List.set_cons_zero, List.set_cons_succ]
          refine lstepU HOPS rfl (by kernel_rfl) rfl ?_
          dsimp only [List.set_cons_zero, List.set_cons_succ]
          refine lstepU HOPS rfl (by kernel_rfl) rfl ?_
          dsimp only [List.set_cons_zero, List.set_cons_succ]
          refine lstepQ HOPS ?_ rfl (by kernel_rfl) rfl ?_ ?_
          rotate_left
          · go_simp; (first | done | with_reducible rfl)
          dsimp only [List.set_cons_zero, List.set_cons_succ]
          refine lstepE HOPS (by decide) (HQ.out _ _ ?_)
          clear HQ HOPS
          clear Q ops
          go_wp2
          go_ret
          exact ⟨by rw [HZ.out]; rfl, HB0.out⟩
      · have y3' := of_decide_eq_true y3
        have HZ := Lib.hid (HBAD.out fun h => by have h2 : 0 ≤ t ∧ t ≤ 1099511627776 := h.2.1; omega)
        refine lstepQ HOPS ?_ rfl (by kernel_rfl) rfl ?_ ?_
        rotate_left
        · go_simp; (first | done | with_reducible rfl)
        dsimp only [List.set_cons_zero, List.set_cons_succ]
        refine lstepQ HOPS ?_ rfl (by kernel_rfl) rfl ?_ ?_
        rotate_left
        · go_simp; (first | done | with_reducible rfl)
        dsimp only [List.set_cons_zero, List.set_cons_succ]
        refine lstepQ HOPS ?_ rfl (by kernel_rfl) rfl ?_ ?_
        rotate_left
        · go_simp; (first | done | with_reducible rfl)
        dsimp only [List.set_cons_zero, List.set_cons_succ]
        refine lstepU HOPS rfl (by kernel_rfl) rfl ?_
        dsimp only [List.set_cons_zero, List.set_cons_succ]
        refine lstepU HOPS rfl (by kernel_rfl) rfl ?_
        dsimp only [List.set_cons_zero, List.set_cons_succ]
        refine lstepU HOPS rfl (by kernel_rfl) rfl ?_
        dsimp only [List.set_cons_zero, List.set_cons_succ]
        refine lstepQ HOPS ?_ rfl (by kernel_rfl) rfl ?_ ?_
        rotate_left
        · go_simp; (first | done | with_reducible rfl)
        dsimp only [List.set_cons_zero, List.set_cons_succ]
        refine lstepQ HOPS ?_ rfl (by kernel_rfl) rfl ?_ ?_
        rotate_left
        · go_simp; (first | done | with_reducible rfl)
        dsimp only [List.set_cons_zero, List.set_cons_succ]
        refine lstepU HOPS rfl (by kernel_rfl) rfl ?_
        dsimp only [List.set_cons_zero, List.set_cons_succ]
        refine lstepU HOPS rfl (by kernel_rfl) rfl ?_
        dsimp only [List.set_cons_zero, List.set_cons_succ]
        refine lstepU HOPS rfl (by kernel_rfl) rfl ?_
        dsimp only [List.set_cons_zero, List.set_cons_succ]
        refine lstepU HOPS rfl (by kernel_rfl) rfl ?_
        dsimp only [List.set_cons_zero, List.set_cons_succ]
        refine lstepU HOPS rfl (by kernel_rfl) rfl ?_
        dsimp only [List.set_cons_zero, List.set_cons_succ]
        refine lstepU HOPS rfl (by kernel_rfl) rfl ?_
        dsimp only [List.set_cons_zero, List.set_cons_succ]
        refine lstepU HOPS rfl (by kernel_rfl) rfl ?_
        dsimp only [List.set_cons_zero, List.set_cons_succ]
        refine lstepU HOPS rfl (by kernel_rfl) rfl ?_
        dsimp only [List.set_cons_zero, List.set_cons_succ]
        refine lstepQ HOPS ?_ rfl (by kernel_rfl) rfl ?_ ?_
        rotate_left
        · go_simp; (first | done | with_reducible rfl)
        dsimp only [List.set_cons_zero, List.set_cons_succ]
        refine lstepQ HOPS ?_ rfl (by kernel_rfl) rfl ?_ ?_
        rotate_left
        · go_simp; (first | done | with_reducible rfl)
        dsimp only [List.set_cons_zero, List.set_cons_succ]
        refine lstepU HOPS rfl (by kernel_rfl) rfl ?_
        dsimp only [List.set_cons_zero, List.set_cons_succ]
        refine lstepU HOPS rfl (by kernel_rfl) rfl ?_
        dsimp only [List.set_cons_zero, List.set_cons_succ]
        refine lstepU HOPS rfl (by kernel_rfl) rfl ?_
        dsimp only [List.set_cons_zero, List.set_cons_succ]
        refine lstepQ HOPS ?_ rfl (by kernel_rfl) rfl ?_ ?_
        rotate_left
        · go_simp; (first | done | with_reducible rfl)
        dsimp only [List.set_cons_zero, List.set_cons_succ]
        refine lstepQ HOPS ?_ rfl (by kernel_rfl) rfl ?_ ?_
        rotate_left
        · go_simp; (first | done | with_reducible rfl)
        dsimp only [List.set_cons_zero, List.set_cons_succ]
        refine lstepU HOPS rfl (by kernel_rfl) rfl ?_
        dsimp only [List.set_cons_zero, List.set_cons_succ]
        refine lstepU HOPS rfl (by kernel_rfl) rfl ?_
        dsimp only [List.set_cons_zero, List.set_cons_succ]
        refine lstepU HOPS rfl (by kernel_rfl) rfl ?_
        dsimp only [List.set_cons_zero, List.set_cons_succ]
        refine lstepQ HOPS ?_ rfl (by kernel_rfl) rfl ?_ ?_
        rotate_left
        · go_simp; (first | done | with_reducible rfl)
        dsimp only [List.set_cons_zero, List.set_cons_succ]
        refine lstepQ HOPS ?_ rfl (by kernel_rfl) rfl ?_ ?_
        rotate_left
        · go_simp; (first | done | with_reducible rfl)
        dsimp only [List.set_cons_zero, List.set_cons_succ]
        refine lstepU HOPS rfl (by kernel_rfl) rfl ?_
        dsimp only [List.set_cons_zero, List.set_cons_succ]
        refine lstepU HOPS rfl (by kernel_rfl) rfl ?_
        dsimp only [List.set_cons_zero, List.set_cons_succ]
        refine lstepU HOPS rfl (by kernel_rfl) rfl ?_
        dsimp only [List.set_cons_zero, List.set_cons_succ]
        refine lstepU HOPS rfl (by kernel_rfl) rfl ?_
        dsimp only [List.set_cons_zero, List.set_cons_succ]
        refine lstepQ HOPS ?_ rfl (by kernel_rfl) rfl ?_ ?_
        rotate_left
        · go_simp; (first | done | with_reducible rfl)
        dsimp only [List.set_cons_zero, List.set_cons_succ]
        refine lstepQ HOPS ?_ rfl (by kernel_rfl) rfl ?_ ?_
        rotate_left
        · go_simp; (first | done | with_reducible rfl)
        dsimp only [List.set_cons_zero, List.set_cons_succ]
        refine lstepU HOPS rfl (by kernel_rfl) rfl ?_
        dsimp only [List.set_cons_zero, List.set_cons_succ]
        refine lstepU HOPS rfl (by kernel_rfl) rfl ?_
        dsimp only [List.set_cons_zero, List.set_cons_succ]
        refine lstepU HOPS rfl (by kernel_rfl) rfl ?_
        dsimp only [List.set_cons_zero, List.set_cons_succ]
        refine lstepU HOPS rfl (by kernel_rfl) rfl ?_
        dsimp only [List.set_cons_zero, List.set_cons_succ]
        refine lstepQ HOPS ?_ rfl (by kernel_rfl) rfl ?_ ?_
        rotate_left
        · go_simp; (first | done | with_reducible rfl)
        dsimp only [List.set_cons_zero, List.set_cons_succ]
        refine lstepQ HOPS ?_ rfl (by kernel_rfl) rfl ?_ ?_
        rotate_left
        · go_simp; (first | done | with_reducible rfl)
        dsimp only [List.set_cons_zero, List.set_cons_succ]
        refine lstepU HOPS rfl (by kernel_rfl) rfl ?_
        dsimp only [List.set_cons_zero, List.set_cons_succ]
        refine lstepU HOPS rfl (by kernel_rfl) rfl ?_
        dsimp only [List.set_cons_zero, List.set_cons_succ]
        refine lstepU HOPS rfl (by kernel_rfl) rfl ?_
        dsimp only [List.set_cons_zero, List.set_cons_succ]
        refine lstepU HOPS rfl (by kernel_rfl) rfl ?_
        dsimp only [List.set_cons_zero, List.set_cons_succ]
        refine lstepQ HOPS ?_ rfl (by kernel_rfl) rfl ?_ ?_
        rotate_left
        · go_simp; (first | done | with_reducible rfl)
        dsimp only [List.set_cons_zero, List.set_cons_succ]
        refine lstepQ HOPS ?_ rfl (by kernel_rfl) rfl ?_ ?_
        rotate_left
        · go_simp; (first | done | with_reducible rfl)
        dsimp only [List.set_cons_zero, List.set_cons_succ]
        refine lstepU HOPS rfl (by kernel_rfl) rfl ?_
        dsimp only [List.set_cons_zero, List.set_cons_succ]
        refine lstepU HOPS rfl (by kernel_rfl) rfl ?_
        dsimp only [List.set_cons_zero, List.set_cons_succ]
        refine lstepU HOPS rfl (by kernel_rfl) rfl ?_
        dsimp only [List.set_cons_zero, List.set_cons_succ]
        refine lstepU HOPS rfl (by kernel_rfl) rfl ?_
        dsimp only [List.set_cons_zero, List.set_cons_succ]
        refine lstepQ HOPS ?_ rfl (by kernel_rfl) rfl ?_ ?_
        rotate_left
        · go_simp; (first | done | with_reducible rfl)
        dsimp only [List.set_cons_zero, List.set_cons_succ]
        refine lstepQ HOPS ?_ rfl (by kernel_rfl) rfl ?_ ?_
        rotate_left
        · go_simp; (first | done | with_reducible rfl)
        dsimp only [List.set_cons_zero, List.set_cons_succ]
        refine lstepU HOPS rfl (by kernel_rfl) rfl ?_
        dsimp only [List.set_cons_zero, List.set_cons_succ]
        refine lstepU HOPS rfl (by kernel_rfl) rfl ?_
        dsimp only [List.set_cons_zero, List.set_cons_succ]
        refine lstepU HOPS rfl (by kernel_rfl) rfl ?_
        dsimp only [List.set_cons_zero, List.set_cons_succ]
        refine lstepU HOPS rfl (by kernel_rfl) rfl ?_
        dsimp only [List.set_cons_zero, List.set_cons_succ]
        refine lstepQ HOPS ?_ rfl (by kernel_rfl) rfl ?_ ?_
        rotate_left
        · go_simp; (first | done | with_reducible rfl)
        dsimp only [List.set_cons_zero, List.set_cons_succ]
        refine lstepE HOPS (by decide) (HQ.out _ _ ?_)
        clear HQ HOPS
        clear Q ops
        go_wp2
        go_ret
        exact ⟨by rw [HZ.out]; rfl, HB0.out⟩
    · have y2' := of_decide_eq_true y2
      have HZ := Lib.hid (HBAD.out fun h => by have h2 : 0 ≤ i ∧ i ≤ 1099511627776 := h.1; omega)
      refine lstepQ HOPS ?_ rfl (by kernel_rfl) rfl ?_ ?_
      rotate_left
      · go_simp; (first | done | with_reducible rfl)
      dsimp only [List.set_cons_zero, List.set_cons_succ]
      refine lstepQ HOPS ?_ rfl (by kernel_rfl) rfl ?_ ?_
      rotate_left
      · go_simp; (first | done | with_reducible rfl)
      dsimp only [List.set_cons_zero, List.set_cons_succ]
      refine lstepQ HOPS ?_ rfl (by kernel_rfl) rfl ?_ ?_
      rotate_left
      · go_simp; (first | done | with_reducible rfl)
      dsimp only [List.set_cons_zero, List.set_cons_succ]
      refine lstepU HOPS rfl (by kernel_rfl) rfl ?_
      dsimp only [List.set_cons_zero, List.set_cons_succ]
      refine lstepU HOPS rfl (by kernel_rfl) rfl ?_
      dsimp only [List.set_cons_zero, List.set_cons_succ]
      refine lstepU HOPS rfl (by kernel_rfl) rfl ?_
      dsimp only [List.set_cons_zero, List.set_cons_succ]
      refine lstepQ HOPS ?_ rfl (by kernel_rfl) rfl ?_ ?_
      rotate_left
      · go_simp; (first | done | with_reducible rfl)
      dsimp only [List.set_cons_zero, List.set_cons_succ]
      refine lstepQ HOPS ?_ rfl (by kernel_rfl) rfl ?_ ?_
      rotate_left
      · go_simp; (first | done | with_reducible rfl)
      dsimp only [List.set_cons_zero, List.set_cons_succ]
      refine lstepU HOPS rfl (by kernel_rfl) rfl ?_
      dsimp only [List.set_cons_zero, List.set_cons_succ]
      refine lstepU HOPS rfl (by kernel_rfl) rfl ?_
      dsimp only [List.set_cons_zero, List.set_cons_succ]
      refine lstepU HOPS rfl (by kernel_rfl) rfl ?_
      dsimp only [List.set_cons_zero, List.set_cons_succ]
      refine lstepQ HOPS ?_ rfl (by kernel_rfl) rfl ?_ ?_
      rotate_left
      · go_simp; (first | done | with_reducible rfl)
      dsimp only [List.set_cons_zero, List.set_cons_succ]
      refine lstepQ HOPS ?_ rfl (by kernel_rfl) rfl ?_ ?_
      rotate_left
      · go_simp; (first | done | with_reducible rfl)
      dsimp only [List.set_cons_zero, List.set_cons_succ]
      refine lstepU HOPS rfl (by kernel_rfl) rfl ?_
      dsimp only [List.set_cons_zero, List.set_cons_succ]
      refine lstepU HOPS rfl (by kernel_rfl) rfl ?_
      dsimp only [List.set_cons_zero, List.set_cons_succ]
      refine lstepU HOPS rfl (by kernel_rfl) rfl ?_
      dsimp only [List.set_cons_zero, List.set_cons_succ]
      refine lstepU HOPS rfl (by kernel_rfl) rfl ?_
      dsimp only [List.set_cons_zero, List.set_cons_succ]
      refine lstepU HOPS rfl (by kernel_rfl) rfl ?_
      dsimp only [List.set_cons_zero, List.set_cons_succ]
      refine lstepU HOPS rfl (by kernel_rfl) rfl ?_
      dsimp only [List.set_cons_zero, List.set_cons_succ]
      refine lstepU HOPS rfl (by kernel_rfl) rfl ?_
      dsimp only [List.set_cons_zero, List.set_cons_succ]
      refine lstepU HOPS rfl (by kernel_rfl) rfl ?_
      dsimp only [List.set_cons_zero, List.set_cons_succ]
      refine lstepQ HOPS ?_ rfl (by kernel_rfl) rfl ?_ ?_
      rotate_left
      · go_simp; (first | done | with_reducible rfl)
      dsimp only [List.set_cons_zero, List.set_cons_succ]
      refine lstepQ HOPS ?_ rfl (by kernel_rfl) rfl ?_ ?_
      rotate_left
      · go_simp; (first | done | with_reducible rfl)
      dsimp only [List.set_cons_zero, List.set_cons_succ]
      refine lstepU HOPS rfl (by kernel_rfl) rfl ?_
      dsimp only [List.set_cons_zero, List.set_cons_succ]
      refine lstepU HOPS rfl (by kernel_rfl) rfl ?_
      dsimp only [List.set_cons_zero, List.set_cons_succ]
      refine lstepU HOPS rfl (by kernel_rfl) rfl ?_
      dsimp only [List.set_cons_zero, List.set_cons_succ]
      refine lstepQ HOPS ?_ rfl (by kernel_rfl) rfl ?_ ?_
      rotate_left
      · go_simp; (first | done | with_reducible rfl)
      dsimp only [List.set_cons_zero, List.set_cons_succ]
      refine lstepQ HOPS ?_ rfl (by kernel_rfl) rfl ?_ ?_
      rotate_left
      · go_simp; (first | done | with_reducible rfl)
      dsimp only [List.set_cons_zero, List.set_cons_succ]
      refine lstepU HOPS rfl (by kernel_rfl) rfl ?_
      dsimp only [List.set_cons_zero, List.set_cons_succ]
      refine lstepU HOPS rfl (by kernel_rfl) rfl ?_
      dsimp only [List.set_cons_zero, List.set_cons_succ]
      refine lstepU HOPS rfl (by kernel_rfl) rfl ?_
      dsimp only [List.set_cons_zero, List.set_cons_succ]
      refine lstepQ HOPS ?_ rfl (by kernel_rfl) rfl ?_ ?_
      rotate_left
      · go_simp; (first | done | with_reducible rfl)
      dsimp only [List.set_cons_zero, List.set_cons_succ]
      refine lstepQ HOPS ?_ rfl (by kernel_rfl) rfl ?_ ?_
      rotate_left
      · go_simp; (first | done | with_reducible rfl)
      dsimp only [List.set_cons_zero, List.set_cons_succ]
      refine lstepU HOPS rfl (by kernel_rfl) rfl ?_
      dsimp only [List.set_cons_zero, List.set_cons_succ]
      refine lstepU HOPS rfl (by kernel_rfl) rfl ?_
      dsimp only [List.set_cons_zero, List.set_cons_succ]
      refine lstepU HOPS rfl (by kernel_rfl) rfl ?_
      dsimp only [List.set_cons_zero, List.set_cons_succ]
      refine lstepU HOPS rfl (by kernel_rfl) rfl ?_
      dsimp only [List.set_cons_zero, List.set_cons_succ]
      refine lstepQ HOPS ?_ rfl (by kernel_rfl) rfl ?_ ?_
      rotate_left
      · go_simp; (first | done | with_reducible rfl)
      dsimp only [List.set_cons_zero, List.set_cons_succ]
      refine lstepQ HOPS ?_ rfl (by kernel_rfl) rfl ?_ ?_
      rotate_left
      · go_simp; (first | done | with_reducible rfl)
      dsimp only [List.set_cons_zero, List.set_cons_succ]
      refine lstepU HOPS rfl (by kernel_rfl) rfl ?_
      dsimp only [List.set_cons_zero, List.set_cons_succ]
      refine lstepU HOPS rfl (by kernel_rfl) rfl ?_
      dsimp only [List.set_cons_zero, List.set_cons_succ]
      refine lstepU HOPS rfl (by kernel_rfl) rfl ?_
      dsimp only [List.set_cons_zero, List.set_cons_succ]
      refine lstepU HOPS rfl (by kernel_rfl) rfl ?_
      dsimp only [List.set_cons_zero, List.set_cons_succ]
      refine lstepQ HOPS ?_ rfl (by kernel_rfl) rfl ?_ ?_
      rotate_left
      · go_simp; (first | done | with_reducible rfl)
      dsimp only [List.set_cons_zero, List.set_cons_succ]
      refine lstepQ HOPS ?_ rfl (by kernel_rfl) rfl ?_ ?_
      rotate_left
      · go_simp; (first | done | with_reducible rfl)
      dsimp only [List.set_cons_zero, List.set_cons_succ]
      refine lstepU HOPS rfl (by kernel_rfl) rfl ?_
      dsimp only [List.set_cons_zero, List.set_cons_succ]
      refine lstepU HOPS rfl (by kernel_rfl) rfl ?_
      dsimp only [List.set_cons_zero, List.set_cons_succ]
      refine lstepU HOPS rfl (by kernel_rfl) rfl ?_
      dsimp only [List.set_cons_zero, List.set_cons_succ]
      refine lstepU HOPS rfl (by kernel_rfl) rfl ?_
      dsimp only [List.set_cons_zero, List.set_cons_succ]
      refine lstepQ HOPS ?_ rfl (by kernel_rfl) rfl ?_ ?_
      rotate_left
      · go_simp; (first | done | with_reducible rfl)
      dsimp only [List.set_cons_zero, List.set_cons_succ]
      refine lstepQ HOPS ?_ rfl (by kernel_rfl) rfl ?_ ?_
      rotate_left
      · go_simp; (first | done | with_reducible rfl)
      dsimp only [List.set_cons_zero, List.set_cons_succ]
      refine lstepU HOPS rfl (by kernel_rfl) rfl ?_
      dsimp only [List.set_cons_zero, List.set_cons_succ]
      refine lstepU HOPS rfl (by kernel_rfl) rfl ?_
      dsimp only [List.set_cons_zero, List.set_cons_succ]
      refine lstepU HOPS rfl (by kernel_rfl) rfl ?_
      dsimp only [List.set_cons_zero, List.set_cons_succ]
      refine lstepU HOPS rfl (by kernel_rfl) rfl ?_
      dsimp only [List.set_cons_zero, List.set_cons_succ]
      refine lstepQ HOPS ?_ rfl (by kernel_rfl) rfl ?_ ?_
      rotate_left
      · go_simp; (first | done | with_reducible rfl)
      dsimp only [List.set_cons_zero, List.set_cons_succ]
      refine lstepQ HOPS ?_ rfl (by kernel_rfl) rfl ?_ ?_
      rotate_left
      · go_simp; (first | done | with_reducible rfl)
      dsimp only [List.set_cons_zero, List.set_cons_succ]
      refine lstepU HOPS rfl (by kernel_rfl) rfl ?_
      dsimp only [List.set_cons_zero, List.set_cons_succ]
      refine lstepU HOPS rfl (by kernel_rfl) rfl ?_
      dsimp only [List.set_cons_zero, List.set_cons_succ]
      refine lstepU HOPS rfl (by kernel_rfl) rfl ?_
      dsimp only [List.set_cons_zero, List.set_cons_succ]
      refine lstepU HOPS rfl (by kernel_rfl) rfl ?_
      dsimp only [List.set_cons_zero, List.set_cons_succ]
      refine lstepQ HOPS ?_ rfl (by kernel_rfl) rfl ?_ ?_
      rotate_left
      · go_simp; (first | done | with_reducible rfl)
      dsimp only [List.set_cons_zero, List.set_cons_succ]
      refine lstepE HOPS (by decide) (HQ.out _ _ ?_)
      clear HQ HOPS
      clear Q ops
      go_wp2
      go_ret
      exact ⟨by rw [HZ.out]; rfl, HB0.out⟩
  · have y1' := of_decide_eq_true y1
    have HZ := Lib.hid (HBAD.out fun h => by have h2 : 0 ≤ i ∧ i ≤ 1099511627776 := h.1; omega)
    refine lstepQ HOPS ?_ rfl (by kernel_rfl) rfl ?_ ?_
    rotate_left
    · go_simp; (first | done | with_reducible rfl)
    dsimp only [List.set_cons_zero, List.set_cons_succ]
    refine lstepQ HOPS ?_ rfl (by kernel_rfl) rfl ?_ ?_
    rotate_left
    · go_simp; (first | done | with_reducible rfl)
    dsimp only [List.set_cons_zero, List.set_cons_succ]
    refine lstepU HOPS rfl (by kernel_rfl) rfl ?_
    dsimp only [List.set_cons_zero, List.set_cons_succ]
    refine lstepU HOPS rfl (by kernel_rfl) rfl ?_
    dsimp only [List.set_cons_zero, List.set_cons_succ]
    refine lstepU HOPS rfl (by kernel_rfl) rfl ?_
    dsimp only [List.set_cons_zero, List.set_cons_succ]
    refine lstepQ HOPS ?_ rfl (by kernel_rfl) rfl ?_ ?_
    rotate_left
    · go_simp; (first | done | with_reducible rfl)
    dsimp only [List.set_cons_zero, List.set_cons_succ]
    refine lstepQ HOPS ?_ rfl (by kernel_rfl) rfl ?_ ?_
    rotate_left
    · go_simp; (first | done | with_reducible rfl)
    dsimp only [List.set_cons_zero, List.set_cons_succ]
    refine lstepU HOPS rfl (by kernel_rfl) rfl ?_
    dsimp only [List.set_cons_zero, List.set_cons_succ]
    refine lstepU HOPS rfl (by kernel_rfl) rfl ?_
    dsimp only [List.set_cons_zero, List.set_cons_succ]
    refine lstepU HOPS rfl (by kernel_rfl) rfl ?_
    dsimp only [List.set_cons_zero, List.set_cons_succ]
    refine lstepQ HOPS ?_ rfl (by kernel_rfl) rfl ?_ ?_
    rotate_left
    · go_simp; (first | done | with_reducible rfl)
    dsimp only [List.set_cons_zero, List.set_cons_succ]
    refine lstepQ HOPS ?_ rfl (by kernel_rfl) rfl ?_ ?_
    rotate_left
    · go_simp; (first | done | with_reducible rfl)
    dsimp only [List.set_cons_zero, List.set_cons_succ]
    refine lstepU HOPS rfl (by kernel_rfl) rfl ?_
    dsimp only [List.set_cons_zero, List.set_cons_succ]
    refine lstepU HOPS rfl (by kernel_rfl) rfl ?_
    dsimp only [List.set_cons_zero, List.set_cons_succ]
    refine lstepU HOPS rfl (by kernel_rfl) rfl ?_
    dsimp only [List.set_cons_zero, List.set_cons_succ]
    refine lstepQ HOPS ?_ rfl (by kernel_rfl) rfl ?_ ?_
    rotate_left
    · go_simp; (first | done | with_reducible rfl)
    dsimp only [List.set_cons_zero, List.set_cons_succ]
    refine lstepQ HOPS ?_ rfl (by kernel_rfl) rfl ?_ ?_
    rotate_left
    · go_simp; (first | done | with_reducible rfl)
    dsimp only [List.set_cons_zero, List.set_cons_succ]
    refine lstepU HOPS rfl (by kernel_rfl) rfl ?_
    dsimp only [List.set_cons_zero, List.set_cons_succ]
    refine lstepU HOPS rfl (by kernel_rfl) rfl ?_
    dsimp only [List.set_cons_zero, List.set_cons_succ]
    refine lstepU HOPS rfl (by kernel_rfl) rfl ?_
    dsimp only [List.set_cons_zero, List.set_cons_succ]
    refine lstepU HOPS rfl (by kernel_rfl) rfl ?_
    dsimp only [List.set_cons_zero, List.set_cons_succ]
    refine lstepU HOPS rfl (by kernel_rfl) rfl ?_
    dsimp only [List.set_cons_zero, List.set_cons_succ]
    refine lstepU HOPS rfl (by kernel_rfl) rfl ?_
    dsimp only [List.set_cons_zero, List.set_cons_succ]
    refine lstepU HOPS rfl (by kernel_rfl) rfl ?_
    dsimp only [List.set_cons_zero, List.set_cons_succ]
    refine lstepU HOPS rfl (by kernel_rfl) rfl ?_
    dsimp only [List.set_cons_zero, List.set_cons_succ]
    refine lstepQ HOPS ?_ rfl (by kernel_rfl) rfl ?_ ?_
    rotate_left
    · go_simp; (first | done | with_reducible rfl)
    dsimp only [List.set_cons_zero, List.set_cons_succ]
    refine lstepQ HOPS ?_ rfl (by kernel_rfl) rfl ?_ ?_
    rotate_left
    · go_simp; (first | done | with_reducible rfl)
    dsimp only [List.set_cons_zero, List.set_cons_succ]
    refine lstepU HOPS rfl (by kernel_rfl) rfl ?_
    dsimp only [List.set_cons_zero, List.set_cons_succ]
    refine lstepU HOPS rfl (by kernel_rfl) rfl ?_
    dsimp only [List.set_cons_zero, List.set_cons_succ]
    refine lstepU HOPS rfl (by kernel_rfl) rfl ?_
    dsimp only [List.set_cons_zero, List.set_cons_succ]
    refine lstepQ HOPS ?_ rfl (by kernel_rfl) rfl ?_ ?_
    rotate_left
    · go_simp; (first | done | with_reducible rfl)
    dsimp only [List.set_cons_zero, List.set_cons_succ]
    refine lstepQ HOPS ?_ rfl (by kernel_rfl) rfl ?_ ?_
    rotate_left
    · go_simp; (first | done | with_reducible rfl)
    dsimp only [List.set_cons_zero, List.set_cons_succ]
    refine lstepU HOPS rfl (by kernel_rfl) rfl ?_
    dsimp only [List.set_cons_zero, List.set_cons_succ]
    refine lstepU HOPS rfl (by kernel_rfl) rfl ?_
    dsimp only [List.set_cons_zero, List.set_cons_succ]
    refine lstepU HOPS rfl (by kernel_rfl) rfl ?_
    dsimp only [List.set_cons_zero, List.set_cons_succ]
    refine lstepQ HOPS ?_ rfl (by kernel_rfl) rfl ?_ ?_
    rotate_left
    · go_simp; (first | done | with_reducible rfl)
    dsimp only [List.set_cons_zero, List.set_cons_succ]
    refine lstepQ HOPS ?_ rfl (by kernel_rfl) rfl ?_ ?_
    rotate_left
    · go_simp; (first | done | with_reducible rfl)
    dsimp only [List.set_cons_zero, List.set_cons_succ]
    refine lstepU HOPS rfl (by kernel_rfl) rfl ?_
    dsimp only [List.set_cons_zero, List.set_cons_succ]
    refine lstepU HOPS rfl (by kernel_rfl) rfl ?_
    dsimp only [List.set_cons_zero, List.set_cons_succ]
    refine lstepU HOPS rfl (by kernel_rfl) rfl ?_
    dsimp only [List.set_cons_zero, List.set_cons_succ]
    refine lstepU HOPS rfl (by kernel_rfl) rfl ?_
    dsimp only [List.set_cons_zero, List.set_cons_succ]
    refine lstepQ HOPS ?_ rfl (by kernel_rfl) rfl ?_ ?_
    rotate_left
    · go_simp; (first | done | with_reducible rfl)
    dsimp only [List.set_cons_zero, List.set_cons_succ]
    refine lstepQ HOPS ?_ rfl (by kernel_rfl) rfl ?_ ?_
    rotate_left
    · go_simp; (first | done | with_reducible rfl)
    dsimp only [List.set_cons_zero, List.set_cons_succ]
    refine lstepU HOPS rfl (by kernel_rfl) rfl ?_
    dsimp only [List.set_cons_zero, List.set_cons_succ]
    refine lstepU HOPS rfl (by kernel_rfl) rfl ?_
    dsimp only [List.set_cons_zero, List.set_cons_succ]
    refine lstepU HOPS rfl (by kernel_rfl) rfl ?_
    dsimp only [List.set_cons_zero, List.set_cons_succ]
    refine lstepU HOPS rfl (by kernel_rfl) rfl ?_
    dsimp only [List.set_cons_zero, List.set_cons_succ]
    refine lstepQ HOPS ?_ rfl (by kernel_rfl) rfl ?_ ?_
    rotate_left
    · go_simp; (first | done | with_reducible rfl)
    dsimp only [List.set_cons_zero, List.set_cons_succ]
    refine lstepQ HOPS ?_ rfl (by kernel_rfl) rfl ?_ ?_
    rotate_left
    · go_simp; (first | done | with_reducible rfl)
    dsimp only [List.set_cons_zero, List.set_cons_succ]
    refine lstepU HOPS rfl (by kernel_rfl) rfl ?_
    dsimp only [List.set_cons_zero, List.set_cons_succ]
    refine lstepU HOPS rfl (by kernel_rfl) rfl ?_
    dsimp only [List.set_cons_zero, List.set_cons_succ]
    refine lstepU HOPS rfl (by kernel_rfl) rfl ?_
    dsimp only [List.set_cons_zero, List.set_cons_succ]
    refine lstepU HOPS rfl (by kernel_rfl) rfl ?_
    dsimp only [List.set_cons_zero, List.set_cons_succ]
    refine lstepQ HOPS ?_ rfl (by kernel_rfl) rfl ?_ ?_
    rotate_left
    · go_simp; (first | done | with_reducible rfl)
    dsimp only [List.set_cons_zero, List.set_cons_succ]
    refine lstepQ HOPS ?_ rfl (by kernel_rfl) rfl ?_ ?_
    rotate_left
    · go_simp; (first | done | with_reducible rfl)
    dsimp only [List.set_cons_zero, List.set_cons_succ]
    refine lstepU HOPS rfl (by kernel_rfl) rfl ?_
    dsimp only [List.set_cons_zero, List.set_cons_succ]
    refine lstepU HOPS rfl (by kernel_rfl) rfl ?_
    dsimp only [List.set_cons_zero, List.set_cons_succ]
    refine lstepU HOPS rfl (by kernel_rfl) rfl ?_
    dsimp only [List.set_cons_zero, List.set_cons_succ]
    refine lstepU HOPS rfl (by kernel_rfl) rfl ?_
    dsimp only [List.set_cons_zero, List.set_cons_succ]
    refine lstepQ HOPS ?_ rfl (by kernel_rfl) rfl ?_ ?_
    rotate_left
    · go_simp; (first | done | with_reducible rfl)
    dsimp only [List.set_cons_zero, List.set_cons_succ]
    refine lstepQ HOPS ?_ rfl (by kernel_rfl) rfl ?_ ?_
    rotate_left
    · go_simp; (first | done | with_reducible rfl)
    dsimp only [List.set_cons_zero, List.set_cons_succ]
    refine lstepU HOPS rfl (by kernel_rfl) rfl ?_
    dsimp only [List.set_cons_zero, List.set_cons_succ]
    refine lstepU HOPS rfl (by kernel_rfl) rfl ?_
    dsimp only [List.set_cons_zero, List.set_cons_succ]
    refine lstepU HOPS rfl (by kernel_rfl) rfl ?_
    dsimp only [List.set_cons_zero, List.set_cons_succ]
    refine lstepU HOPS rfl (by kernel_rfl) rfl ?_
    dsimp only [List.set_cons_zero, List.set_cons_succ]
    refine lstepQ HOPS ?_ rfl (by kernel_rfl) rfl ?_ ?_
    rotate_left
    · go_simp; (first | done | with_reducible rfl)
    dsimp only [List.set_cons_zero, List.set_cons_succ]
    refine lstepE HOPS (by decide) (HQ.out _ _ ?_)
    clear HQ HOPS
    clear Q ops
    go_wp2
    go_ret
    exact ⟨by rw [HZ.out]; rfl, HB0.out⟩
end Go.Proofs.YthhdhdjdhekgpaaDoor.Pro
