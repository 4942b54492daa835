/- Joined: ProCP. -/
import Derived.Test.YthhdhdjdhekgpaaDoorProC
/- The contract of the landed checkResp. -/
namespace Go.Proofs.YthhdhdjdhekgpaaDoor.Pro
open Go.RowKit Go.Proofs.YthhdhdjdhekgpaaDoor.Oct Go.Proofs.YthhdhdjdhekgpaaDoor.Lay

theorem ckP_one {r : Rp} (hk : known r.kind r.ver = 0) (h : ¬ OkP r) : ckP r = 1 := by unfold ckP; rw [if_neg (by omega), if_neg h]
theorem ckP_head {r : Rp} (hk : known r.kind r.ver ≠ 0) : ckP r = known r.kind r.ver := by unfold ckP; rw [if_pos hk]
set_option maxRecDepth 100000 in
set_option maxHeartbeats 4000000 in
theorem checkResp_any (k v i E t : Int) (A1 : Option Addr) (n1 c1 : Nat) (l1 : List Int) (A2 : Option Addr) (n2 c2 : Nat) (l2 : List ByteArray) (A3 : Option Addr) (n3 c3 : Nat) (l3 : List UInt8) (w : World)
    (hI : RdL w w.heap.size A1 n1 l1) (hn1 : n1 ≤ 140737488351232) (hT : RdL w w.heap.size A2 n2 l2) (hn2 : n2 ≤ 140737488351232) (hn3 : n3 ≤ 140737488351232) (hl3 : l3.length = n3) :
    Calls Tryd.prog 70 #[.agg #[.int .i64 k, .int .i64 v, .int .i64 i, .int .i64 E, .int .i64 t, .slice A1 n1 c1, .slice A2 n2 c2, .slice A3 n3 c3]] w fun e w' => e = .returned (.int .i64 (ckP ⟨k, v, i, E, t, l1, l2, l3⟩)) ∧ Below w.heap.size w w' := by
  have HI := Lib.hid hI
  have HT := Lib.hid hT
  have HL1 := Lib.hid hI.len
  have HL2 := Lib.hid hT.len
  have HL3 := Lib.hid hl3
  clear hI hT hl3
  obtain ⟨z, hz⟩ : ∃ z, known k v = z := ⟨_, rfl⟩
  have HKN := Lib.hid hz
  by_cases hz0 : z = 0
  case neg =>
    have HZ := Lib.hid (show ckP ⟨k, v, i, E, t, l1, l2, l3⟩ = z from (ckP_head (r := ⟨k, v, i, E, t, l1, l2, l3⟩) (by show known k v ≠ 0; omega)).trans hz)
    have hzN : (z != 0) = true := by simp [hz0]
    clear hz hz0
    rw [HZ.out]
    go_enter Tryd.func70, Tryd.ntmps70
    go_wp2_with (go_at_call 60; (with_reducible refine (checkHead_any k v _).mono ?_); rw [HKN.out]; rintro e w9 ⟨rfl, rfl⟩)
    go_ret
    exact ⟨rfl, bel_alloc (Below.refl _ _) _⟩
  subst hz0
  have HKK := Lib.hid (known_iff.1 hz)
  have HBAD := Lib.hid (fun h : ¬ OkP ⟨k, v, i, E, t, l1, l2, l3⟩ => ckP_one (r := ⟨k, v, i, E, t, l1, l2, l3⟩) hz h)
  clear hz
  rcases h1 : wi i 0 1099511627776 with _ | _
  · have HZ := Lib.hid (HBAD.out fun h => by have := of_decide_eq_false h1; have h2 : 0 ≤ i ∧ i ≤ 1099511627776 := h.1; omega)
    rw [HZ.out]
    go_enter Tryd.func70, Tryd.ntmps70
    go_wp2_with (first
      | (go_at_call 60; (with_reducible refine (checkHead_any _ v _).mono ?_); rw [HKN.out]; rintro e w9 ⟨rfl, rfl⟩)
      | (go_at_call 61; (with_reducible refine (isWithin_any _ _ _ _).mono ?_); (first | rw [h1] | rw [h2] | rw [h3]); rintro e w9 ⟨rfl, rfl⟩)
      | (go_at_call 63; (with_reducible refine (areWithin_any A1 n1 c1 l1 _ _ _ ((HI.out.below (bel_alloc (Below.refl _ _) _) (Nat.le_refl _)).more (by simp)) hn1).mono ?_); rw [h6]; rintro e w9 ⟨rfl, hb9⟩; have HB9 := Lib.hid ((bel_alloc (Below.refl w.heap.size w) _).trans (hb9.mono (by simp))); have q6 : w9.cell? ⟨w.heap.size, 6, none⟩ = some (.slice A2 n2 c2) := (hb9.cell (p := ⟨w.heap.size, 6, none⟩) (by simp)).trans (by go_simp); have q7 : w9.cell? ⟨w.heap.size, 7, none⟩ = some (.slice A3 n3 c3) := (hb9.cell (p := ⟨w.heap.size, 7, none⟩) (by simp)).trans (by go_simp); clear hb9)
      | (go_at_call 64; (with_reducible refine (areTexts_any A2 n2 c2 l2 w.heap.size _ (HT.out.below HB9.out (Nat.le_refl _)) hn2).mono ?_); rw [h8]; rintro e w8 ⟨rfl, rfl⟩))
    go_ret
    exact ⟨rfl, bel_alloc (Below.refl _ _) _⟩
  rcases h2 : wi E 0 999 with _ | _
  · have HZ := Lib.hid (HBAD.out fun h => by have := of_decide_eq_false h2; have h2 : 0 ≤ E ∧ E ≤ 999 := h.2.2.2.1; omega)
    rw [HZ.out]
    go_enter Tryd.func70, Tryd.ntmps70
    go_wp2_with (first
      | (go_at_call 60; (with_reducible refine (checkHead_any _ v _).mono ?_); rw [HKN.out]; rintro e w9 ⟨rfl, rfl⟩)
      | (go_at_call 61; (with_reducible refine (isWithin_any _ _ _ _).mono ?_); (first | rw [h1] | rw [h2] | rw [h3]); rintro e w9 ⟨rfl, rfl⟩)
      | (go_at_call 63; (with_reducible refine (areWithin_any A1 n1 c1 l1 _ _ _ ((HI.out.below (bel_alloc (Below.refl _ _) _) (Nat.le_refl _)).more (by simp)) hn1).mono ?_); rw [h6]; rintro e w9 ⟨rfl, hb9⟩; have HB9 := Lib.hid ((bel_alloc (Below.refl w.heap.size w) _).trans (hb9.mono (by simp))); have q6 : w9.cell? ⟨w.heap.size, 6, none⟩ = some (.slice A2 n2 c2) := (hb9.cell (p := ⟨w.heap.size, 6, none⟩) (by simp)).trans (by go_simp); have q7 : w9.cell? ⟨w.heap.size, 7, none⟩ = some (.slice A3 n3 c3) := (hb9.cell (p := ⟨w.heap.size, 7, none⟩) (by simp)).trans (by go_simp); clear hb9)
      | (go_at_call 64; (with_reducible refine (areTexts_any A2 n2 c2 l2 w.heap.size _ (HT.out.below HB9.out (Nat.le_refl _)) hn2).mono ?_); rw [h8]; rintro e w8 ⟨rfl, rfl⟩))
    go_ret
    exact ⟨rfl, bel_alloc (Below.refl _ _) _⟩
  rcases h3 : wi t 0 1099511627776 with _ | _
  · have HZ := Lib.hid (HBAD.out fun h => by have := of_decide_eq_false h3; have h2 : 0 ≤ t ∧ t ≤ 1099511627776 := h.2.1; omega)
    rw [HZ.out]
    go_enter Tryd.func70, Tryd.ntmps70
    go_wp2_with (first
      | (go_at_call 60; (with_reducible refine (checkHead_any _ v _).mono ?_); rw [HKN.out]; rintro e w9 ⟨rfl, rfl⟩)
      | (go_at_call 61; (with_reducible refine (isWithin_any _ _ _ _).mono ?_); (first | rw [h1] | rw [h2] | rw [h3]); rintro e w9 ⟨rfl, rfl⟩)
      | (go_at_call 63; (with_reducible refine (areWithin_any A1 n1 c1 l1 _ _ _ ((HI.out.below (bel_alloc (Below.refl _ _) _) (Nat.le_refl _)).more (by simp)) hn1).mono ?_); rw [h6]; rintro e w9 ⟨rfl, hb9⟩; have HB9 := Lib.hid ((bel_alloc (Below.refl w.heap.size w) _).trans (hb9.mono (by simp))); have q6 : w9.cell? ⟨w.heap.size, 6, none⟩ = some (.slice A2 n2 c2) := (hb9.cell (p := ⟨w.heap.size, 6, none⟩) (by simp)).trans (by go_simp); have q7 : w9.cell? ⟨w.heap.size, 7, none⟩ = some (.slice A3 n3 c3) := (hb9.cell (p := ⟨w.heap.size, 7, none⟩) (by simp)).trans (by go_simp); clear hb9)
      | (go_at_call 64; (with_reducible refine (areTexts_any A2 n2 c2 l2 w.heap.size _ (HT.out.below HB9.out (Nat.le_refl _)) hn2).mono ?_); rw [h8]; rintro e w8 ⟨rfl, rfl⟩))
    go_ret
    exact ⟨rfl, bel_alloc (Below.refl _ _) _⟩
  rcases h4 : (t != 0) with _ | _
  rotate_left
  rcases h5 : decide (v < 1) with _ | _
  rotate_left
  · have HZ := Lib.hid (HBAD.out fun h => by have h6 := of_decide_eq_true h5; have h7 := HKK.out; have h8 : t = 0 := h.2.2.1 (show v = 0 by omega); rw [h8] at h4; cases h4)
    rw [HZ.out]
    have h5' := of_decide_eq_true h5
    go_enter Tryd.func70, Tryd.ntmps70
    go_wp2_with (first
      | (go_at_call 60; (with_reducible refine (checkHead_any _ v _).mono ?_); rw [HKN.out]; rintro e w9 ⟨rfl, rfl⟩)
      | (go_at_call 61; (with_reducible refine (isWithin_any _ _ _ _).mono ?_); (first | rw [h1] | rw [h2] | rw [h3]); rintro e w9 ⟨rfl, rfl⟩)
      | (go_at_call 63; (with_reducible refine (areWithin_any A1 n1 c1 l1 _ _ _ ((HI.out.below (bel_alloc (Below.refl _ _) _) (Nat.le_refl _)).more (by simp)) hn1).mono ?_); rw [h6]; rintro e w9 ⟨rfl, hb9⟩; have HB9 := Lib.hid ((bel_alloc (Below.refl w.heap.size w) _).trans (hb9.mono (by simp))); have q6 : w9.cell? ⟨w.heap.size, 6, none⟩ = some (.slice A2 n2 c2) := (hb9.cell (p := ⟨w.heap.size, 6, none⟩) (by simp)).trans (by go_simp); have q7 : w9.cell? ⟨w.heap.size, 7, none⟩ = some (.slice A3 n3 c3) := (hb9.cell (p := ⟨w.heap.size, 7, none⟩) (by simp)).trans (by go_simp); clear hb9)
      | (go_at_call 64; (with_reducible refine (areTexts_any A2 n2 c2 l2 w.heap.size _ (HT.out.below HB9.out (Nat.le_refl _)) hn2).mono ?_); rw [h8]; rintro e w8 ⟨rfl, rfl⟩))
    go_ret
    exact ⟨rfl, bel_alloc (Below.refl _ _) _⟩
  have HW0 := Lib.hid (show v = 0 → t = 0 from fun hv => by simpa using h4)
  rotate_left
  have h5' := of_decide_eq_false h5
  have HW0 := Lib.hid (show v = 0 → t = 0 from fun hv => by omega)
  all_goals
    rcases h5a : decide (64 < (n1 : Int)) with _ | _
    rotate_left
    · have HZ := Lib.hid (HBAD.out fun h => by have h6 := of_decide_eq_true h5a; have h7 : l1.length ≤ 64 := h.2.2.2.2.1; rw [HL1.out] at h7; omega)
      rw [HZ.out]
      have h5b := of_decide_eq_true h5a
      go_enter Tryd.func70, Tryd.ntmps70
      go_wp2_with (first
        | (go_at_call 60; (with_reducible refine (checkHead_any _ v _).mono ?_); rw [HKN.out]; rintro e w9 ⟨rfl, rfl⟩)
        | (go_at_call 61; (with_reducible refine (isWithin_any _ _ _ _).mono ?_); (first | rw [h1] | rw [h2] | rw [h3]); rintro e w9 ⟨rfl, rfl⟩)
        | (go_at_call 63; (with_reducible refine (areWithin_any A1 n1 c1 l1 _ _ _ ((HI.out.below (bel_alloc (Below.refl _ _) _) (Nat.le_refl _)).more (by simp)) hn1).mono ?_); rw [h6]; rintro e w9 ⟨rfl, hb9⟩; have HB9 := Lib.hid ((bel_alloc (Below.refl w.heap.size w) _).trans (hb9.mono (by simp))); have q6 : w9.cell? ⟨w.heap.size, 6, none⟩ = some (.slice A2 n2 c2) := (hb9.cell (p := ⟨w.heap.size, 6, none⟩) (by simp)).trans (by go_simp); have q7 : w9.cell? ⟨w.heap.size, 7, none⟩ = some (.slice A3 n3 c3) := (hb9.cell (p := ⟨w.heap.size, 7, none⟩) (by simp)).trans (by go_simp); clear hb9)
        | (go_at_call 64; (with_reducible refine (areTexts_any A2 n2 c2 l2 w.heap.size _ (HT.out.below HB9.out (Nat.le_refl _)) hn2).mono ?_); rw [h8]; rintro e w8 ⟨rfl, rfl⟩))
      go_ret
      exact ⟨rfl, bel_alloc (Below.refl _ _) _⟩
    have h5b := of_decide_eq_false h5a
    rcases h6 : allIn l1 (-1099511627776) 1099511627776 with _ | _
    · have HZ := Lib.hid (HBAD.out fun h => by rw [allIn_iff.2 h.2.2.2.2.2.1] at h6; cases h6)
      rw [HZ.out]
      go_enter Tryd.func70, Tryd.ntmps70
      go_wp2_with (first
        | (go_at_call 60; (with_reducible refine (checkHead_any _ v _).mono ?_); rw [HKN.out]; rintro e w9 ⟨rfl, rfl⟩)
        | (go_at_call 61; (with_reducible refine (isWithin_any _ _ _ _).mono ?_); (first | rw [h1] | rw [h2] | rw [h3]); rintro e w9 ⟨rfl, rfl⟩)
        | (go_at_call 63; (with_reducible refine (areWithin_any A1 n1 c1 l1 _ _ _ ((HI.out.below (bel_alloc (Below.refl _ _) _) (Nat.le_refl _)).more (by simp)) hn1).mono ?_); rw [h6]; rintro e w9 ⟨rfl, hb9⟩; have HB9 := Lib.hid ((bel_alloc (Below.refl w.heap.size w) _).trans (hb9.mono (by simp))); have q6 : w9.cell? ⟨w.heap.size, 6, none⟩ = some (.slice A2 n2 c2) := (hb9.cell (p := ⟨w.heap.size, 6, none⟩) (by simp)).trans (by go_simp); have q7 : w9.cell? ⟨w.heap.size, 7, none⟩ = some (.slice A3 n3 c3) := (hb9.cell (p := ⟨w.heap.size, 7, none⟩) (by simp)).trans (by go_simp); clear hb9)
        | (go_at_call 64; (with_reducible refine (areTexts_any A2 n2 c2 l2 w.heap.size _ (HT.out.below HB9.out (Nat.le_refl _)) hn2).mono ?_); rw [h8]; rintro e w8 ⟨rfl, rfl⟩))
      go_ret
      exact ⟨rfl, HB9.out⟩
    rcases h7 : decide (16 < (n2 : Int)) with _ | _
    rotate_left
    · have HZ := Lib.hid (HBAD.out fun h => by have h8 := of_decide_eq_true h7; have h9 : l2.length ≤ 16 := h.2.2.2.2.2.2.1; rw [HL2.out] at h9; omega)
      rw [HZ.out]
      have h7b := of_decide_eq_true h7
      go_enter Tryd.func70, Tryd.ntmps70
      go_wp2_with (first
        | (go_at_call 60; (with_reducible refine (checkHead_any _ v _).mono ?_); rw [HKN.out]; rintro e w9 ⟨rfl, rfl⟩)
        | (go_at_call 61; (with_reducible refine (isWithin_any _ _ _ _).mono ?_); (first | rw [h1] | rw [h2] | rw [h3]); rintro e w9 ⟨rfl, rfl⟩)
        | (go_at_call 63; (with_reducible refine (areWithin_any A1 n1 c1 l1 _ _ _ ((HI.out.below (bel_alloc (Below.refl _ _) _) (Nat.le_refl _)).more (by simp)) hn1).mono ?_); rw [h6]; rintro e w9 ⟨rfl, hb9⟩; have HB9 := Lib.hid ((bel_alloc (Below.refl w.heap.size w) _).trans (hb9.mono (by simp))); have q6 : w9.cell? ⟨w.heap.size, 6, none⟩ = some (.slice A2 n2 c2) := (hb9.cell (p := ⟨w.heap.size, 6, none⟩) (by simp)).trans (by go_simp); have q7 : w9.cell? ⟨w.heap.size, 7, none⟩ = some (.slice A3 n3 c3) := (hb9.cell (p := ⟨w.heap.size, 7, none⟩) (by simp)).trans (by go_simp); clear hb9)
        | (go_at_call 64; (with_reducible refine (areTexts_any A2 n2 c2 l2 w.heap.size _ (HT.out.below HB9.out (Nat.le_refl _)) hn2).mono ?_); rw [h8]; rintro e w8 ⟨rfl, rfl⟩))
      go_ret
      exact ⟨rfl, HB9.out⟩
    have h7b := of_decide_eq_false h7
    rcases h8 : allShort 64 l2 with _ | _
    · have HZ := Lib.hid (HBAD.out fun h => by rw [allShort_iff.2 h.2.2.2.2.2.2.2.1] at h8; cases h8)
      rw [HZ.out]
      go_enter Tryd.func70, Tryd.ntmps70
      go_wp2_with (first
        | (go_at_call 60; (with_reducible refine (checkHead_any _ v _).mono ?_); rw [HKN.out]; rintro e w9 ⟨rfl, rfl⟩)
        | (go_at_call 61; (with_reducible refine (isWithin_any _ _ _ _).mono ?_); (first | rw [h1] | rw [h2] | rw [h3]); rintro e w9 ⟨rfl, rfl⟩)
        | (go_at_call 63; (with_reducible refine (areWithin_any A1 n1 c1 l1 _ _ _ ((HI.out.below (bel_alloc (Below.refl _ _) _) (Nat.le_refl _)).more (by simp)) hn1).mono ?_); rw [h6]; rintro e w9 ⟨rfl, hb9⟩; have HB9 := Lib.hid ((bel_alloc (Below.refl w.heap.size w) _).trans (hb9.mono (by simp))); have q6 : w9.cell? ⟨w.heap.size, 6, none⟩ = some (.slice A2 n2 c2) := (hb9.cell (p := ⟨w.heap.size, 6, none⟩) (by simp)).trans (by go_simp); have q7 : w9.cell? ⟨w.heap.size, 7, none⟩ = some (.slice A3 n3 c3) := (hb9.cell (p := ⟨w.heap.size, 7, none⟩) (by simp)).trans (by go_simp); clear hb9)
        | (go_at_call 64; (with_reducible refine (areTexts_any A2 n2 c2 l2 w.heap.size _ (HT.out.below HB9.out (Nat.le_refl _)) hn2).mono ?_); rw [h8]; rintro e w8 ⟨rfl, rfl⟩))
      go_ret
      exact ⟨rfl, HB9.out⟩
    rcases h9 : decide (4096 < (n3 : Int)) with _ | _
    rotate_left
    · have HZ := Lib.hid (HBAD.out fun h => by have h10 := of_decide_eq_true h9; have h11 : l3.length ≤ 4096 := h.2.2.2.2.2.2.2.2; rw [HL3.out] at h11; omega)
      rw [HZ.out]
      have h9b := of_decide_eq_true h9
      go_enter Tryd.func70, Tryd.ntmps70
      go_wp2_with (first
        | (go_at_call 60; (with_reducible refine (checkHead_any _ v _).mono ?_); rw [HKN.out]; rintro e w9 ⟨rfl, rfl⟩)
        | (go_at_call 61; (with_reducible refine (isWithin_any _ _ _ _).mono ?_); (first | rw [h1] | rw [h2] | rw [h3]); rintro e w9 ⟨rfl, rfl⟩)
        | (go_at_call 63; (with_reducible refine (areWithin_any A1 n1 c1 l1 _ _ _ ((HI.out.below (bel_alloc (Below.refl _ _) _) (Nat.le_refl _)).more (by simp)) hn1).mono ?_); rw [h6]; rintro e w9 ⟨rfl, hb9⟩; have HB9 := Lib.hid ((bel_alloc (Below.refl w.heap.size w) _).trans (hb9.mono (by simp))); have q6 : w9.cell? ⟨w.heap.size, 6, none⟩ = some (.slice A2 n2 c2) := (hb9.cell (p := ⟨w.heap.size, 6, none⟩) (by simp)).trans (by go_simp); have q7 : w9.cell? ⟨w.heap.size, 7, none⟩ = some (.slice A3 n3 c3) := (hb9.cell (p := ⟨w.heap.size, 7, none⟩) (by simp)).trans (by go_simp); clear hb9)
        | (go_at_call 64; (with_reducible refine (areTexts_any A2 n2 c2 l2 w.heap.size _ (HT.out.below HB9.out (Nat.le_refl _)) hn2).mono ?_); rw [h8]; rintro e w8 ⟨rfl, rfl⟩))
      go_ret
      exact ⟨rfl, HB9.out⟩
    · have h9b := of_decide_eq_false h9
      have HZ := Lib.hid (show ckP ⟨k, v, i, E, t, l1, l2, l3⟩ = 0 from ckP_iff.2 ⟨HKN.out, ⟨of_decide_eq_true h1, of_decide_eq_true h3, HW0.out, of_decide_eq_true h2, by show l1.length ≤ 64; rw [HL1.out]; omega, allIn_iff.1 h6, by show l2.length ≤ 16; rw [HL2.out]; omega, allShort_iff.1 h8, by show l3.length ≤ 4096; rw [HL3.out]; omega⟩⟩)
      rw [HZ.out]
      go_enter Tryd.func70, Tryd.ntmps70
      go_wp2_with (first
        | (go_at_call 60; (with_reducible refine (checkHead_any _ v _).mono ?_); rw [HKN.out]; rintro e w9 ⟨rfl, rfl⟩)
        | (go_at_call 61; (with_reducible refine (isWithin_any _ _ _ _).mono ?_); (first | rw [h1] | rw [h2] | rw [h3]); rintro e w9 ⟨rfl, rfl⟩)
        | (go_at_call 63; (with_reducible refine (areWithin_any A1 n1 c1 l1 _ _ _ ((HI.out.below (bel_alloc (Below.refl _ _) _) (Nat.le_refl _)).more (by simp)) hn1).mono ?_); rw [h6]; rintro e w9 ⟨rfl, hb9⟩; have HB9 := Lib.hid ((bel_alloc (Below.refl w.heap.size w) _).trans (hb9.mono (by simp))); have q6 : w9.cell? ⟨w.heap.size, 6, none⟩ = some (.slice A2 n2 c2) := (hb9.cell (p := ⟨w.heap.size, 6, none⟩) (by simp)).trans (by go_simp); have q7 : w9.cell? ⟨w.heap.size, 7, none⟩ = some (.slice A3 n3 c3) := (hb9.cell (p := ⟨w.heap.size, 7, none⟩) (by simp)).trans (by go_simp); clear hb9)
        | (go_at_call 64; (with_reducible refine (areTexts_any A2 n2 c2 l2 w.heap.size _ (HT.out.below HB9.out (Nat.le_refl _)) hn2).mono ?_); rw [h8]; rintro e w8 ⟨rfl, rfl⟩))
      go_ret
      exact ⟨rfl, HB9.out⟩
end Go.Proofs.YthhdhdjdhekgpaaDoor.Pro
