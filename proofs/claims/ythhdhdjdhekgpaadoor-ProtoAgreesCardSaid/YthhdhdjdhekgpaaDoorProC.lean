/- Joined: ProC. -/
import Derived.Test.YthhdhdjdhekgpaaDoorProA
import Derived.Test.YthhdhdjdhekgpaaDoorProTab
/- The contract of the landed CheckReq. -/
namespace Go.Proofs.YthhdhdjdhekgpaaDoor.Pro
open Go.RowKit Go.Proofs.YthhdhdjdhekgpaaDoor.Oct Go.Proofs.YthhdhdjdhekgpaaDoor.Lay

theorem ckQ_one {r : Rq} (hk : known r.kind r.ver = 0) (h : ¬ OkQ r) : ckQ r = 1 := by unfold ckQ; rw [if_neg (by omega), if_neg h]
theorem ckQ_head {r : Rq} (hk : known r.kind r.ver ≠ 0) : ckQ r = known r.kind r.ver := by unfold ckQ; rw [if_pos hk]
theorem mT_in (k : Int) : 0 ≤ mT k ∧ mT k ≤ 12 := by unfold mT; split <;> omega
theorem mB_in (k : Int) : 0 ≤ mB k ∧ mB k ≤ 2048 := by unfold mB; split <;> omega
theorem isEmpty_iff {s : ByteArray} : s.toList.isEmpty = true ↔ s.size = 0 := by
  rw [List.isEmpty_iff, Go.ByteArray.toList_eq]
  constructor
  · intro h
    have := congrArg List.length h
    rw [Array.length_toList] at this
    exact this
  · intro h
    exact List.eq_nil_of_length_eq_zero (by rw [Array.length_toList]; exact h)
theorem allIn_iff {l : List Int} {a b : Int} : allIn l a b = true ↔ ∀ x ∈ l, a ≤ x ∧ x ≤ b := by
  unfold allIn; rw [List.all_eq_true]; simp
theorem allShort_iff {l : List ByteArray} {m : Nat} : allShort m l = true ↔ ∀ x ∈ l, x.size ≤ m := by
  unfold allShort; rw [List.all_eq_true]; simp
set_option maxRecDepth 100000 in
set_option maxHeartbeats 4000000 in
theorem CheckReq_any (k v i : Int) (s : ByteArray) (A1 : Option Addr) (n1 c1 : Nat) (l1 : List Int) (A2 : Option Addr) (n2 c2 : Nat) (l2 : List ByteArray) (A3 : Option Addr) (n3 c3 : Nat) (l3 : List UInt8) (w : World)
    (hI : RdL w w.heap.size A1 n1 l1) (hn1 : n1 ≤ 140737488351232) (hT : RdL w w.heap.size A2 n2 l2) (hn2 : n2 ≤ 140737488351232) (hs47 : s.size ≤ 140737488351232) (_hn3 : n3 ≤ 140737488351232) (hl3 : l3.length = n3) (ht : Tab w) :
    Calls Tryd.prog 18 #[.agg #[.int .i64 k, .int .i64 v, .int .i64 i, .string s, .slice A1 n1 c1, .slice A2 n2 c2, .slice A3 n3 c3]] w fun e w' => e = .returned (.int .i64 (ckQ ⟨k, v, i, s, l1, l2, l3⟩)) ∧ Below w.heap.size w w' := by
  have HI := Lib.hid hI
  have HT := Lib.hid hT
  have HL1 := Lib.hid hI.len
  have HL2 := Lib.hid hT.len
  have HL3 := Lib.hid hl3
  have HTB := Lib.hid ht
  clear hI hT hl3 ht
  obtain ⟨z, hz⟩ : ∃ z, known k v = z := ⟨_, rfl⟩
  have HKN := Lib.hid hz
  by_cases hz0 : z = 0
  case neg =>
    have HZ := Lib.hid (show ckQ ⟨k, v, i, s, l1, l2, l3⟩ = z from (ckQ_head (r := ⟨k, v, i, s, l1, l2, l3⟩) (by show known k v ≠ 0; omega)).trans hz)
    have hzN : (z != 0) = true := by simp [hz0]
    clear hz hz0
    rw [HZ.out]
    go_enter Tryd.func18, Tryd.ntmps18
    go_wp2_with (go_at_call 60; (with_reducible refine (checkHead_any k v _).mono ?_); rw [HKN.out]; rintro e w9 ⟨rfl, rfl⟩)
    go_ret
    exact ⟨rfl, bel_alloc (Below.refl _ _) _⟩
  subst hz0
  have hk := known_iff.1 hz
  obtain ⟨K, rfl⟩ : ∃ K : Nat, k = (K : Int) := ⟨k.toNat, by omega⟩
  have hK1 : 1 ≤ K := by omega
  have hK2 : K < 13 := by omega
  have hnT := nT_in (k := (K : Int)) (by omega)
  have hmT := mT_in (K : Int)
  have hmB := mB_in (K : Int)
  have hT1 : 0 ≤ nT (K : Int) := by omega
  have hT2 : nT (K : Int) ≤ 3 := by omega
  have wp9 : IntKind.i64.wrap (nT (K : Int) + mT (K : Int)) = nT (K : Int) + mT (K : Int) := IntWalk.i64_in _ (by omega)
  have t0 := (HTB.out.alloc (.cells #[.int .i64 (K : Int), .int .i64 v, .int .i64 i, .string s, .slice A1 n1 c1, .slice A2 n2 c2, .slice A3 n3 c3] 26)).c0 hK2
  have t1 := (HTB.out.alloc (.cells #[.int .i64 (K : Int), .int .i64 v, .int .i64 i, .string s, .slice A1 n1 c1, .slice A2 n2 c2, .slice A3 n3 c3] 26)).c1 hK2
  have t2 := (HTB.out.alloc (.cells #[.int .i64 (K : Int), .int .i64 v, .int .i64 i, .string s, .slice A1 n1 c1, .slice A2 n2 c2, .slice A3 n3 c3] 26)).c2 hK2
  have t3 := (HTB.out.alloc (.cells #[.int .i64 (K : Int), .int .i64 v, .int .i64 i, .string s, .slice A1 n1 c1, .slice A2 n2 c2, .slice A3 n3 c3] 26)).c3 hK2
  have hne : ¬ (0 = w.heap.size) := by have := HTB.out.pos; omega
  have HBAD := Lib.hid (fun h : ¬ OkQ ⟨(K : Int), v, i, s, l1, l2, l3⟩ => ckQ_one (r := ⟨(K : Int), v, i, s, l1, l2, l3⟩) hz h)
  clear hz hk hmT hnT hmB
  rcases h1 : wi i 0 1099511627776 with _ | _
  · have HZ := Lib.hid (HBAD.out fun h => by have := of_decide_eq_false h1; have h2 : 0 ≤ i ∧ i ≤ 1099511627776 := h.1; omega)
    rw [HZ.out]
    go_enter Tryd.func18, Tryd.ntmps18
    go_wp2_with (first
      | (go_at_call 60; (with_reducible refine (checkHead_any _ v _).mono ?_); rw [HKN.out]; rintro e w9 ⟨rfl, rfl⟩)
      | (go_at_call 61; (with_reducible refine (isWithin_any _ _ _ _).mono ?_); (first | rw [h1] | rw [h6]); rintro e w9 ⟨rfl, rfl⟩)
      | (go_at_call 62; (with_reducible refine (isText_any _ _).mono ?_); rw [h2]; rintro e w9 ⟨rfl, rfl⟩)
      | (go_at_call 63; (with_reducible refine (areWithin_any A1 n1 c1 l1 _ _ _ ((HI.out.below (bel_alloc (bel_alloc (Below.refl _ _) _) _) (Nat.le_refl _)).more (by simp; omega)) hn1).mono ?_); rw [h5]; rintro e w9 ⟨rfl, hb9⟩; have HB9 := Lib.hid ((bel_alloc (bel_alloc (Below.refl w.heap.size w) _) _).trans (hb9.mono (by simp; omega))); have q5 : w9.cell? ⟨w.heap.size, 5, none⟩ = some (.slice A2 n2 c2) := (hb9.cell (p := ⟨w.heap.size, 5, none⟩) (by simp; omega)).trans (by go_simp); have q6 : w9.cell? ⟨w.heap.size, 6, none⟩ = some (.slice A3 n3 c3) := (hb9.cell (p := ⟨w.heap.size, 6, none⟩) (by simp; omega)).trans (by go_simp); have g1 : w9.cell? ⟨w.heap.size + 1, 1, none⟩ = some (.int .i64 (nT (K : Int))) := (hb9.cell (p := ⟨w.heap.size + 1, 1, none⟩) (by simp)).trans (by go_simp); have g2 : w9.cell? ⟨w.heap.size + 1, 2, none⟩ = some (.int .i64 (mT (K : Int))) := (hb9.cell (p := ⟨w.heap.size + 1, 2, none⟩) (by simp)).trans (by go_simp); have g3 : w9.cell? ⟨w.heap.size + 1, 3, none⟩ = some (.int .i64 (mB (K : Int))) := (hb9.cell (p := ⟨w.heap.size + 1, 3, none⟩) (by simp)).trans (by go_simp); clear hb9)
      | (go_at_call 64; (with_reducible refine (areTexts_any A2 n2 c2 l2 w.heap.size _ (HT.out.below HB9.out (Nat.le_refl _)) hn2).mono ?_); rw [h7]; rintro e w8 ⟨rfl, rfl⟩))
    go_ret
    exact ⟨rfl, bel_alloc (bel_alloc (Below.refl _ _) _) _⟩
  rcases h2 : decide ((s.size : Int) ≤ 64) with _ | _
  · have HZ := Lib.hid (HBAD.out fun h => by have := of_decide_eq_false h2; have h2 : s.size ≤ 64 := h.2.1; omega)
    rw [HZ.out]
    go_enter Tryd.func18, Tryd.ntmps18
    go_wp2_with (first
      | (go_at_call 60; (with_reducible refine (checkHead_any _ v _).mono ?_); rw [HKN.out]; rintro e w9 ⟨rfl, rfl⟩)
      | (go_at_call 61; (with_reducible refine (isWithin_any _ _ _ _).mono ?_); (first | rw [h1] | rw [h6]); rintro e w9 ⟨rfl, rfl⟩)
      | (go_at_call 62; (with_reducible refine (isText_any _ _).mono ?_); rw [h2]; rintro e w9 ⟨rfl, rfl⟩)
      | (go_at_call 63; (with_reducible refine (areWithin_any A1 n1 c1 l1 _ _ _ ((HI.out.below (bel_alloc (bel_alloc (Below.refl _ _) _) _) (Nat.le_refl _)).more (by simp; omega)) hn1).mono ?_); rw [h5]; rintro e w9 ⟨rfl, hb9⟩; have HB9 := Lib.hid ((bel_alloc (bel_alloc (Below.refl w.heap.size w) _) _).trans (hb9.mono (by simp; omega))); have q5 : w9.cell? ⟨w.heap.size, 5, none⟩ = some (.slice A2 n2 c2) := (hb9.cell (p := ⟨w.heap.size, 5, none⟩) (by simp; omega)).trans (by go_simp); have q6 : w9.cell? ⟨w.heap.size, 6, none⟩ = some (.slice A3 n3 c3) := (hb9.cell (p := ⟨w.heap.size, 6, none⟩) (by simp; omega)).trans (by go_simp); have g1 : w9.cell? ⟨w.heap.size + 1, 1, none⟩ = some (.int .i64 (nT (K : Int))) := (hb9.cell (p := ⟨w.heap.size + 1, 1, none⟩) (by simp)).trans (by go_simp); have g2 : w9.cell? ⟨w.heap.size + 1, 2, none⟩ = some (.int .i64 (mT (K : Int))) := (hb9.cell (p := ⟨w.heap.size + 1, 2, none⟩) (by simp)).trans (by go_simp); have g3 : w9.cell? ⟨w.heap.size + 1, 3, none⟩ = some (.int .i64 (mB (K : Int))) := (hb9.cell (p := ⟨w.heap.size + 1, 3, none⟩) (by simp)).trans (by go_simp); clear hb9)
      | (go_at_call 64; (with_reducible refine (areTexts_any A2 n2 c2 l2 w.heap.size _ (HT.out.below HB9.out (Nat.le_refl _)) hn2).mono ?_); rw [h7]; rintro e w8 ⟨rfl, rfl⟩))
    go_ret
    exact ⟨rfl, bel_alloc (bel_alloc (Below.refl _ _) _) _⟩
  rcases h3 : s.toList.isEmpty with _ | _
  rcases h4 : decide (v < 2) with _ | _
  rotate_left
  · have HZ := Lib.hid (HBAD.out fun h => by have h5 := of_decide_eq_true h4; have h6 : s.size = 0 := h.2.2.1 h5; rw [isEmpty_iff.2 h6] at h3; cases h3)
    rw [HZ.out]
    have h4' := of_decide_eq_true h4
    go_enter Tryd.func18, Tryd.ntmps18
    go_wp2_with (first
      | (go_at_call 60; (with_reducible refine (checkHead_any _ v _).mono ?_); rw [HKN.out]; rintro e w9 ⟨rfl, rfl⟩)
      | (go_at_call 61; (with_reducible refine (isWithin_any _ _ _ _).mono ?_); (first | rw [h1] | rw [h6]); rintro e w9 ⟨rfl, rfl⟩)
      | (go_at_call 62; (with_reducible refine (isText_any _ _).mono ?_); rw [h2]; rintro e w9 ⟨rfl, rfl⟩)
      | (go_at_call 63; (with_reducible refine (areWithin_any A1 n1 c1 l1 _ _ _ ((HI.out.below (bel_alloc (bel_alloc (Below.refl _ _) _) _) (Nat.le_refl _)).more (by simp; omega)) hn1).mono ?_); rw [h5]; rintro e w9 ⟨rfl, hb9⟩; have HB9 := Lib.hid ((bel_alloc (bel_alloc (Below.refl w.heap.size w) _) _).trans (hb9.mono (by simp; omega))); have q5 : w9.cell? ⟨w.heap.size, 5, none⟩ = some (.slice A2 n2 c2) := (hb9.cell (p := ⟨w.heap.size, 5, none⟩) (by simp; omega)).trans (by go_simp); have q6 : w9.cell? ⟨w.heap.size, 6, none⟩ = some (.slice A3 n3 c3) := (hb9.cell (p := ⟨w.heap.size, 6, none⟩) (by simp; omega)).trans (by go_simp); have g1 : w9.cell? ⟨w.heap.size + 1, 1, none⟩ = some (.int .i64 (nT (K : Int))) := (hb9.cell (p := ⟨w.heap.size + 1, 1, none⟩) (by simp)).trans (by go_simp); have g2 : w9.cell? ⟨w.heap.size + 1, 2, none⟩ = some (.int .i64 (mT (K : Int))) := (hb9.cell (p := ⟨w.heap.size + 1, 2, none⟩) (by simp)).trans (by go_simp); have g3 : w9.cell? ⟨w.heap.size + 1, 3, none⟩ = some (.int .i64 (mB (K : Int))) := (hb9.cell (p := ⟨w.heap.size + 1, 3, none⟩) (by simp)).trans (by go_simp); clear hb9)
      | (go_at_call 64; (with_reducible refine (areTexts_any A2 n2 c2 l2 w.heap.size _ (HT.out.below HB9.out (Nat.le_refl _)) hn2).mono ?_); rw [h7]; rintro e w8 ⟨rfl, rfl⟩))
    go_ret
    exact ⟨rfl, bel_alloc (bel_alloc (Below.refl _ _) _) _⟩
  all_goals
    have HWHO := Lib.hid (show v < 2 → s.size = 0 from fun hv => by first | exact isEmpty_iff.1 h3 | exact absurd hv (of_decide_eq_false h4))
    rcases h5a : ((n1 : Int) != nI (K : Int)) with _ | _
    rotate_left
    · have HZ := Lib.hid (HBAD.out fun h => by have h6 : ((l1.length : Nat) : Int) = nI (K : Int) := h.2.2.2.1; rw [HL1.out] at h6; simp [h6] at h5a)
      rw [HZ.out]
      go_enter Tryd.func18, Tryd.ntmps18
      go_wp2_with (first
        | (go_at_call 60; (with_reducible refine (checkHead_any _ v _).mono ?_); rw [HKN.out]; rintro e w9 ⟨rfl, rfl⟩)
        | (go_at_call 61; (with_reducible refine (isWithin_any _ _ _ _).mono ?_); (first | rw [h1] | rw [h6]); rintro e w9 ⟨rfl, rfl⟩)
        | (go_at_call 62; (with_reducible refine (isText_any _ _).mono ?_); rw [h2]; rintro e w9 ⟨rfl, rfl⟩)
        | (go_at_call 63; (with_reducible refine (areWithin_any A1 n1 c1 l1 _ _ _ ((HI.out.below (bel_alloc (bel_alloc (Below.refl _ _) _) _) (Nat.le_refl _)).more (by simp; omega)) hn1).mono ?_); rw [h5]; rintro e w9 ⟨rfl, hb9⟩; have HB9 := Lib.hid ((bel_alloc (bel_alloc (Below.refl w.heap.size w) _) _).trans (hb9.mono (by simp; omega))); have q5 : w9.cell? ⟨w.heap.size, 5, none⟩ = some (.slice A2 n2 c2) := (hb9.cell (p := ⟨w.heap.size, 5, none⟩) (by simp; omega)).trans (by go_simp); have q6 : w9.cell? ⟨w.heap.size, 6, none⟩ = some (.slice A3 n3 c3) := (hb9.cell (p := ⟨w.heap.size, 6, none⟩) (by simp; omega)).trans (by go_simp); have g1 : w9.cell? ⟨w.heap.size + 1, 1, none⟩ = some (.int .i64 (nT (K : Int))) := (hb9.cell (p := ⟨w.heap.size + 1, 1, none⟩) (by simp)).trans (by go_simp); have g2 : w9.cell? ⟨w.heap.size + 1, 2, none⟩ = some (.int .i64 (mT (K : Int))) := (hb9.cell (p := ⟨w.heap.size + 1, 2, none⟩) (by simp)).trans (by go_simp); have g3 : w9.cell? ⟨w.heap.size + 1, 3, none⟩ = some (.int .i64 (mB (K : Int))) := (hb9.cell (p := ⟨w.heap.size + 1, 3, none⟩) (by simp)).trans (by go_simp); clear hb9)
        | (go_at_call 64; (with_reducible refine (areTexts_any A2 n2 c2 l2 w.heap.size _ (HT.out.below HB9.out (Nat.le_refl _)) hn2).mono ?_); rw [h7]; rintro e w8 ⟨rfl, rfl⟩))
      go_ret
      exact ⟨rfl, bel_alloc (bel_alloc (Below.refl _ _) _) _⟩
    rcases h5 : allIn l1 (-1) 1099511627776 with _ | _
    · have HZ := Lib.hid (HBAD.out fun h => by rw [allIn_iff.2 h.2.2.2.2.1] at h5; cases h5)
      rw [HZ.out]
      go_enter Tryd.func18, Tryd.ntmps18
      go_wp2_with (first
        | (go_at_call 60; (with_reducible refine (checkHead_any _ v _).mono ?_); rw [HKN.out]; rintro e w9 ⟨rfl, rfl⟩)
        | (go_at_call 61; (with_reducible refine (isWithin_any _ _ _ _).mono ?_); (first | rw [h1] | rw [h6]); rintro e w9 ⟨rfl, rfl⟩)
        | (go_at_call 62; (with_reducible refine (isText_any _ _).mono ?_); rw [h2]; rintro e w9 ⟨rfl, rfl⟩)
        | (go_at_call 63; (with_reducible refine (areWithin_any A1 n1 c1 l1 _ _ _ ((HI.out.below (bel_alloc (bel_alloc (Below.refl _ _) _) _) (Nat.le_refl _)).more (by simp; omega)) hn1).mono ?_); rw [h5]; rintro e w9 ⟨rfl, hb9⟩; have HB9 := Lib.hid ((bel_alloc (bel_alloc (Below.refl w.heap.size w) _) _).trans (hb9.mono (by simp; omega))); have q5 : w9.cell? ⟨w.heap.size, 5, none⟩ = some (.slice A2 n2 c2) := (hb9.cell (p := ⟨w.heap.size, 5, none⟩) (by simp; omega)).trans (by go_simp); have q6 : w9.cell? ⟨w.heap.size, 6, none⟩ = some (.slice A3 n3 c3) := (hb9.cell (p := ⟨w.heap.size, 6, none⟩) (by simp; omega)).trans (by go_simp); have g1 : w9.cell? ⟨w.heap.size + 1, 1, none⟩ = some (.int .i64 (nT (K : Int))) := (hb9.cell (p := ⟨w.heap.size + 1, 1, none⟩) (by simp)).trans (by go_simp); have g2 : w9.cell? ⟨w.heap.size + 1, 2, none⟩ = some (.int .i64 (mT (K : Int))) := (hb9.cell (p := ⟨w.heap.size + 1, 2, none⟩) (by simp)).trans (by go_simp); have g3 : w9.cell? ⟨w.heap.size + 1, 3, none⟩ = some (.int .i64 (mB (K : Int))) := (hb9.cell (p := ⟨w.heap.size + 1, 3, none⟩) (by simp)).trans (by go_simp); clear hb9)
        | (go_at_call 64; (with_reducible refine (areTexts_any A2 n2 c2 l2 w.heap.size _ (HT.out.below HB9.out (Nat.le_refl _)) hn2).mono ?_); rw [h7]; rintro e w8 ⟨rfl, rfl⟩))
      go_ret
      exact ⟨rfl, HB9.out⟩
    rcases h6 : wi (n2 : Int) (nT (K : Int)) (nT (K : Int) + mT (K : Int)) with _ | _
    · have HZ := Lib.hid (HBAD.out fun h => by have h7 := of_decide_eq_false h6; have h8 : nT (K : Int) ≤ ((l2.length : Nat) : Int) ∧ ((l2.length : Nat) : Int) ≤ nT (K : Int) + mT (K : Int) := h.2.2.2.2.2.1; rw [HL2.out] at h8; exact h7 h8)
      rw [HZ.out]
      go_enter Tryd.func18, Tryd.ntmps18
      go_wp2_with (first
        | (go_at_call 60; (with_reducible refine (checkHead_any _ v _).mono ?_); rw [HKN.out]; rintro e w9 ⟨rfl, rfl⟩)
        | (go_at_call 61; (with_reducible refine (isWithin_any _ _ _ _).mono ?_); (first | rw [h1] | rw [h6]); rintro e w9 ⟨rfl, rfl⟩)
        | (go_at_call 62; (with_reducible refine (isText_any _ _).mono ?_); rw [h2]; rintro e w9 ⟨rfl, rfl⟩)
        | (go_at_call 63; (with_reducible refine (areWithin_any A1 n1 c1 l1 _ _ _ ((HI.out.below (bel_alloc (bel_alloc (Below.refl _ _) _) _) (Nat.le_refl _)).more (by simp; omega)) hn1).mono ?_); rw [h5]; rintro e w9 ⟨rfl, hb9⟩; have HB9 := Lib.hid ((bel_alloc (bel_alloc (Below.refl w.heap.size w) _) _).trans (hb9.mono (by simp; omega))); have q5 : w9.cell? ⟨w.heap.size, 5, none⟩ = some (.slice A2 n2 c2) := (hb9.cell (p := ⟨w.heap.size, 5, none⟩) (by simp; omega)).trans (by go_simp); have q6 : w9.cell? ⟨w.heap.size, 6, none⟩ = some (.slice A3 n3 c3) := (hb9.cell (p := ⟨w.heap.size, 6, none⟩) (by simp; omega)).trans (by go_simp); have g1 : w9.cell? ⟨w.heap.size + 1, 1, none⟩ = some (.int .i64 (nT (K : Int))) := (hb9.cell (p := ⟨w.heap.size + 1, 1, none⟩) (by simp)).trans (by go_simp); have g2 : w9.cell? ⟨w.heap.size + 1, 2, none⟩ = some (.int .i64 (mT (K : Int))) := (hb9.cell (p := ⟨w.heap.size + 1, 2, none⟩) (by simp)).trans (by go_simp); have g3 : w9.cell? ⟨w.heap.size + 1, 3, none⟩ = some (.int .i64 (mB (K : Int))) := (hb9.cell (p := ⟨w.heap.size + 1, 3, none⟩) (by simp)).trans (by go_simp); clear hb9)
        | (go_at_call 64; (with_reducible refine (areTexts_any A2 n2 c2 l2 w.heap.size _ (HT.out.below HB9.out (Nat.le_refl _)) hn2).mono ?_); rw [h7]; rintro e w8 ⟨rfl, rfl⟩))
      go_ret
      exact ⟨rfl, HB9.out⟩
    rcases h7 : allShort 64 l2 with _ | _
    · have HZ := Lib.hid (HBAD.out fun h => by rw [allShort_iff.2 h.2.2.2.2.2.2.1] at h7; cases h7)
      rw [HZ.out]
      go_enter Tryd.func18, Tryd.ntmps18
      go_wp2_with (first
        | (go_at_call 60; (with_reducible refine (checkHead_any _ v _).mono ?_); rw [HKN.out]; rintro e w9 ⟨rfl, rfl⟩)
        | (go_at_call 61; (with_reducible refine (isWithin_any _ _ _ _).mono ?_); (first | rw [h1] | rw [h6]); rintro e w9 ⟨rfl, rfl⟩)
        | (go_at_call 62; (with_reducible refine (isText_any _ _).mono ?_); rw [h2]; rintro e w9 ⟨rfl, rfl⟩)
        | (go_at_call 63; (with_reducible refine (areWithin_any A1 n1 c1 l1 _ _ _ ((HI.out.below (bel_alloc (bel_alloc (Below.refl _ _) _) _) (Nat.le_refl _)).more (by simp; omega)) hn1).mono ?_); rw [h5]; rintro e w9 ⟨rfl, hb9⟩; have HB9 := Lib.hid ((bel_alloc (bel_alloc (Below.refl w.heap.size w) _) _).trans (hb9.mono (by simp; omega))); have q5 : w9.cell? ⟨w.heap.size, 5, none⟩ = some (.slice A2 n2 c2) := (hb9.cell (p := ⟨w.heap.size, 5, none⟩) (by simp; omega)).trans (by go_simp); have q6 : w9.cell? ⟨w.heap.size, 6, none⟩ = some (.slice A3 n3 c3) := (hb9.cell (p := ⟨w.heap.size, 6, none⟩) (by simp; omega)).trans (by go_simp); have g1 : w9.cell? ⟨w.heap.size + 1, 1, none⟩ = some (.int .i64 (nT (K : Int))) := (hb9.cell (p := ⟨w.heap.size + 1, 1, none⟩) (by simp)).trans (by go_simp); have g2 : w9.cell? ⟨w.heap.size + 1, 2, none⟩ = some (.int .i64 (mT (K : Int))) := (hb9.cell (p := ⟨w.heap.size + 1, 2, none⟩) (by simp)).trans (by go_simp); have g3 : w9.cell? ⟨w.heap.size + 1, 3, none⟩ = some (.int .i64 (mB (K : Int))) := (hb9.cell (p := ⟨w.heap.size + 1, 3, none⟩) (by simp)).trans (by go_simp); clear hb9)
        | (go_at_call 64; (with_reducible refine (areTexts_any A2 n2 c2 l2 w.heap.size _ (HT.out.below HB9.out (Nat.le_refl _)) hn2).mono ?_); rw [h7]; rintro e w8 ⟨rfl, rfl⟩))
      go_ret
      exact ⟨rfl, HB9.out⟩
    rcases h8 : decide (mB (K : Int) < (n3 : Int)) with _ | _
    rotate_left
    · have HZ := Lib.hid (HBAD.out fun h => by have h9 := of_decide_eq_true h8; have h10 : ((l3.length : Nat) : Int) ≤ mB (K : Int) := h.2.2.2.2.2.2.2; rw [HL3.out] at h10; omega)
      rw [HZ.out]
      have h8' := of_decide_eq_true h8
      go_enter Tryd.func18, Tryd.ntmps18
      go_wp2_with (first
        | (go_at_call 60; (with_reducible refine (checkHead_any _ v _).mono ?_); rw [HKN.out]; rintro e w9 ⟨rfl, rfl⟩)
        | (go_at_call 61; (with_reducible refine (isWithin_any _ _ _ _).mono ?_); (first | rw [h1] | rw [h6]); rintro e w9 ⟨rfl, rfl⟩)
        | (go_at_call 62; (with_reducible refine (isText_any _ _).mono ?_); rw [h2]; rintro e w9 ⟨rfl, rfl⟩)
        | (go_at_call 63; (with_reducible refine (areWithin_any A1 n1 c1 l1 _ _ _ ((HI.out.below (bel_alloc (bel_alloc (Below.refl _ _) _) _) (Nat.le_refl _)).more (by simp; omega)) hn1).mono ?_); rw [h5]; rintro e w9 ⟨rfl, hb9⟩; have HB9 := Lib.hid ((bel_alloc (bel_alloc (Below.refl w.heap.size w) _) _).trans (hb9.mono (by simp; omega))); have q5 : w9.cell? ⟨w.heap.size, 5, none⟩ = some (.slice A2 n2 c2) := (hb9.cell (p := ⟨w.heap.size, 5, none⟩) (by simp; omega)).trans (by go_simp); have q6 : w9.cell? ⟨w.heap.size, 6, none⟩ = some (.slice A3 n3 c3) := (hb9.cell (p := ⟨w.heap.size, 6, none⟩) (by simp; omega)).trans (by go_simp); have g1 : w9.cell? ⟨w.heap.size + 1, 1, none⟩ = some (.int .i64 (nT (K : Int))) := (hb9.cell (p := ⟨w.heap.size + 1, 1, none⟩) (by simp)).trans (by go_simp); have g2 : w9.cell? ⟨w.heap.size + 1, 2, none⟩ = some (.int .i64 (mT (K : Int))) := (hb9.cell (p := ⟨w.heap.size + 1, 2, none⟩) (by simp)).trans (by go_simp); have g3 : w9.cell? ⟨w.heap.size + 1, 3, none⟩ = some (.int .i64 (mB (K : Int))) := (hb9.cell (p := ⟨w.heap.size + 1, 3, none⟩) (by simp)).trans (by go_simp); clear hb9)
        | (go_at_call 64; (with_reducible refine (areTexts_any A2 n2 c2 l2 w.heap.size _ (HT.out.below HB9.out (Nat.le_refl _)) hn2).mono ?_); rw [h7]; rintro e w8 ⟨rfl, rfl⟩))
      go_ret
      exact ⟨rfl, HB9.out⟩
    · have HZ := Lib.hid (show ckQ ⟨(K : Int), v, i, s, l1, l2, l3⟩ = 0 from ckQ_iff.2 ⟨HKN.out, ⟨by have := of_decide_eq_true h1; exact this, by have := of_decide_eq_true h2; show s.size ≤ 64; omega, HWHO.out, by show ((l1.length : Nat) : Int) = nI (K : Int); rw [HL1.out]; simpa using h5a, allIn_iff.1 h5, by show nT (K : Int) ≤ ((l2.length : Nat) : Int) ∧ ((l2.length : Nat) : Int) ≤ nT (K : Int) + mT (K : Int); rw [HL2.out]; exact of_decide_eq_true h6, allShort_iff.1 h7, by show ((l3.length : Nat) : Int) ≤ mB (K : Int); rw [HL3.out]; have := of_decide_eq_false h8; omega⟩⟩)
      rw [HZ.out]
      have h8' := of_decide_eq_false h8
      go_enter Tryd.func18, Tryd.ntmps18
      go_wp2_with (first
        | (go_at_call 60; (with_reducible refine (checkHead_any _ v _).mono ?_); rw [HKN.out]; rintro e w9 ⟨rfl, rfl⟩)
        | (go_at_call 61; (with_reducible refine (isWithin_any _ _ _ _).mono ?_); (first | rw [h1] | rw [h6]); rintro e w9 ⟨rfl, rfl⟩)
        | (go_at_call 62; (with_reducible refine (isText_any _ _).mono ?_); rw [h2]; rintro e w9 ⟨rfl, rfl⟩)
        | (go_at_call 63; (with_reducible refine (areWithin_any A1 n1 c1 l1 _ _ _ ((HI.out.below (bel_alloc (bel_alloc (Below.refl _ _) _) _) (Nat.le_refl _)).more (by simp; omega)) hn1).mono ?_); rw [h5]; rintro e w9 ⟨rfl, hb9⟩; have HB9 := Lib.hid ((bel_alloc (bel_alloc (Below.refl w.heap.size w) _) _).trans (hb9.mono (by simp; omega))); have q5 : w9.cell? ⟨w.heap.size, 5, none⟩ = some (.slice A2 n2 c2) := (hb9.cell (p := ⟨w.heap.size, 5, none⟩) (by simp; omega)).trans (by go_simp); have q6 : w9.cell? ⟨w.heap.size, 6, none⟩ = some (.slice A3 n3 c3) := (hb9.cell (p := ⟨w.heap.size, 6, none⟩) (by simp; omega)).trans (by go_simp); have g1 : w9.cell? ⟨w.heap.size + 1, 1, none⟩ = some (.int .i64 (nT (K : Int))) := (hb9.cell (p := ⟨w.heap.size + 1, 1, none⟩) (by simp)).trans (by go_simp); have g2 : w9.cell? ⟨w.heap.size + 1, 2, none⟩ = some (.int .i64 (mT (K : Int))) := (hb9.cell (p := ⟨w.heap.size + 1, 2, none⟩) (by simp)).trans (by go_simp); have g3 : w9.cell? ⟨w.heap.size + 1, 3, none⟩ = some (.int .i64 (mB (K : Int))) := (hb9.cell (p := ⟨w.heap.size + 1, 3, none⟩) (by simp)).trans (by go_simp); clear hb9)
        | (go_at_call 64; (with_reducible refine (areTexts_any A2 n2 c2 l2 w.heap.size _ (HT.out.below HB9.out (Nat.le_refl _)) hn2).mono ?_); rw [h7]; rintro e w8 ⟨rfl, rfl⟩))
      go_ret
      exact ⟨rfl, HB9.out⟩
end Go.Proofs.YthhdhdjdhekgpaaDoor.Pro
