/- Joined: EpoD5. -/
import Derived.Test.YtmjnleohchmadaaEpoD2
/- The landed epoch: Meet. -/
namespace Go.Proofs.Ytmjnleohchmadaa.Epo
open Go.RowKit Go.Proofs.Ytmjnleohchmadaa.Oct Go.Proofs.Ytmjnleohchmadaa.RowF Go.Proofs.Ytmjnleohchmadaa.Lay Go.Proofs.Ytmjnleohchmadaa.InR Go.Proofs.Ytmjnleohchmadaa.RngQ Go.Proofs.Ytmjnleohchmadaa.RowL

theorem me1_is (g : Nat) (q : Int) (w : World) (x : Ep) (W : World) (h : w.cell? ⟨g, 0, none⟩ = some (.int .i64 q)) (hb : Below w.heap.size w W) :
    Calls Try.prog 43 (#[.agg #[.int .i64 x.ep, .int .i64 x.st]] ++ #[.pointer (some ⟨g, 0, none⟩)]) W fun e W2 => e = .returned (.bool (decide (x.ep ≤ q))) ∧ Below W.heap.size W W2 := by
  have hlt := World.block_lt_of_cell? w _ h
  have h1 := (hb.cell (p := ⟨g, 0, none⟩) hlt).trans h
  have hlt1 := World.block_lt_of_cell? W _ h1
  simp only at hlt1
  show Calls Try.prog 43 #[.agg #[.int .i64 x.ep, .int .i64 x.st], .pointer (some ⟨g, 0, none⟩)] W _
  clear hb h hlt
  go_enter Try.func43, Try.ntmps43
  go_wp2
  go_ret
  exact ⟨rfl, belA W _⟩
def meS (N : Nat) (B : Option Addr) (n2 c2 : Nat) (b : List Ep) (s : List Ep × Int) (W : World) : Prop :=
  ∃ m : Nat, m ≤ n2 ∧ s.1 = b.take m ∧ Boxed W N 22 (.slice B m c2) ∧ Boxed W (N + 1) 3 (.int .i64 s.2)
theorem far_st {W : World} {N M : Nat} (h : N + 2 ≤ M) (u v : Value) : FarE N M W ((W.setCell ⟨N, 0, none⟩ u).setCell ⟨N + 1, 0, none⟩ v) :=
  ⟨((Below.refl N W).setCell (Nat.le_refl _) _).setCell (by simp) _, fun k h2 _ => (Below.heap_setCell _ _ _ _ (by simp only; omega)).trans (Below.heap_setCell _ _ _ _ (by simp only; omega))⟩
theorem FarE.drew {n₀ N : Nat} {A B : World} (h : FarE n₀ N A B) : FarE n₀ N A B.drew := ⟨h.bel.drew, h.hi⟩
theorem take_take' {b : List Ep} {m k : Nat} (h : k ≤ m) : (b.take m).take k = b.take k := by rw [List.take_take, Nat.min_eq_left h]
set_option maxRecDepth 100000 in
set_option maxHeartbeats 8000000 in
theorem me_is (N M : Nat) (B : Option Addr) (n2 c2 : Nat) (b : List Ep) (w : World) (_hN : w.heap.size = N) (hr : RdE w N B n2 b) (hc : n2 ≤ c2) (hn : n2 ≤ 1000000) (s : List Ep × Int) (x : Ep) (W : World) (hS : meS N B n2 c2 b s W) (hb : Below N w W) (hM : N + 2 ≤ M) (hMW : M ≤ W.heap.size) :
    Calls Try.prog 42 (#[.agg #[.int .i64 x.ep, .int .i64 x.st]] ++ #[.pointer (some ⟨N, 0, none⟩), .pointer (some ⟨N + 1, 0, none⟩)]) W fun e W2 => e = .returned (.bool (bothP s x)) ∧ meS N B n2 c2 b (bothF s x) W2 ∧ FarE N M W W2 := by
  obtain ⟨m, hm, hsm, hB0, hB1⟩ := hS
  obtain ⟨s1, s2⟩ := s
  obtain ⟨x0, x1⟩ := x
  simp only at hsm hB1
  have hl2 := hr.len
  have hrm : RdE w N B m s1 := by
    have h := rdE_cut hr (i := 0) (m := m) (by omega) B (fun _ => by cases B <;> simp [Addr.add])
    rwa [List.drop_zero, ← hsm] at h
  have hrW : RdE W W.heap.size B m s1 := (hrm.below hb (by omega)).more (by omega)
  have hb1 := belA W (.cells #[.int .i64 x0, .int .i64 x1] 32)
  have HB1 := Lib.hid hb1
  have HR1 := Lib.hid (rdeUp hrW hb1)
  have HX1 := Lib.hid (At0.new W [.int .i64 x0, .int .i64 x1] 32)
  have hx1 : W.heap.size < (W.alloc (.cells #[.int .i64 x0, .int .i64 x1] 32)).heap.size := by simp
  have HT0 := Lib.hid (boxed_below hB0 hb1)
  have HT1 := Lib.hid (boxed_below hB1 hb1)
  have c0 := hB0.cell
  have c1 := hB1.cell
  have hNl := hB0.lt
  have hNl1 := hB1.lt
  have HSM := Lib.hid hsm
  have hlm : s1.length = m := hrm.len
  have hnx : ¬ W.heap.size = N := by omega
  have hnx1 : ¬ W.heap.size = N + 1 := by omega
  show Calls Try.prog 42 #[.agg #[.int .i64 x0, .int .i64 x1], .pointer (some ⟨N, 0, none⟩), .pointer (some ⟨N + 1, 0, none⟩)] W _
  rcases hl : bothL (s1, s2) ⟨x0, x1⟩ with _ | ⟨k, o9⟩
  · have HP := Lib.hid (show bothP (s1, s2) ⟨x0, x1⟩ = false by unfold bothP; rw [hl])
    have HF := Lib.hid (show bothF (s1, s2) ⟨x0, x1⟩ = (b.take 0, 0) by unfold bothF; rw [hl]; show (s1.take 0, (0 : Int)) = _; simp)
    have HG := Lib.hid (show (goL (fun _ : Unit => fun y : Ep => decide (y.ep ≤ x0)) (fun _ _ => ()) () s2 s1.reverse).2 = none from hl)
    have hmc : (m : Int) ≤ (c2 : Int) := by omega
    have hc0 : (0 : Int) ≤ (c2 : Int) := by omega
    clear hr hrm hrW hb hb1 hl hB0 hB1 hsm
    go_enter Try.func42, Try.ntmps42
    cases B with
    | none =>
      go_upto_region 2 with (go_at_call 35; (with_reducible refine (last_is 43 #[.pointer (some ⟨W.heap.size, 0, none⟩)] (fun ys w => by go_simp) (fun y => decide (y.ep ≤ x0)) s2 none m c2 s1 _ HR1.out (by omega) (fun y W9 hb => me1_is W.heap.size x0 _ y W9 (HX1.out.cell 0) hb) HG.out).mono ?_); rintro e w3 ⟨rfl, hb⟩; have HB3 := Lib.hid (bel_trans HB1.out hb); have HT03 := Lib.hid (boxed_below HT0.out hb); have HT13 := Lib.hid (boxed_below HT1.out hb); have HX3 := Lib.hid (HX1.out.below hb); clear hb; dsimp only [atL])
      have e0 := HT03.out.cell
      have e0f := HT03.out.frozen
      have e1 := HT13.out.cell
      have e1f := HT13.out.frozen
      have hw3 := HB3.out.size
      obtain ⟨rfl, rfl⟩ := HR1.out.isNil
      go_upto_region 3 with fail
      have HA5 := Lib.hid (show Boxed ((w3.setCell ⟨N, 0, none⟩ (.slice none 0 c2)).setCell ⟨N + 1, 0, none⟩ (.int .i64 0)) N 22 (.slice none 0 c2) from boxed_set2 (HT03.out.set _) _ (by omega))
      have HA6 := Lib.hid (show Boxed ((w3.setCell ⟨N, 0, none⟩ (.slice none 0 c2)).setCell ⟨N + 1, 0, none⟩ (.int .i64 0)) (N + 1) 3 (.int .i64 0) from (boxed_set2 HT13.out _ (by omega)).set _)
      have HF5 := Lib.hid ((FarE.of (n₀ := N) (N := M) HB3.out (by omega)).trans (far_st (W := w3) (N := N) (M := M) hM (.slice none 0 c2) (.int .i64 0)))
      clear e0 e0f e1 e1f
      generalize ((w3.setCell ⟨N, 0, none⟩ (.slice none 0 c2)).setCell ⟨N + 1, 0, none⟩ (.int .i64 0)) = w5 at *
      have a5 := HA5.out.cell
      go_wp2_with fail
      go_region
      go_wp2
      go_ret
      exact ⟨by rw [HP.out]; rfl, ⟨0, by omega, by rw [HF.out], HA5.out, by rw [HF.out]; exact HA6.out⟩, HF5.out.drew⟩
    | some a =>
      obtain ⟨ab, ao, al⟩ := a
      go_upto_region 2 with (go_at_call 35; (with_reducible refine (last_is 43 #[.pointer (some ⟨W.heap.size, 0, none⟩)] (fun ys w => by go_simp) (fun y => decide (y.ep ≤ x0)) s2 _ m c2 s1 _ HR1.out (by omega) (fun y W9 hb => me1_is W.heap.size x0 _ y W9 (HX1.out.cell 0) hb) HG.out).mono ?_); rintro e w3 ⟨rfl, hb⟩; have HB3 := Lib.hid (bel_trans HB1.out hb); have HT03 := Lib.hid (boxed_below HT0.out hb); have HT13 := Lib.hid (boxed_below HT1.out hb); have HX3 := Lib.hid (HX1.out.below hb); clear hb; dsimp only [atL])
      have e0 := HT03.out.cell
      have e0f := HT03.out.frozen
      have e1 := HT13.out.cell
      have e1f := HT13.out.frozen
      have hw3 := HB3.out.size
      go_upto_region 3 with fail
      have HA5 := Lib.hid (show Boxed ((w3.setCell ⟨N, 0, none⟩ (.slice (some ⟨ab, ao, al⟩) 0 c2)).setCell ⟨N + 1, 0, none⟩ (.int .i64 0)) N 22 (.slice (some ⟨ab, ao, al⟩) 0 c2) from boxed_set2 (HT03.out.set _) _ (by omega))
      have HA6 := Lib.hid (show Boxed ((w3.setCell ⟨N, 0, none⟩ (.slice (some ⟨ab, ao, al⟩) 0 c2)).setCell ⟨N + 1, 0, none⟩ (.int .i64 0)) (N + 1) 3 (.int .i64 0) from (boxed_set2 HT13.out _ (by omega)).set _)
      have HF5 := Lib.hid ((FarE.of (n₀ := N) (N := M) HB3.out (by omega)).trans (far_st (W := w3) (N := N) (M := M) hM (.slice (some ⟨ab, ao, al⟩) 0 c2) (.int .i64 0)))
      clear e0 e0f e1 e1f
      generalize ((w3.setCell ⟨N, 0, none⟩ (.slice (some ⟨ab, ao, al⟩) 0 c2)).setCell ⟨N + 1, 0, none⟩ (.int .i64 0)) = w5 at *
      have a5 := HA5.out.cell
      go_wp2_with fail
      go_region
      go_wp2
      go_ret
      exact ⟨by rw [HP.out]; rfl, ⟨0, by omega, by rw [HF.out], HA5.out, by rw [HF.out]; exact HA6.out⟩, HF5.out.drew⟩
  · obtain ⟨⟨y0, y1⟩, hy⟩ : ∃ y, s1[k]? = some y := let ⟨y, h, _⟩ := lstE_some hl; ⟨y, h⟩
    obtain ⟨bb, oo, rfl, hbl, hk, hy0, _⟩ := ep_k hrm hy
    have HY := Lib.hid hy0
    have HP := Lib.hid (show bothP (s1, s2) ⟨x0, x1⟩ = decide (y0 = x0) by unfold bothP; rw [hl]; simp only; rw [hy])
    have HF := Lib.hid (show bothF (s1, s2) ⟨x0, x1⟩ = (b.take (k + 1), o9) by
      unfold bothF; rw [hl]
      show (s1.take ((k : Int) + 1).toNat, o9) = _
      rw [show ((k : Int) + 1).toNat = k + 1 by omega, hsm, take_take' (by omega)])
    have HG := Lib.hid (show (goL (fun _ : Unit => fun y : Ep => decide (y.ep ≤ x0)) (fun _ _ => ()) () s2 s1.reverse).2 = some (k, o9) from hl)
    obtain ⟨P, hP⟩ : ∃ P : Nat, k + 1 = P := ⟨_, rfl⟩
    have hw1 : IntKind.i64.wrap ((k : Int) + 1) = (P : Int) := by rw [← hP]; exact IntWalk.i64_in _ (by omega)
    have hP0 : (0 : Int) ≤ (P : Int) := by omega
    have hPc : (P : Int) ≤ (c2 : Int) := by omega
    have hPc' : P ≤ c2 := by omega
    have hk0 : (0 : Int) ≤ (k : Int) := by omega
    have hkP : (k : Int) < (P : Int) := by omega
    rw [hP] at HF
    have hbl' : bb < W.heap.size := by omega
    replace HY := Lib.hid ((hb.cell (p := ⟨bb, oo + k * 2, none⟩) hbl).trans HY.out)
    clear hr hrm hrW hb hb1 hl hB0 hB1 hsm hy hy0
    go_enter Try.func42, Try.ntmps42
    go_upto_region 2 with (go_at_call 35; (with_reducible refine (last_is 43 #[.pointer (some ⟨W.heap.size, 0, none⟩)] (fun ys w => by go_simp) (fun y => decide (y.ep ≤ x0)) s2 _ m c2 s1 _ HR1.out (by omega) (fun y W9 hb => me1_is W.heap.size x0 _ y W9 (HX1.out.cell 0) hb) HG.out).mono ?_); rintro e w3 ⟨rfl, hb⟩; have HB3 := Lib.hid (bel_trans HB1.out hb); have HT03 := Lib.hid (boxed_below HT0.out hb); have HT13 := Lib.hid (boxed_below HT1.out hb); have HX3 := Lib.hid (HX1.out.below hb); clear hb; dsimp only [atL])
    have e0 := HT03.out.cell
    have e0f := HT03.out.frozen
    have e1 := HT13.out.cell
    have e1f := HT13.out.frozen
    have hw3 := HB3.out.size
    go_upto_region 3 with fail
    have HA5 := Lib.hid (show Boxed ((w3.setCell ⟨N, 0, none⟩ (.slice (some ⟨bb, oo, none⟩) P c2)).setCell ⟨N + 1, 0, none⟩ (.int .i64 o9)) N 22 (.slice (some ⟨bb, oo, none⟩) P c2) from boxed_set2 (HT03.out.set _) _ (by omega))
    have HA6 := Lib.hid (show Boxed ((w3.setCell ⟨N, 0, none⟩ (.slice (some ⟨bb, oo, none⟩) P c2)).setCell ⟨N + 1, 0, none⟩ (.int .i64 o9)) (N + 1) 3 (.int .i64 o9) from (boxed_set2 HT13.out _ (by omega)).set _)
    have HF5 := Lib.hid ((FarE.of (n₀ := N) (N := M) HB3.out (by omega)).trans (far_st (W := w3) (N := N) (M := M) hM (.slice (some ⟨bb, oo, none⟩) P c2) (.int .i64 o9)))
    have y5 : ((w3.setCell ⟨N, 0, none⟩ (.slice (some ⟨bb, oo, none⟩) P c2)).setCell ⟨N + 1, 0, none⟩ (.int .i64 o9)).cell? ⟨bb, oo + k * 2, none⟩ = some (.int .i64 y0) := (HF5.out.bel.cell (p := ⟨bb, oo + k * 2, none⟩) hbl).trans HY.out
    have x5 : ((w3.setCell ⟨N, 0, none⟩ (.slice (some ⟨bb, oo, none⟩) P c2)).setCell ⟨N + 1, 0, none⟩ (.int .i64 o9)).cell? ⟨W.heap.size, 0, none⟩ = some (.int .i64 x0) := (World.cell?_of_block ((Below.heap_setCell _ _ _ _ (by simp only; omega)).trans (Below.heap_setCell _ _ _ _ (by simp only; omega)))).trans (HX3.out.cell 0)
    clear e0 e0f e1 e1f
    generalize ((w3.setCell ⟨N, 0, none⟩ (.slice (some ⟨bb, oo, none⟩) P c2)).setCell ⟨N + 1, 0, none⟩ (.int .i64 o9)) = w5 at *
    have a5 := HA5.out.cell
    by_cases he : y0 = x0
    · have heq : (y0 == x0) = true := beq_iff_eq.2 he
      have HP2 := Lib.hid (decide_eq_true he)
      clear he
      go_wp2_with fail
      go_region
      go_wp2
      go_ret
      exact ⟨by rw [HP.out, HP2.out]; rfl, ⟨P, by omega, by rw [HF.out], HA5.out, by rw [HF.out]; exact HA6.out⟩, HF5.out.drew⟩
    · have heq : (y0 == x0) = false := beq_eq_false_iff_ne.2 he
      have HP2 := Lib.hid (decide_eq_false he)
      clear he
      go_wp2_with fail
      go_region
      go_wp2
      go_ret
      exact ⟨by rw [HP.out, HP2.out]; rfl, ⟨P, by omega, by rw [HF.out], HA5.out, by rw [HF.out]; exact HA6.out⟩, HF5.out.drew⟩
theorem me_start {N n2 c2 : Nat} {B : Option Addr} {b : List Ep} {e : Int} {X : World} (hl : b.length = n2) (h0 : Boxed X N 22 (.slice B n2 c2)) (h1 : Boxed X (N + 1) 3 (.int .i64 e)) : meS N B n2 c2 b (b, e) X := ⟨n2, Nat.le_refl _, (List.take_of_length_le (by show b.length ≤ _; omega)).symm, h0, h1⟩
theorem me_st {N M n2 c2 : Nat} {B : Option Addr} {b : List Ep} {s : List Ep × Int} {X Y : World} (hM : N + 2 ≤ M) (h : meS N B n2 c2 b s X) (hb : Below M X Y) : meS N B n2 c2 b s Y := by
  obtain ⟨m, h1, h2, h3, h4⟩ := h
  exact ⟨m, h1, h2, (hb.block _ (by omega)).trans h3, (hb.block _ (by omega)).trans h4⟩
set_option maxRecDepth 100000 in
set_option maxHeartbeats 8000000 in
theorem dMeet_is (A B : Option Addr) (n c n2 c2 : Nat) (a b : List Ep) (ea eb : Int) (w : World) (hr : RdE w w.heap.size A n a) (hr2 : RdE w w.heap.size B n2 b) (hn : n ≤ 1000000) (hn2 : n2 ≤ 1000000) (hc2 : n2 ≤ c2) {X : Int} (hX : meetE a ea b eb = X) :
    Calls Try.prog 26 #[.slice A n c, .int .i64 ea, .slice B n2 c2, .int .i64 eb] w fun e w' => e = .returned (.int .i64 X) ∧ Below w.heap.size w w' := by
  have hb1 := bel_alloc (belA w (.cells #[.slice B n2 c2] 22)) (.cells #[.int .i64 eb] 3)
  have HR1 := Lib.hid (rdeUp hr hb1)
  have HQ1 := Lib.hid (rdeUp hr2 hb1)
  have HR0 := Lib.hid hr
  have HQ0 := Lib.hid hr2
  have HB1 := Lib.hid hb1
  have hz1 : ((w.alloc (.cells #[.slice B n2 c2] 22)).alloc (.cells #[.int .i64 eb] 3)).heap.size = w.heap.size + 2 := by simp
  have HT0 := Lib.hid (show Boxed ((w.alloc (.cells #[.slice B n2 c2] 22)).alloc (.cells #[.int .i64 eb] 3)) w.heap.size 22 (.slice B n2 c2) from (Boxed.new w _ _).alloc _)
  have HT1 := Lib.hid (show Boxed ((w.alloc (.cells #[.slice B n2 c2] 22)).alloc (.cells #[.int .i64 eb] 3)) (w.heap.size + 1) 3 (.int .i64 eb) from by
    have h := Boxed.new (w.alloc (.cells #[.slice B n2 c2] 22)) 3 (.int .i64 eb)
    rwa [World.size_alloc] at h)
  have hlb := hr2.len
  clear hr hr2
  generalize hw1 : ((w.alloc (.cells #[.slice B n2 c2] 22)).alloc (.cells #[.int .i64 eb] 3)) = w1 at *
  have HW1 := Lib.hid hw1
  have hW : (w.alloc (.cells #[.slice B n2 c2] 22)).alloc (.cells #[.int .i64 eb] 3) = w1 := hw1
  by_cases oa : okE a = true
  · have HCA := Lib.hid (show ckE a = 0 by unfold ckE; rw [if_pos oa])
    by_cases ob : okE b = true
    · have HCB := Lib.hid (show ckE b = 0 by unfold ckE; rw [if_pos ob])
      rw [meetE_lst oa ob] at hX
      rcases hg : goL bothP bothF (b, eb) ea a.reverse with ⟨s, _ | ⟨i, o9⟩⟩
      · rw [hg] at hX
        have HX := Lib.hid (show 0 = X from hX)
        have HG := Lib.hid hg
        clear hX hg oa ob hb1 hw1
        go_enter Try.func26, Try.ntmps26
        go_upto_region 1 with fail
        first | rw [hW] | skip
        clear hW
        have e0 := HT0.out.cell
        go_wp2_with (first
          | (go_at_call 17; (with_reducible refine (dCheck_is A n c a _ HR1.out (by unfold reach; omega) HCA.out).mono ?_); rintro e w2 ⟨rfl, hb⟩; have HB2 := Lib.hid (bel_trans HB1.out hb); have HQ2 := Lib.hid (rdeUp HQ1.out hb); have HT02 := Lib.hid (boxed_below HT0.out hb); have HT12 := Lib.hid (boxed_below HT1.out hb); have hs2 := hb.size; have e2 := HT02.out.cell; clear hb e0)
          | (go_at_call 17; (with_reducible refine (dCheck_is B n2 c2 b _ HQ2.out (by unfold reach; omega) HCB.out).mono ?_); rintro e w3 ⟨rfl, hb⟩; have HB3 := Lib.hid (bel_trans HB2.out hb); have HT03 := Lib.hid (boxed_below HT02.out hb); have HT13 := Lib.hid (boxed_below HT12.out hb); have hs3 := hb.size; have HM3 := Lib.hid (show w.heap.size + 2 ≤ w3.heap.size by omega); clear hb e2 hs2 hs3)
          | (go_at_call 35; (with_reducible refine (lastS_is 42 #[.pointer (some ⟨w.heap.size, 0, none⟩), .pointer (some ⟨w.heap.size + 1, 0, none⟩)] (fun ys w => by go_simp) bothP bothF (fun s W => meS w.heap.size B n2 c2 b s W) (b, eb) ea A n c w.heap.size a w3 (HR0.out.below HB3.out (Nat.le_refl _)) HB3.out.size (by omega) (me_start hlb HT03.out HT13.out) (fun s X Y hS hb => me_st HM3.out hS hb) (fun s x W hS hb => me_is w.heap.size w3.heap.size B n2 c2 b w rfl HQ0.out hc2 hn2 s x W hS (HB3.out.trans hb) HM3.out hb.size) HG.out).mono ?_); rintro e w4 ⟨rfl, hS, hb⟩; have HB4 := Lib.hid (HB3.out.trans hb); obtain ⟨_, _, _, _, hs4⟩ := hS; have HS4 := Lib.hid hs4; have e4 := hs4.cell; clear hs4 hb; dsimp only [atL]))
        go_ret
        exact ⟨by rw [HX.out]; rfl, HB4.out⟩
      · rw [hg] at hX
        obtain ⟨s1, s2⟩ := s
        have HX := Lib.hid (show min o9 s2 = X from hX)
        have HG := Lib.hid hg
        clear hX hg oa ob hb1 hw1
        go_enter Try.func26, Try.ntmps26
        have hi0 : (0 : Int) ≤ (i : Int) := by omega
        go_upto_region 1 with fail
        first | rw [hW] | skip
        clear hW
        have e0 := HT0.out.cell
        by_cases hlt : s2 < o9
        · have HX2 := Lib.hid (show s2 = X by rw [← HX.out]; omega)
          go_wp2_with (first
            | (go_at_call 17; (with_reducible refine (dCheck_is A n c a _ HR1.out (by unfold reach; omega) HCA.out).mono ?_); rintro e w2 ⟨rfl, hb⟩; have HB2 := Lib.hid (bel_trans HB1.out hb); have HQ2 := Lib.hid (rdeUp HQ1.out hb); have HT02 := Lib.hid (boxed_below HT0.out hb); have HT12 := Lib.hid (boxed_below HT1.out hb); have hs2 := hb.size; have e2 := HT02.out.cell; clear hb e0)
            | (go_at_call 17; (with_reducible refine (dCheck_is B n2 c2 b _ HQ2.out (by unfold reach; omega) HCB.out).mono ?_); rintro e w3 ⟨rfl, hb⟩; have HB3 := Lib.hid (bel_trans HB2.out hb); have HT03 := Lib.hid (boxed_below HT02.out hb); have HT13 := Lib.hid (boxed_below HT12.out hb); have hs3 := hb.size; have HM3 := Lib.hid (show w.heap.size + 2 ≤ w3.heap.size by omega); clear hb e2 hs2 hs3)
            | (go_at_call 35; (with_reducible refine (lastS_is 42 #[.pointer (some ⟨w.heap.size, 0, none⟩), .pointer (some ⟨w.heap.size + 1, 0, none⟩)] (fun ys w => by go_simp) bothP bothF (fun s W => meS w.heap.size B n2 c2 b s W) (b, eb) ea A n c w.heap.size a w3 (HR0.out.below HB3.out (Nat.le_refl _)) HB3.out.size (by omega) (me_start hlb HT03.out HT13.out) (fun s X Y hS hb => me_st HM3.out hS hb) (fun s x W hS hb => me_is w.heap.size w3.heap.size B n2 c2 b w rfl HQ0.out hc2 hn2 s x W hS (HB3.out.trans hb) HM3.out hb.size) HG.out).mono ?_); rintro e w4 ⟨rfl, hS, hb⟩; have HB4 := Lib.hid (HB3.out.trans hb); obtain ⟨_, _, _, _, hs4⟩ := hS; have HS4 := Lib.hid hs4; have e4 := hs4.cell; clear hs4 hb; dsimp only [atL]))
          go_ret
          exact ⟨by rw [HX2.out]; rfl, HB4.out⟩
        · have HX2 := Lib.hid (show o9 = X by rw [← HX.out]; omega)
          go_wp2_with (first
            | (go_at_call 17; (with_reducible refine (dCheck_is A n c a _ HR1.out (by unfold reach; omega) HCA.out).mono ?_); rintro e w2 ⟨rfl, hb⟩; have HB2 := Lib.hid (bel_trans HB1.out hb); have HQ2 := Lib.hid (rdeUp HQ1.out hb); have HT02 := Lib.hid (boxed_below HT0.out hb); have HT12 := Lib.hid (boxed_below HT1.out hb); have hs2 := hb.size; have e2 := HT02.out.cell; clear hb e0)
            | (go_at_call 17; (with_reducible refine (dCheck_is B n2 c2 b _ HQ2.out (by unfold reach; omega) HCB.out).mono ?_); rintro e w3 ⟨rfl, hb⟩; have HB3 := Lib.hid (bel_trans HB2.out hb); have HT03 := Lib.hid (boxed_below HT02.out hb); have HT13 := Lib.hid (boxed_below HT12.out hb); have hs3 := hb.size; have HM3 := Lib.hid (show w.heap.size + 2 ≤ w3.heap.size by omega); clear hb e2 hs2 hs3)
            | (go_at_call 35; (with_reducible refine (lastS_is 42 #[.pointer (some ⟨w.heap.size, 0, none⟩), .pointer (some ⟨w.heap.size + 1, 0, none⟩)] (fun ys w => by go_simp) bothP bothF (fun s W => meS w.heap.size B n2 c2 b s W) (b, eb) ea A n c w.heap.size a w3 (HR0.out.below HB3.out (Nat.le_refl _)) HB3.out.size (by omega) (me_start hlb HT03.out HT13.out) (fun s X Y hS hb => me_st HM3.out hS hb) (fun s x W hS hb => me_is w.heap.size w3.heap.size B n2 c2 b w rfl HQ0.out hc2 hn2 s x W hS (HB3.out.trans hb) HM3.out hb.size) HG.out).mono ?_); rintro e w4 ⟨rfl, hS, hb⟩; have HB4 := Lib.hid (HB3.out.trans hb); obtain ⟨_, _, _, _, hs4⟩ := hS; have HS4 := Lib.hid hs4; have e4 := hs4.cell; clear hs4 hb; dsimp only [atL]))
          go_ret
          exact ⟨by rw [HX2.out]; rfl, HB4.out⟩
    · have HCB := Lib.hid (show ckE b = 1 by unfold ckE; rw [if_neg ob])
      have HX := Lib.hid (show 0 = X by rw [← hX]; unfold meetE; rw [if_neg (fun h => ob h.2)])
      clear hX oa ob hb1 hw1
      go_enter Try.func26, Try.ntmps26
      go_upto_region 1 with fail
      first | rw [hW] | skip
      clear hW
      have e0 := HT0.out.cell
      go_wp2_with (first
        | (go_at_call 17; (with_reducible refine (dCheck_is A n c a _ HR1.out (by unfold reach; omega) HCA.out).mono ?_); rintro e w2 ⟨rfl, hb⟩; have HB2 := Lib.hid (bel_trans HB1.out hb); have HQ2 := Lib.hid (rdeUp HQ1.out hb); have e2 := (boxed_below HT0.out hb).cell; clear hb e0)
        | (go_at_call 17; (with_reducible refine (dCheck_is B n2 c2 b _ HQ2.out (by unfold reach; omega) HCB.out).mono ?_); rintro e w3 ⟨rfl, hb⟩; have HB3 := Lib.hid (bel_trans HB2.out hb); clear hb))
      go_ret
      exact ⟨by rw [HX.out]; rfl, HB3.out⟩
  · have HCA := Lib.hid (show ckE a = 1 by unfold ckE; rw [if_neg oa])
    have HX := Lib.hid (show 0 = X by rw [← hX]; unfold meetE; rw [if_neg (fun h => oa h.1)])
    clear hX oa hb1 hw1
    go_enter Try.func26, Try.ntmps26
    go_upto_region 1 with fail
    first | rw [hW] | skip
    clear hW
    have e0 := HT0.out.cell
    go_wp2_with (first
      | (go_at_call 17; (with_reducible refine (dCheck_is A n c a _ HR1.out (by unfold reach; omega) HCA.out).mono ?_); rintro e w2 ⟨rfl, hb⟩; have HB2 := Lib.hid (bel_trans HB1.out hb); clear hb e0))
    go_ret
    exact ⟨by rw [HX.out]; rfl, HB2.out⟩
end Go.Proofs.Ytmjnleohchmadaa.Epo
