/- Joined: EpoD1. -/
import Derived.Test.YtmjnleohchmadaaEpoC
import Derived.Test.YtmjnleohchmadaaEpoR1
import Derived.Lib.LazyBuf
import Derived.Deep.DeepCutAuto
/- The landed epoch: slices.Clone, Check, EndOf, Cut, Trim. -/
namespace Go.Proofs.Ytmjnleohchmadaa.Epo
open Go.RowKit Go.Proofs.Ytmjnleohchmadaa.Oct Go.Proofs.Ytmjnleohchmadaa.RowF Go.Proofs.Ytmjnleohchmadaa.Lay Go.Proofs.Ytmjnleohchmadaa.InR Go.Proofs.Ytmjnleohchmadaa.RngQ Go.Proofs.Ytmjnleohchmadaa.RowL

theorem ownE_empty {α : Type} (f : α → List Value) (size : Nat) (w : World) (e : TypeId) : OwnF f size (w.alloc (.cells #[] e)) e w.heap.size (.slice (some ⟨w.heap.size, 0, none⟩) 0 0) 0 ([] : List α) := by
  have h1 := World.ownsRow_lit (base := w.heap.size) (e := e) (size := size) w #[] 0 (by simp) (by unfold maxLen; omega) (by simp)
  simpa [OwnF] using h1
theorem Clone_is (A : Option Addr) (n c : Nat) (l : List Ep) (w : World) (hr : RdE w w.heap.size A n l) (hn : n ≤ 1000000) :
    Calls Try.prog 33 #[.slice A n c] w fun e w' => ∃ A' m c', e = .returned (.slice A' m c') ∧ n = m ∧ OwnE w' w.heap.size (.slice A' m c') m l ∧ Below w.heap.size w w' := by
  have hq := Go.run_eql_slice_nil (P := Try.prog) w 22 32 A n c Try.underlying22
  have HR := Lib.hid hr
  cases A with
  | none =>
    obtain ⟨hn0, hl0⟩ := HR.out.isNil
    subst hn0
    subst hl0
    clear hr
    go_enter Try.func33, Try.ntmps33
    go_wp2
    go_ret
    exact ⟨none, 0, 0, rfl, rfl, OwnF.nil, Below.refl _ _⟩
  | some a =>
    clear hr
    go_enter Try.func33, Try.ntmps33
    go_wp2_with (at_builtin; refine wpList_appF _ epS rfl _ _ 22 rfl 16 w.heap.size 32 Try.underlying22 epInfo _ 0 [] rfl (ownE_empty epC 2 w 32) w.heap.size (some a) n c l rfl (HR.out.alloc (Nat.le_refl _) _) (by omega) (by omega) (by simp) ?_; intro A1 c1 w1 hown1 hb1; simp only [Nat.zero_add, List.nil_append] at hown1 ⊢; have HO := Lib.hid hown1; have HB := Lib.hid hb1; clear hown1 hb1)
    go_ret
    exact ⟨A1, n, c1, rfl, rfl, HO.out, ((Below.refl w.heap.size w).alloc (Nat.le_refl _) (.cells #[] 32)).trans HB.out⟩
theorem isGen_is (v : Int) (w : World) : Calls Try.prog 45 #[.int .i64 v] w fun e w' => e = .returned (.bool (decide (0 ≤ v ∧ v ≤ 1048576))) ∧ w = w' := by
  by_cases h0 : 0 ≤ v
  · by_cases h1 : v ≤ 1048576
    · rw [decide_eq_true ⟨h0, h1⟩]
      go_enter Try.func45, Try.ntmps45
      go_wp2
      go_ret
      exact ⟨rfl, rfl⟩
    · rw [decide_eq_false (fun h => h1 h.2)]
      go_enter Try.func45, Try.ntmps45
      go_wp2
      go_ret
      exact ⟨rfl, rfl⟩
  · rw [decide_eq_false (fun h => h0 h.1)]
    go_enter Try.func45, Try.ntmps45
    go_wp2
    go_ret
    exact ⟨rfl, rfl⟩
theorem isOff_is (v : Int) (w : World) : Calls Try.prog 39 #[.int .i64 v] w fun e w' => e = .returned (.bool (decide (0 ≤ v ∧ v ≤ 1099511627776))) ∧ w = w' := by
  by_cases h0 : 0 ≤ v
  · by_cases h1 : v ≤ 1099511627776
    · rw [decide_eq_true ⟨h0, h1⟩]
      go_enter Try.func39, Try.ntmps39
      go_wp2
      go_ret
      exact ⟨rfl, rfl⟩
    · rw [decide_eq_false (fun h => h1 h.2)]
      go_enter Try.func39, Try.ntmps39
      go_wp2
      go_ret
      exact ⟨rfl, rfl⟩
  · rw [decide_eq_false (fun h => h0 h.1)]
    go_enter Try.func39, Try.ntmps39
    go_wp2
    go_ret
    exact ⟨rfl, rfl⟩
theorem at0_set {W : World} {g : Nat} {e : TypeId} {cs : List Value} (h : At0 W g cs e) (j : Nat) (u : Value) : At0 (W.setCell ⟨g, j, none⟩ u) g (cs.set j u) e := by
  have hlt := h.lt
  have h' : W.heap[g] = .cells cs.toArray e (0, 0) := by simpa [At0, Array.getElem?_eq_getElem hlt] using h
  unfold At0
  show (W.heap.modify g _)[g]? = _
  rw [Array.getElem?_eq_getElem (by simpa using hlt), Array.getElem_modify_self, h', ← List.setIfInBounds_toArray]
  rfl
theorem at0_two {W : World} {g : Nat} {e : TypeId} {a b x y : Value} (h : At0 W g [a, b] e) : At0 ((W.setCell ⟨g, 0, none⟩ x).setCell ⟨g, 1, none⟩ y) g [x, y] e := at0_set (at0_set h 0 x) 1 y
theorem far_two {W : World} {g n₀ N : Nat} (h0 : n₀ ≤ g) (h1 : g < N) (x y : Value) : FarE n₀ N W ((W.setCell ⟨g, 0, none⟩ x).setCell ⟨g, 1, none⟩ y) :=
  ⟨((Below.refl n₀ W).setCell h0 _).setCell h0 _, fun k h2 _ => (Below.heap_setCell _ _ _ _ (by simp only; omega)).trans (Below.heap_setCell _ _ _ _ (by simp only; omega))⟩
set_option maxRecDepth 100000 in
set_option maxHeartbeats 4000000 in
theorem ck1_is (g n₀ N : Nat) (s x : Ep) (W : World) (h : At0 W g [.int .i64 s.ep, .int .i64 s.st] 32) (h0 : n₀ ≤ g) (h1 : g < N) (_h2 : N ≤ W.heap.size) :
    Calls Try.prog 34 #[.agg #[.int .i64 x.ep, .int .i64 x.st], .pointer (some ⟨g, 0, none⟩)] W fun e W2 => e = .returned (.bool (ckP s x)) ∧ At0 W2 g [.int .i64 x.ep, .int .i64 x.st] 32 ∧ FarE n₀ N W W2 := by
  obtain ⟨x0, x1⟩ := x
  obtain ⟨s0, s1⟩ := s
  have hlt := h.lt
  have c0 := h.cell 0
  have c1 := h.cell 1
  have f0 := h.frozen 0
  have f1 := h.frozen 1
  simp only [List.getElem?_cons_zero, List.getElem?_cons_succ] at c0 c1
  have HAT := Lib.hid h
  have HK := Lib.hid (show ckP ⟨s0, s1⟩ ⟨x0, x1⟩ = (decide (x0 < 0) || (decide (x1 < 0) || (decide (s0 ≤ x0) || decide (s1 ≤ x1)))) from rfl)
  have HA := Lib.hid ((((at0_two (x := .int .i64 x0) (y := .int .i64 x1) h).below (belA _ (.cells #[.int .i64 x0, .int .i64 x1] 32))).below (belA _ (.cells #[.int .i64 s0, .int .i64 s1] 32))))
  have HF := Lib.hid ((far_two (W := W) (N := N) h0 h1 (.int .i64 x0) (.int .i64 x1)).trans (FarE.of (n₀ := n₀) (N := N) (bel_alloc (belA _ (.cells #[.int .i64 x0, .int .i64 x1] 32)) (.cells #[.int .i64 s0, .int .i64 s1] 32)) (by simp; omega)))
  have hne : ¬ W.heap.size = g := by omega
  have hne2 : ¬ g = W.heap.size := by omega
  clear h h0 h1
  go_enter Try.func34, Try.ntmps34
  rcases hb0 : decide (x0 < 0) with _ | _
  · rcases hb1 : decide (x1 < 0) with _ | _
    · rcases hb2 : decide (s0 ≤ x0) with _ | _
      · rcases hb3 : decide (s1 ≤ x1) with _ | _
        · rw [hb0, hb1, hb2, hb3] at HK
          simp only [decide_eq_false_iff_not] at hb0 hb1 hb2 hb3
          go_wp2
          go_ret
          exact ⟨by rw [HK.out]; rfl, HA.out, HF.out⟩
        · rw [hb0, hb1, hb2, hb3] at HK
          simp only [decide_eq_false_iff_not, decide_eq_true_eq] at hb0 hb1 hb2 hb3
          go_wp2
          go_ret
          exact ⟨by rw [HK.out]; rfl, HA.out, HF.out⟩
      · rw [hb0, hb1, hb2] at HK
        simp only [decide_eq_false_iff_not, decide_eq_true_eq] at hb0 hb1 hb2
        go_wp2
        go_ret
        exact ⟨by rw [HK.out]; rfl, HA.out, HF.out⟩
    · rw [hb0, hb1] at HK
      simp only [decide_eq_false_iff_not, decide_eq_true_eq] at hb0 hb1
      go_wp2
      go_ret
      exact ⟨by rw [HK.out]; rfl, HA.out, HF.out⟩
  · rw [hb0] at HK
    simp only [decide_eq_true_eq] at hb0
    go_wp2
    go_ret
    exact ⟨by rw [HK.out]; rfl, HA.out, HF.out⟩
set_option maxRecDepth 100000 in
set_option maxHeartbeats 4000000 in
theorem dCheck_is (A : Option Addr) (n c : Nat) (l : List Ep) (w : World) (hr : RdE w w.heap.size A n l) (hn : n ≤ reach) {C : Int} (hC : ckE l = C) :
    Calls Try.prog 17 #[.slice A n c] w fun e w' => e = .returned (.int .i64 C) ∧ Below w.heap.size w w' := by
  have hn9 : n ≤ 140737488351232 := hn
  have HR := Lib.hid hr
  rw [ckE_lst] at hC
  rcases hg : goL ckP (fun _ x => x) ⟨1048577, 1099511627777⟩ 0 l.reverse with ⟨s1, r1⟩
  rw [hg] at hC
  have HG := Lib.hid hg
  have HW := Lib.hid (show (w.alloc (.cells #[.int .i64 1048577, .int .i64 1099511627777] 32)).heap.size = w.heap.size + 1 by simp)
  have HL := Lib.hid (lastS_is 34 #[.pointer (some ⟨w.heap.size, 0, none⟩)] (fun ys w => by go_simp) ckP (fun _ x => x) (fun s W => At0 W w.heap.size [.int .i64 s.ep, .int .i64 s.st] 32) ⟨1048577, 1099511627777⟩ 0 A n c w.heap.size l (w.alloc (.cells #[.int .i64 1048577, .int .i64 1099511627777] 32))
    (hr.below (belA w _) (Nat.le_refl _)) (belA w _).size hn9 (At0.new w [.int .i64 1048577, .int .i64 1099511627777] _) (fun s X Y h hb => (hb.block _ (by rw [HW.out]; omega)).trans h)
    (fun s x W h hb => ck1_is w.heap.size w.heap.size _ s x W h (Nat.le_refl _) (by rw [HW.out]; omega) hb.size) HG.out)
  clear hr hg hn hn9
  go_enter Try.func17, Try.ntmps17
  cases r1 with
  | none =>
    rw [if_pos rfl] at hC
    subst hC
    go_wp2_with (go_at_call 35; (with_reducible refine HL.out.mono ?_); rintro e w2 ⟨rfl, _, hb⟩; have HB := Lib.hid hb; clear hb; dsimp only [atL])
    go_ret
    exact ⟨rfl, (belA w _).trans HB.out⟩
  | some q =>
    obtain ⟨k, o⟩ := q
    rw [if_neg (by simp)] at hC
    subst hC
    have hk0 : (0 : Int) ≤ (k : Int) := by omega
    go_wp2_with (go_at_call 35; (with_reducible refine HL.out.mono ?_); rintro e w2 ⟨rfl, _, hb⟩; have HB := Lib.hid hb; clear hb; dsimp only [atL])
    go_ret
    exact ⟨rfl, (belA w _).trans HB.out⟩
theorem en1_is (g : Nat) (q : Int) (w : World) (x : Ep) (W : World) (h : w.cell? ⟨g, 0, none⟩ = some (.int .i64 q)) (hb : Below w.heap.size w W) :
    Calls Try.prog 36 (#[.agg #[.int .i64 x.ep, .int .i64 x.st]] ++ #[.pointer (some ⟨g, 0, none⟩)]) W fun e W2 => e = .returned (.bool (decide (x.ep ≤ q))) ∧ Below W.heap.size W W2 := by
  have hlt := World.block_lt_of_cell? w _ h
  have h1 := (hb.cell (p := ⟨g, 0, none⟩) hlt).trans h
  have hlt1 := World.block_lt_of_cell? W _ h1
  simp only at hlt1
  show Calls Try.prog 36 #[.agg #[.int .i64 x.ep, .int .i64 x.st], .pointer (some ⟨g, 0, none⟩)] W _
  clear hb h hlt
  go_enter Try.func36, Try.ntmps36
  go_wp2
  go_ret
  exact ⟨rfl, belA W _⟩
end Go.Proofs.Ytmjnleohchmadaa.Epo
