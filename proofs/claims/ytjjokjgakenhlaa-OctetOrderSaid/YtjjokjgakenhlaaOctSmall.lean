/- The walk of OctetSmall. -/
import Derived.Test.YtjjokjgakenhlaaOctLive
namespace Go.Proofs.Ytjjokjgakenhlaa.Oct
open Go.RowKit

theorem PutVar_nil (x : Int) (w : World) (h1 : -9223372036854775808 ≤ x) (h2 : x ≤ 9223372036854775807) :
    Calls Try.prog 21 #[.slice none 0 0, .int .i64 x] w (RB 5 w.heap.size w (vb (zz x))) :=
  PutVar_any none 0 0 x [] 0 w Rd.nil (Nat.zero_le _) (by omega) h1 h2

theorem small_one (m : Int) : (vb (zz m)).length = 1 ↔ -64 ≤ m ∧ m ≤ 63 := by
  rw [vb_one]; unfold zz; split <;> omega

theorem small_facts {m n : Int} {n2 n3 : Nat} (hm : -9223372036854775808 ≤ m ∧ m ≤ 9223372036854775807) (h2 : (vb (zz m)).length = n2) :
    1 ≤ n2 ∧ n2 ≤ 10 ∧ (n2 = 1 ↔ -64 ≤ m ∧ m ≤ 63) ∧ ((vb (zz n)).length = n3 → (0 ≤ m ∧ m ≤ n ∨ m < 0 ∧ n ≤ m) → n2 ≤ n3) := by
  subst h2
  refine ⟨vb_pos _, vb_ten (zz_lt hm), small_one m, ?_⟩
  rintro rfl h
  exact vb_mono _ _ (zz_mono h)

set_option maxRecDepth 100000 in
set_option maxHeartbeats 400000 in
theorem octetSmall_walk (m n : Int) (w : World) (hm1 : -9223372036854775808 ≤ m) (hm2 : m ≤ 9223372036854775807) (hn1 : -9223372036854775808 ≤ n) (hn2 : n ≤ 9223372036854775807) :
    Calls Try.prog 10 #[.int .i64 m, .int .i64 n] w fun e w' => e = .returned (.bool true) ∧ Below w.heap.size w w' := by
  have HM := Lib.hid (And.intro hm1 hm2)
  have HN := Lib.hid (And.intro hn1 hn2)
  clear hm1 hm2 hn1 hn2
  rcases (show (-64 ≤ m ∧ m ≤ 63) ∨ m < -64 ∨ 63 < m by omega) with ⟨hc1, hc2⟩ | hc1 | hc1
  all_goals
    go_enter Try.func10, Try.ntmps10
    go_wp2_with (first | (go_at_call 11; refine (live_any _).mono ?_; rintro e w1 ⟨rfl, hb1⟩) | (go_at_call 21; (with_reducible refine (PutVar_nil m _ HM.out.1 HM.out.2).mono ?_); rintro e w2 ⟨A2, n2, c2, rfl, hown2, hb2⟩; obtain ⟨g1, g2, g3, g4⟩ := small_facts (n := n) (n3 := 0) HM.out hown2.len; (first | have G3 : ((n2 : Int) == 1) = true := beqT (by omega) | have G3 : ((n2 : Int) == 1) = false := beqF (by omega)); clear g3 g4) | (go_at_call 21; (with_reducible refine (PutVar_nil n _ HN.out.1 HN.out.2).mono ?_); rintro e w3 ⟨A3, n3, c3, rfl, hown3, hb3⟩))
  all_goals go_ret
  all_goals refine ⟨?_, bel_trans (bel_trans hb1 hb2) hb3⟩
  all_goals first | rfl | exact ret_bool (decide_eq_true ((small_facts (n := n) HM.out hown2.len).2.2.2 hown3.len (by omega)))
end Go.Proofs.Ytjjokjgakenhlaa.Oct
