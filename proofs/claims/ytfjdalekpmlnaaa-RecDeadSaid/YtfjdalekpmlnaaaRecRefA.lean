/- The contracts of the document's own answers of layer 3: In, Check. -/
import Derived.Test.YtfjdalekpmlnaaaOctU8
import Derived.Test.YtfjdalekpmlnaaaRecMath2
namespace Go.Proofs.Ytfjdalekpmlnaaa.Rec
open Go.RowKit Go.Proofs.Ytfjdalekpmlnaaa.Oct

theorem refIn_any (n : Int) (w : World) {b : Bool} (hb : inR n = b) : Calls Try.prog 27 #[.int .i64 n] w fun e w' => e = .returned (.bool b) ∧ w = w' := by
  subst hb
  go_enter Try.func27, Try.ntmps27
  go_wp2
  all_goals go_ret
  all_goals refine ⟨?_, rfl⟩
  · rename_i h; exact ret_bool (by simp [inR, h])
  · rename_i h; exact ret_bool (by simp [inR]; omega)

theorem chk_no {r : Rc} (h : ¬ may r = true) : (if may r then (0 : Int) else 1) = 1 := if_neg h
theorem chk_yes {r : Rc} (h : may r = true) : (if may r then (0 : Int) else 1) = 0 := if_pos h
theorem empty_iff {k : ByteArray} : k.size = 0 ↔ k = ByteArray.empty := ByteArray.size_eq_zero_iff

theorem empty_tests {k : ByteArray} (h : k ≠ ByteArray.empty) : k.toList.isEmpty = false := by
  cases hb : k.toList.isEmpty with
  | false => rfl
  | true =>
    rw [Go.ByteArray.toList_eq, List.isEmpty_iff] at hb
    exact absurd (empty_iff.1 (by rw [← size_list, hb]; rfl)) h

set_option maxRecDepth 100000 in
theorem refCheck_any (o s : Int) (k v : ByteArray) (d : Bool) (w : World) (hk : k.size ≤ 1099511627776) (hv : v.size ≤ 1099511627776) : Calls Try.prog 17 #[.agg #[.int .i64 o, .string k, .string v, .bool d, .int .i64 s]] w fun e w' => e = .returned (.int .i64 (if may ⟨o, k, v, d, s⟩ then 0 else 1)) ∧ Below w.heap.size w w' := by
  rcases h1 : inR o with _ | _
  · have hm := Lib.hid (chk_no (r := ⟨o, k, v, d, s⟩) fun hh => by have := inR_iff.2 (may_iff.1 hh).1; simp only [h1] at this; cases this)
    rw [hm.out]
    go_enter Try.func17, Try.ntmps17
    go_wp2_with (go_at_call 27; refine (refIn_any _ _ h1).mono ?_; rintro e w9 ⟨rfl, rfl⟩)
    go_ret
    exact ⟨rfl, (Below.refl _ _).alloc (Nat.le_refl _) _⟩
  rcases h2 : inR s with _ | _
  · have hm := Lib.hid (chk_no (r := ⟨o, k, v, d, s⟩) fun hh => by have := inR_iff.2 (may_iff.1 hh).2.1; simp only [h2] at this; cases this)
    rw [hm.out]
    go_enter Try.func17, Try.ntmps17
    go_wp2_with (go_at_call 27; refine (refIn_any _ _ (by first | exact h1 | exact h2)).mono ?_; rintro e w9 ⟨rfl, rfl⟩)
    go_ret
    exact ⟨rfl, (Below.refl _ _).alloc (Nat.le_refl _) _⟩
  have g1 := inR_iff.1 h1
  have g2 := inR_iff.1 h2
  have c3 : ∀ n : Nat, ¬ 64 < n → decide (64 < (n : Int)) = false := fun n hn => by simp; omega
  by_cases h3 : 64 < k.size
  · have hm := Lib.hid (chk_no (r := ⟨o, k, v, d, s⟩) fun hh => by have := (may_iff.1 hh).2.2.1; simp only at this; omega)
    rw [hm.out]
    go_enter Try.func17, Try.ntmps17
    go_wp2_with (go_at_call 27; refine (refIn_any _ _ (by first | exact h1 | exact h2)).mono ?_; rintro e w9 ⟨rfl, rfl⟩)
    go_ret
    exact ⟨rfl, (Below.refl _ _).alloc (Nat.le_refl _) _⟩
  by_cases h4 : 64 < v.size
  · have hm := Lib.hid (chk_no (r := ⟨o, k, v, d, s⟩) fun hh => by have := (may_iff.1 hh).2.2.2.1; simp only at this; omega)
    rw [hm.out]
    go_enter Try.func17, Try.ntmps17
    go_wp2_with (go_at_call 27; refine (refIn_any _ _ (by first | exact h1 | exact h2)).mono ?_; rintro e w9 ⟨rfl, rfl⟩)
    go_ret
    exact ⟨rfl, (Below.refl _ _).alloc (Nat.le_refl _) _⟩
  have d3 := c3 _ h3
  have d4 := c3 _ h4
  clear c3
  rcases d with _ | _
  · have hm := Lib.hid (chk_yes (r := ⟨o, k, v, false, s⟩) (may_iff.2 ⟨g1, g2, by simp only; omega, by simp only; omega, fun hh => by cases hh⟩))
    rw [hm.out]
    go_enter Try.func17, Try.ntmps17
    go_wp2_with (go_at_call 27; refine (refIn_any _ _ (by first | exact h1 | exact h2)).mono ?_; rintro e w9 ⟨rfl, rfl⟩)
    go_ret
    exact ⟨rfl, (Below.refl _ _).alloc (Nat.le_refl _) _⟩
  by_cases h5 : k = ByteArray.empty
  · have hm := Lib.hid (chk_no (r := ⟨o, k, v, true, s⟩) fun hh => ((may_iff.1 hh).2.2.2.2 rfl).1 (empty_iff.2 h5))
    rw [hm.out]
    subst h5
    go_enter Try.func17, Try.ntmps17
    go_wp2_with (go_at_call 27; refine (refIn_any _ _ (by first | exact h1 | exact h2)).mono ?_; rintro e w9 ⟨rfl, rfl⟩)
    go_ret
    exact ⟨rfl, (Below.refl _ _).alloc (Nat.le_refl _) _⟩
  by_cases h6 : v = ByteArray.empty
  · have hm := Lib.hid (chk_yes (r := ⟨o, k, v, true, s⟩) (may_iff.2 ⟨g1, g2, by simp only; omega, by simp only; omega, fun _ => ⟨fun hz => h5 (empty_iff.1 hz), empty_iff.2 h6⟩⟩))
    rw [hm.out]
    subst h6
    have hk5 := empty_tests h5
    go_enter Try.func17, Try.ntmps17
    go_wp2_with (go_at_call 27; refine (refIn_any _ _ (by first | exact h1 | exact h2)).mono ?_; rintro e w9 ⟨rfl, rfl⟩)
    go_ret
    exact ⟨rfl, (Below.refl _ _).alloc (Nat.le_refl _) _⟩
  · have hm := Lib.hid (chk_no (r := ⟨o, k, v, true, s⟩) fun hh => h6 (empty_iff.1 ((may_iff.1 hh).2.2.2.2 rfl).2))
    rw [hm.out]
    have hk5 := empty_tests h5
    have hk6 := empty_tests h6
    go_enter Try.func17, Try.ntmps17
    go_wp2_with (go_at_call 27; refine (refIn_any _ _ (by first | exact h1 | exact h2)).mono ?_; rintro e w9 ⟨rfl, rfl⟩)
    go_ret
    exact ⟨rfl, (Below.refl _ _).alloc (Nat.le_refl _) _⟩
end Go.Proofs.Ytfjdalekpmlnaaa.Rec
