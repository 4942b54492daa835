/- The contracts of the landed rec's Check, and of what it calls. -/
import Derived.Test.YtfjdalekpmlnaaaRecRefA
namespace Go.Proofs.Ytfjdalekpmlnaaa.Rec
open Go.RowKit Go.Proofs.Ytfjdalekpmlnaaa.Oct

/-- what Check tells -/
def chk (r : Rc) : Int := if may r then 0 else 1
theorem chk_open (r : Rc) : chk r = if may r then 0 else 1 := rfl
def tx64 (s : ByteArray) : Bool := decide ((s.size : Int) ≤ 64)
theorem tx64_no {s : ByteArray} (h : 64 < s.size) : tx64 s = false := by unfold tx64; simp; omega
theorem tx64_yes {s : ByteArray} (h : ¬ 64 < s.size) : tx64 s = true := by unfold tx64; simp; omega

theorem inRange_any (n : Int) (w : World) {b : Bool} (hb : inR n = b) : Calls Try.prog 22 #[.int .i64 n] w fun e w' => e = .returned (.bool b) ∧ w = w' := by
  subst hb
  go_enter Try.func22, Try.ntmps22
  go_wp2
  all_goals go_ret
  all_goals refine ⟨?_, rfl⟩
  · rename_i h; exact ret_bool (by simp [inR, h])
  · rename_i h; exact ret_bool (by simp [inR]; omega)

theorem isText_any (s : ByteArray) (w : World) {b : Bool} (hb : tx64 s = b) : Calls Try.prog 30 #[.string s] w fun e w' => e = .returned (.bool b) ∧ w = w' := by
  subst hb
  go_enter Try.func30, Try.ntmps30
  go_wp2
  go_ret
  exact ⟨rfl, rfl⟩

theorem flag_any (d : Bool) (w : World) : Calls Try.prog 25 #[.bool d] w fun e w' => e = .returned (.int .u64 ((fl d).toNat : Int)) ∧ w = w' := by
  rcases d with _ | _
  all_goals
    go_enter Try.func25, Try.ntmps25
    go_wp2
    go_ret
    exact ⟨rfl, rfl⟩

set_option maxRecDepth 100000 in
theorem Check_we (o s : Int) (k v : ByteArray) (d : Bool) (w : World) (hk : k.size ≤ 1099511627776) (hv : v.size ≤ 1099511627776) : Calls Try.prog 16 #[.agg #[.int .i64 o, .string k, .string v, .bool d, .int .i64 s]] w fun e w' => e = .returned (.int .i64 (chk ⟨o, k, v, d, s⟩)) ∧ w.alloc (.cells #[.int .i64 o, .string k, .string v, .bool d, .int .i64 s] 23) = w' := by
  rcases h1 : inR o with _ | _
  · have hm := Lib.hid (chk_no (r := ⟨o, k, v, d, s⟩) fun hh => by have := inR_iff.2 (may_iff.1 hh).1; simp only [h1] at this; cases this)
    first | rw [show chk _ = _ from hm.out] | rw [chk_open, hm.out]
    go_enter Try.func16, Try.ntmps16
    go_wp2_with (go_at_call 22; refine (inRange_any _ _ h1).mono ?_; rintro e w9 ⟨rfl, rfl⟩)
    go_ret
    exact ⟨rfl, rfl⟩
  rcases h2 : inR s with _ | _
  · have hm := Lib.hid (chk_no (r := ⟨o, k, v, d, s⟩) fun hh => by have := inR_iff.2 (may_iff.1 hh).2.1; simp only [h2] at this; cases this)
    first | rw [show chk _ = _ from hm.out] | rw [chk_open, hm.out]
    go_enter Try.func16, Try.ntmps16
    go_wp2_with (first | (go_at_call 22; refine (inRange_any _ _ (by first | exact h1 | exact h2)).mono ?_; rintro e w9 ⟨rfl, rfl⟩) | (go_at_call 30; refine (isText_any _ _ (by first | exact t3 | exact t4)).mono ?_; rintro e w8 ⟨rfl, rfl⟩))
    go_ret
    exact ⟨rfl, rfl⟩
  have g1 := inR_iff.1 h1
  have g2 := inR_iff.1 h2
  by_cases h3 : 64 < k.size
  · have t3 := tx64_no h3
    have hm := Lib.hid (chk_no (r := ⟨o, k, v, d, s⟩) fun hh => by have := (may_iff.1 hh).2.2.1; simp only at this; omega)
    clear h3
    first | rw [show chk _ = _ from hm.out] | rw [chk_open, hm.out]
    go_enter Try.func16, Try.ntmps16
    go_wp2_with (first | (go_at_call 22; refine (inRange_any _ _ (by first | exact h1 | exact h2)).mono ?_; rintro e w9 ⟨rfl, rfl⟩) | (go_at_call 30; refine (isText_any _ _ (by first | exact t3 | exact t4)).mono ?_; rintro e w8 ⟨rfl, rfl⟩))
    go_ret
    exact ⟨rfl, rfl⟩
  have t3 := tx64_yes h3
  by_cases h4 : 64 < v.size
  · have t4 := tx64_no h4
    have hm := Lib.hid (chk_no (r := ⟨o, k, v, d, s⟩) fun hh => by have := (may_iff.1 hh).2.2.2.1; simp only at this; omega)
    clear h4
    first | rw [show chk _ = _ from hm.out] | rw [chk_open, hm.out]
    go_enter Try.func16, Try.ntmps16
    go_wp2_with (first | (go_at_call 22; refine (inRange_any _ _ (by first | exact h1 | exact h2)).mono ?_; rintro e w9 ⟨rfl, rfl⟩) | (go_at_call 30; refine (isText_any _ _ (by first | exact t3 | exact t4)).mono ?_; rintro e w8 ⟨rfl, rfl⟩))
    go_ret
    exact ⟨rfl, rfl⟩
  have t4 := tx64_yes h4
  rcases d with _ | _
  · have hm := Lib.hid (chk_yes (r := ⟨o, k, v, false, s⟩) (may_iff.2 ⟨g1, g2, by simp only; omega, by simp only; omega, fun hh => by cases hh⟩))
    first | rw [show chk _ = _ from hm.out] | rw [chk_open, hm.out]
    go_enter Try.func16, Try.ntmps16
    go_wp2_with (first | (go_at_call 22; refine (inRange_any _ _ (by first | exact h1 | exact h2)).mono ?_; rintro e w9 ⟨rfl, rfl⟩) | (go_at_call 30; refine (isText_any _ _ (by first | exact t3 | exact t4)).mono ?_; rintro e w8 ⟨rfl, rfl⟩))
    go_ret
    exact ⟨rfl, rfl⟩
  by_cases h5 : k = ByteArray.empty
  · have hm := Lib.hid (chk_no (r := ⟨o, k, v, true, s⟩) fun hh => ((may_iff.1 hh).2.2.2.2 rfl).1 (empty_iff.2 h5))
    first | rw [show chk _ = _ from hm.out] | rw [chk_open, hm.out]
    subst h5
    go_enter Try.func16, Try.ntmps16
    go_wp2_with (first | (go_at_call 22; refine (inRange_any _ _ (by first | exact h1 | exact h2)).mono ?_; rintro e w9 ⟨rfl, rfl⟩) | (go_at_call 30; refine (isText_any _ _ (by first | exact t3 | exact t4)).mono ?_; rintro e w8 ⟨rfl, rfl⟩))
    go_ret
    exact ⟨rfl, rfl⟩
  by_cases h6 : v = ByteArray.empty
  · have hm := Lib.hid (chk_yes (r := ⟨o, k, v, true, s⟩) (may_iff.2 ⟨g1, g2, by simp only; omega, by simp only; omega, fun _ => ⟨fun hz => h5 (empty_iff.1 hz), empty_iff.2 h6⟩⟩))
    first | rw [show chk _ = _ from hm.out] | rw [chk_open, hm.out]
    subst h6
    have hk5 := empty_tests h5
    go_enter Try.func16, Try.ntmps16
    go_wp2_with (first | (go_at_call 22; refine (inRange_any _ _ (by first | exact h1 | exact h2)).mono ?_; rintro e w9 ⟨rfl, rfl⟩) | (go_at_call 30; refine (isText_any _ _ (by first | exact t3 | exact t4)).mono ?_; rintro e w8 ⟨rfl, rfl⟩))
    go_ret
    exact ⟨rfl, rfl⟩
  · have hm := Lib.hid (chk_no (r := ⟨o, k, v, true, s⟩) fun hh => h6 (empty_iff.1 ((may_iff.1 hh).2.2.2.2 rfl).2))
    first | rw [show chk _ = _ from hm.out] | rw [chk_open, hm.out]
    have hk5 := empty_tests h5
    have hk6 := empty_tests h6
    go_enter Try.func16, Try.ntmps16
    go_wp2_with (first | (go_at_call 22; refine (inRange_any _ _ (by first | exact h1 | exact h2)).mono ?_; rintro e w9 ⟨rfl, rfl⟩) | (go_at_call 30; refine (isText_any _ _ (by first | exact t3 | exact t4)).mono ?_; rintro e w8 ⟨rfl, rfl⟩))
    go_ret
    exact ⟨rfl, rfl⟩
theorem Check_at (o s : Int) (k v : ByteArray) (d : Bool) (w : World) (hk : k.size ≤ 1099511627776) (hv : v.size ≤ 1099511627776) : Calls Try.prog 16 #[.agg #[.int .i64 o, .string k, .string v, .bool d, .int .i64 s]] w fun e w' => e = .returned (.int .i64 (chk ⟨o, k, v, d, s⟩)) ∧ Below w.heap.size w w' :=
  (Check_we o s k v d w hk hv).mono fun _ _ h => ⟨h.1, h.2 ▸ (Below.refl _ _).alloc (Nat.le_refl _) _⟩
end Go.Proofs.Ytfjdalekpmlnaaa.Rec
