/- Joined: SegRS. -/
import Derived.Test.YtgjbfhmfhmihhaaDoorSegMath
import Derived.Test.YtgjbfhmfhmihhaaDoorBatRow
import Derived.Test.YtgjbfhmfhmihhaaDoorJOct
import Derived.Deep.RegionHeld3
import Derived.LoopTactic
/- The document's SameAll of batches, Same and Few of segments. -/
namespace Go.Proofs.YtgjbfhmfhmihhaaDoor.Seg
open Go.RowKit Go.Proofs.YtgjbfhmfhmihhaaDoor.Oct Go.Proofs.YtgjbfhmfhmihhaaDoor.Rec Go.Proofs.YtgjbfhmfhmihhaaDoor.Crc Go.Proofs.YtgjbfhmfhmihhaaDoor.Bat

theorem refSameS_is (b1 : Int) (A1 : Option Addr) (n1 c1 : Nat) (b2 : Int) (A2 : Option Addr) (n2 c2 : Nat) (l1 l2 : List UInt8) (w : World) (h1 : Rd w w.heap.size A1 n1 l1) (h2 : Rd w w.heap.size A2 n2 l2) {z : Bool} (hz : (decide (b1 = b2) && sameB l1 l2) = z) :
    Calls Tryd.prog 22 #[.agg #[.int .i64 b1, .slice A1 n1 c1], .agg #[.int .i64 b2, .slice A2 n2 c2]] w fun e w' => e = .returned (.bool z) ∧ Below w.heap.size w w' := by
  have H1 := Lib.hid ((h1.alloc (Nat.le_refl _) (.cells #[.int .i64 b1, .slice A1 n1 c1] 24)).alloc (by simp) (.cells #[.int .i64 b2, .slice A2 n2 c2] 24))
  have H2 := Lib.hid ((h2.alloc (Nat.le_refl _) (.cells #[.int .i64 b1, .slice A1 n1 c1] 24)).alloc (by simp) (.cells #[.int .i64 b2, .slice A2 n2 c2] 24))
  clear h1 h2
  by_cases hb : b1 = b2
  · subst hb
    have HZ := Lib.hid (show sameB l1 l2 = z by rw [← hz]; simp)
    clear hz
    go_enter Tryd.func22, Tryd.ntmps22
    go_wp2_with (go_at_call 23; refine (Same_any _ _ _ _ _ _ l1 l2 _ _ _ H1.out H2.out).mono ?_; rw [HZ.out]; rintro e w' ⟨rfl, rfl⟩)
    go_ret
    exact ⟨rfl, bel_alloc (bel_alloc (Below.refl _ _) _) _⟩
  · have HZ := Lib.hid (show z = false by rw [← hz]; simp [hb])
    have hq : (b1 == b2) = false := beq_false_of_ne hb
    clear hz hb
    go_enter Tryd.func22, Tryd.ntmps22
    go_wp2
    go_ret
    exact ⟨by rw [HZ.out]; rfl, bel_alloc (bel_alloc (Below.refl _ _) _) _⟩
theorem refFewS_is (b1 : Int) (A1 : Option Addr) (n1 c1 : Nat) (w : World) {z : Bool} (hz : decide ((n1 : Int) ≤ 9000) = z) :
    Calls Tryd.prog 13 #[.agg #[.int .i64 b1, .slice A1 n1 c1]] w fun e w' => e = .returned (.bool z) ∧ Below w.heap.size w w' := by
  have HZ := Lib.hid hz
  clear hz
  go_enter Tryd.func13, Tryd.ntmps13
  go_wp2
  go_ret
  exact ⟨by rw [← HZ.out]; rfl, bel_alloc (Below.refl _ _) _⟩
end Go.Proofs.YtgjbfhmfhmihhaaDoor.Seg
