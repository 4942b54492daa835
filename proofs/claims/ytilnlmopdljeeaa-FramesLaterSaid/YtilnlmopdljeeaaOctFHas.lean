/- The contract of octet.Has. -/
import Derived.Test.YtilnlmopdljeeaaOctU8
namespace Go.Proofs.Ytilnlmopdljeeaa.Oct
open Go.RowKit

theorem has_any (A : Option Addr) (n c : Nat) (k m : Int) (w : World) (hn : n ≤ 9223372036854775807) (hk0 : 0 ≤ k) :
    Calls Try.prog 27 #[.slice A n c, .int .i64 k, .int .i64 m] w fun e w' => e = .returned (.bool (hasB n k m)) ∧ w = w' := by
  go_enter Try.func27, Try.ntmps27
  go_wp2
  all_goals go_ret
  all_goals refine ⟨?_, rfl⟩
  · rename_i h; exact ret_bool (by simp [hasB, h])
  · rename_i h; exact ret_bool (by simp [hasB]; omega)

end Go.Proofs.Ytilnlmopdljeeaa.Oct
