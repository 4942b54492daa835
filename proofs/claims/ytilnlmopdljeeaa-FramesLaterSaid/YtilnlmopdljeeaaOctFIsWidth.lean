/- The contract of octet.IsWidth. -/
import Derived.Test.YtilnlmopdljeeaaOctU8
namespace Go.Proofs.Ytilnlmopdljeeaa.Oct
open Go.RowKit

theorem isWidth_any (k : Int) (w : World) : Calls Try.prog 26 #[.int .i64 k] w fun e w' => e = .returned (.bool (isW k)) ∧ w = w' := by
  go_enter Try.func26, Try.ntmps26
  go_wp2
  all_goals go_ret
  all_goals refine ⟨?_, rfl⟩
  · rename_i h; exact ret_bool (by simp [isW, h])
  · rename_i h; exact ret_bool (by simp [isW]; omega)

end Go.Proofs.Ytilnlmopdljeeaa.Oct
