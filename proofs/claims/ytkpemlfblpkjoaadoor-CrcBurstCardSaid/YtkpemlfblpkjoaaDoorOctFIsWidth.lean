/- The contract of octet.IsWidth. -/
import Derived.Test.YtkpemlfblpkjoaaDoorOctU8
namespace Go.Proofs.YtkpemlfblpkjoaaDoor.Oct
open Go.RowKit

theorem isWidth_any (k : Int) (w : World) : Calls Tryd.prog 29 #[.int .i64 k] w fun e w' => e = .returned (.bool (isW k)) ∧ w = w' := by
  go_enter Tryd.func29, Tryd.ntmps29
  go_wp2
  all_goals go_ret
  all_goals refine ⟨?_, rfl⟩
  · rename_i h; exact ret_bool (by simp [isW, h])
  · rename_i h; exact ret_bool (by simp [isW]; omega)

end Go.Proofs.YtkpemlfblpkjoaaDoor.Oct
