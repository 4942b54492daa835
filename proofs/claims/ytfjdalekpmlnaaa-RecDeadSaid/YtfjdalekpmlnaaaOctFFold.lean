/- The contract of octet.Fold. -/
import Derived.Test.YtfjdalekpmlnaaaOctU8
namespace Go.Proofs.Ytfjdalekpmlnaaa.Oct
open Go.RowKit

theorem fold_any (n : Int) (w : World) (h1 : -9223372036854775808 ≤ n) (h2 : n ≤ 9223372036854775807) :
    Calls Try.prog 50 #[.int .i64 n] w fun e w' => e = .returned (.int .u64 (zz n)) ∧ w = w' := by
  have H := Lib.hid (fold_num n ⟨h1, h2⟩)
  go_enter Try.func50, Try.ntmps50
  go_wp2
  go_ret
  exact ⟨ret_int H.out, rfl⟩

end Go.Proofs.Ytfjdalekpmlnaaa.Oct
