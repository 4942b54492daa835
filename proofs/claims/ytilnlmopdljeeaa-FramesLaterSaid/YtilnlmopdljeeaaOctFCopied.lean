/- The contract of octet.Copied. -/
import Derived.Test.YtilnlmopdljeeaaOctU8
namespace Go.Proofs.Ytilnlmopdljeeaa.Oct
open Go.RowKit

theorem copied_any (A : Option Addr) (n c : Nat) (k : Int) (l : List UInt8) (B : Nat) (w : World) (hr : Rd w B A n l) (hB : B ≤ w.heap.size) (hn : n ≤ 549755813888) (hk0 : 0 ≤ k) (hk : k ≤ 549755813888) :
    Calls Try.prog 28 #[.slice A n c, .int .i64 k] w (RB 5 w.heap.size w l) := by
  have hI := u8row
  obtain ⟨m, rfl⟩ : ∃ m : Nat, k = (m : Int) := ⟨k.toNat, by omega⟩
  go_enter Try.func28, Try.ntmps28
  go_wp2_with (first | (at_make; refine wpList_mkB _ rfl _ _ 22 rfl 5 Try.underlying22 hI _ _ _ (n + m) rfl rfl (by omega) (by omega) ?_; intro A1 c1 w1 hown1 hb1) | (at_builtin; refine wpList_appB _ rfl _ _ 22 rfl w.heap.size 5 Try.underlying22 hI _ 0 [] rfl hown1 B A n c l rfl (hr.below hb1 hB) (by omega) hb1.size ?_; intro A2 c2 w2 hown2 hb2))
  go_ret
  exact ⟨A2, n, c2, rfl, by simpa using hown2, hb1.trans hb2⟩

end Go.Proofs.Ytilnlmopdljeeaa.Oct
