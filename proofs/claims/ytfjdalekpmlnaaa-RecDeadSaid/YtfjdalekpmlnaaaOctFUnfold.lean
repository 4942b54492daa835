/- The contract of octet.Unfold. -/
import Derived.Test.YtfjdalekpmlnaaaOctU8
namespace Go.Proofs.Ytfjdalekpmlnaaa.Oct
open Go.RowKit

theorem unfold_any (u : Nat) (w : World) (h : u < 18446744073709551616) :
    Calls Try.prog 48 #[.int .u64 (u : Int)] w fun e w' => e = .returned (.int .i64 (uz u)) ∧ w = w' := by
  have H := Lib.hid (unfold_num u h)
  have hb : (u : Int) / 2 ≤ 9223372036854775807 := by omega
  clear h
  go_enter Try.func48, Try.ntmps48
  go_wp2
  go_ret
  exact ⟨ret_int H.out, rfl⟩

theorem unfold_at (y : Int) (u : Nat) (hy : y = (u : Int)) (w : World) (h : u < 18446744073709551616) :
    Calls Try.prog 48 #[.int .u64 y] w fun e w' => e = .returned (.int .i64 (uz u)) ∧ w = w' := by subst hy; exact unfold_any u w h

end Go.Proofs.Ytfjdalekpmlnaaa.Oct
