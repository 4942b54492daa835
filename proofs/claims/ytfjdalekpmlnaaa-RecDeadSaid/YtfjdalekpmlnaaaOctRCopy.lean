/- The contract of the document's Copy. -/
import Derived.Test.YtfjdalekpmlnaaaOctU8
namespace Go.Proofs.Ytfjdalekpmlnaaa.Oct
open Go.RowKit

theorem Copy_any (A : Option Addr) (n c : Nat) (l : List UInt8) (B : Nat) (w : World) (hr : Rd w B A n l) (hn : n ≤ 549755813888) :
    Calls Try.prog 46 #[.slice A n c] w (RB 5 w.heap.size w l) := by
  have hI := u8row
  go_enter Try.func46, Try.ntmps46
  go_wp2_with (at_builtin; refine wpList_appB _ rfl _ _ 26 rfl w.heap.size 5 Try.underlying26 hI _ 0 [] rfl OwnB.nil B A n c l rfl hr (by omega) (Nat.le_refl _) ?_; intro A2 c2 w2 hown2 hb2)
  go_ret
  exact ⟨A2, n, c2, rfl, by simpa using hown2, hb2⟩

end Go.Proofs.Ytfjdalekpmlnaaa.Oct
