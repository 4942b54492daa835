/- Joined: SegWC. -/
import Derived.Test.YtgjbfhmfhmihhaaDoorSegW
import Derived.Test.YtgjbfhmfhmihhaaDoorSegC
/- The landed Cut, its answer named. -/
namespace Go.Proofs.YtgjbfhmfhmihhaaDoor.Seg
open Go.RowKit Go.Proofs.YtgjbfhmfhmihhaaDoor.Oct Go.Proofs.YtgjbfhmfhmihhaaDoor.Rec Go.Proofs.YtgjbfhmfhmihhaaDoor.Crc Go.Proofs.YtgjbfhmfhmihhaaDoor.Bat Go.Proofs.YtgjbfhmfhmihhaaDoor.Lay

section
variable {A : Option Addr} {n c : Nat} {base : Int} {bs : List UInt8} {w : World} {xb xe : Int} {xs : List UInt8}
theorem Cut_is {off : Int} (h : cutS ⟨base, bs⟩ off = ⟨xb, xs⟩) (hr : Rd w w.heap.size A n bs) (hc : n ≤ c) (hn : n ≤ 137438953472) (hI : I64 base) (ht : Tab w) :
    Calls Tryd.prog 32 #[.agg #[.int .i64 base, .slice A n c], .int .i64 off] w (TS w xb xs) := by
  have h1 := Cut_any A n c base off bs w hr hc hn hI ht
  rw [h] at h1
  exact h1
end
end Go.Proofs.YtgjbfhmfhmihhaaDoor.Seg
