/- Joined: SegWO. -/
import Derived.Test.YtgjbfhmfhmihhaaDoorSegW
import Derived.Test.YtgjbfhmfhmihhaaDoorSegO
/- The landed Of, its answer named. -/
namespace Go.Proofs.YtgjbfhmfhmihhaaDoor.Seg
open Go.RowKit Go.Proofs.YtgjbfhmfhmihhaaDoor.Oct Go.Proofs.YtgjbfhmfhmihhaaDoor.Rec Go.Proofs.YtgjbfhmfhmihhaaDoor.Crc Go.Proofs.YtgjbfhmfhmihhaaDoor.Bat Go.Proofs.YtgjbfhmfhmihhaaDoor.Lay

section
variable {A : Option Addr} {n c : Nat} {base : Int} {bs : List UInt8} {w : World} {xb xe : Int} {xs : List UInt8}
theorem Of_is {L : List Bt} {limit : Int} (h : ofS base L limit = (⟨xb, xs⟩, xe)) (hr : RdT w w.heap.size A n L) (hn : n ≤ 1099511627776) (hI : I64 base) (ht : Tab w) :
    Calls Tryd.prog 28 #[.int .i64 base, .slice A n c, .int .i64 limit] w (TSg w xb xs xe) := by
  have h1 := Of_any base A n c L limit w hr hn hI ht
  rw [h] at h1
  exact h1
end
end Go.Proofs.YtgjbfhmfhmihhaaDoor.Seg
