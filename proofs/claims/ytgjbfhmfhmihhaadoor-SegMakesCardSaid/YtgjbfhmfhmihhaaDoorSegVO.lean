/- Joined: SegVO. -/
import Derived.Test.YtgjbfhmfhmihhaaDoorSegW
import Derived.Test.YtgjbfhmfhmihhaaDoorSegR4
import Derived.Test.YtgjbfhmfhmihhaaDoorSegR5
/- The document's Of and Cut, their answers named. -/
namespace Go.Proofs.YtgjbfhmfhmihhaaDoor.Seg
open Go.RowKit Go.Proofs.YtgjbfhmfhmihhaaDoor.Oct Go.Proofs.YtgjbfhmfhmihhaaDoor.Rec Go.Proofs.YtgjbfhmfhmihhaaDoor.Crc Go.Proofs.YtgjbfhmfhmihhaaDoor.Bat Go.Proofs.YtgjbfhmfhmihhaaDoor.Lay

section
variable {A : Option Addr} {n c : Nat} {base : Int} {bs : List UInt8} {w : World} {xb xe : Int} {xs : List UInt8}
theorem refOf_is {L : List Bt} {limit : Int} (h : ofS base L limit = (⟨xb, xs⟩, xe)) (hr : RdT w w.heap.size A n L) (hn : n ≤ 1099511627776) (hI : I64 base) :
    Calls Tryd.prog 29 #[.int .i64 base, .slice A n c, .int .i64 limit] w (TSg w xb xs xe) := by
  have h1 := refOf_any base A n c L limit w hr hn hI
  rw [h] at h1
  exact h1
theorem refCut_is {off : Int} (h : cutS ⟨base, bs⟩ off = ⟨xb, xs⟩) (hr : Rd w w.heap.size A n bs) (hc : n ≤ c) (hn : n ≤ 137438953472) (hI : I64 base) :
    Calls Tryd.prog 33 #[.agg #[.int .i64 base, .slice A n c], .int .i64 off] w (TS w xb xs) := by
  have h1 := refCut_any A n c base off bs w hr hc hn hI
  rw [h] at h1
  exact h1
end
end Go.Proofs.YtgjbfhmfhmihhaaDoor.Seg
