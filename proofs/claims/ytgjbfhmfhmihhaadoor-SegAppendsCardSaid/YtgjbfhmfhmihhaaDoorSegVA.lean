/- Joined: SegVA. -/
import Derived.Test.YtgjbfhmfhmihhaaDoorSegW
import Derived.Test.YtgjbfhmfhmihhaaDoorSegR3
/- The document's Append, its answer named. -/
namespace Go.Proofs.YtgjbfhmfhmihhaaDoor.Seg
open Go.RowKit Go.Proofs.YtgjbfhmfhmihhaaDoor.Oct Go.Proofs.YtgjbfhmfhmihhaaDoor.Rec Go.Proofs.YtgjbfhmfhmihhaaDoor.Crc Go.Proofs.YtgjbfhmfhmihhaaDoor.Bat Go.Proofs.YtgjbfhmfhmihhaaDoor.Lay

section
variable {A : Option Addr} {n c : Nat} {base : Int} {bs : List UInt8} {w : World} {xb xe : Int} {xs : List UInt8}
theorem refAppend_is {ba la fr ep pi ge se : Int} {tx : Bool} {ct : Int} {rs : List Rc} {A4 : Option Addr} {n4 c4 : Nat} {limit : Int} (h : apS ⟨base, bs⟩ ⟨ba, la, fr, ep, pi, ge, se, tx, ct, rs⟩ limit = (⟨xb, xs⟩, xe)) (hr : Rd w w.heap.size A n bs) (hc : n ≤ c) (hn : n ≤ 137438953472) (hI : I64 base)
    (hf : Fits ⟨ba, la, fr, ep, pi, ge, se, tx, ct, rs⟩) (hrb : RdR w w.heap.size A4 n4 rs) (hn4 : n4 ≤ 1099511627776) :
    Calls Tryd.prog 26 #[.agg #[.int .i64 base, .slice A n c], .agg #[.int .i64 ba, .int .i64 la, .int .i64 fr, .int .i64 ep, .int .i64 pi, .int .i64 ge, .int .i64 se, .bool tx, .int .i64 ct, .slice A4 n4 c4], .int .i64 limit] w (TSg w xb xs xe) := by
  have h1 := refAppend_any A n c base bs ba la fr ep pi ge se tx ct rs A4 n4 c4 limit w hr hc hn hI hf hrb hn4
  rw [h] at h1
  exact h1
end
end Go.Proofs.YtgjbfhmfhmihhaaDoor.Seg
