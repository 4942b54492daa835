/- Joined: SegVS. -/
import Derived.Test.YtgjbfhmfhmihhaaDoorSegW
import Derived.Test.YtgjbfhmfhmihhaaDoorSegR2
/- The document's Scan, End, New and Fix, their answers named. -/
namespace Go.Proofs.YtgjbfhmfhmihhaaDoor.Seg
open Go.RowKit Go.Proofs.YtgjbfhmfhmihhaaDoor.Oct Go.Proofs.YtgjbfhmfhmihhaaDoor.Rec Go.Proofs.YtgjbfhmfhmihhaaDoor.Crc Go.Proofs.YtgjbfhmfhmihhaaDoor.Bat Go.Proofs.YtgjbfhmfhmihhaaDoor.Lay

section
variable {A : Option Addr} {n c : Nat} {base : Int} {bs : List UInt8} {w : World} {xb xe : Int} {xs : List UInt8}
theorem refScan_is {L : List Bt} {g : Nat} (h : sc base bs = (L, g)) (hr : Rd w w.heap.size A n bs) (hc : n ≤ c) (hn : n ≤ 137438953472) (hI : I64 base) :
    Calls Tryd.prog 16 #[.agg #[.int .i64 base, .slice A n c]] w (RSc w L g) := by
  have h1 := refScan_any A n c base bs w hr hc hn hI
  rw [h] at h1
  exact h1
theorem refEnd_is {E : Int} (h : endS ⟨base, bs⟩ = E) (hr : Rd w w.heap.size A n bs) (hc : n ≤ c) (hn : n ≤ 137438953472) (hI : I64 base) :
    Calls Tryd.prog 21 #[.agg #[.int .i64 base, .slice A n c]] w fun e w' => e = .returned (.int .i64 E) ∧ Below w.heap.size w w' := by
  subst h; exact refEnd_any A n c base bs w hr hc hn hI
theorem refNew_is (h : newS base = (⟨xb, xs⟩, xe)) : Calls Tryd.prog 31 #[.int .i64 base] w (TSg w xb xs xe) := by
  have h1 := refNew_any base w
  rw [h] at h1
  exact h1
theorem refFix_is (h : fixS ⟨base, bs⟩ = (⟨xb, xs⟩, xe)) (hr : Rd w w.heap.size A n bs) (hc : n ≤ c) (hn : n ≤ 137438953472) (hI : I64 base) :
    Calls Tryd.prog 18 #[.agg #[.int .i64 base, .slice A n c]] w (TSg w xb xs xe) := by
  have h1 := refFix_any A n c base bs w hr hc hn hI
  rw [h] at h1
  exact h1
end
end Go.Proofs.YtgjbfhmfhmihhaaDoor.Seg
