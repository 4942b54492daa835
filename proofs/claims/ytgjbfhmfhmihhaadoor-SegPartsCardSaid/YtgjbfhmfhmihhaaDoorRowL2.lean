/- Joined: RowL2. -/
import Derived.Test.YtgjbfhmfhmihhaaDoorRowL
import Derived.RangeFuncBox
import Derived.RangeFuncCalls
/- More words for rows of slices, and for a call's own boxes: what stays when a block that is no cells is turned; one slice more, as a run. Nothing of the program. -/
namespace Go.Proofs.YtgjbfhmfhmihhaaDoor.RowL
open Go.RowKit Go.Proofs.YtgjbfhmfhmihhaaDoor.Oct Go.Proofs.YtgjbfhmfhmihhaaDoor.RowF Go.Proofs.YtgjbfhmfhmihhaaDoor.Lay

section
variable {W W' : World} {e t : TypeId} {P : Nat → Prop} {B n : Nat} {v u : Value} {L : List (List UInt8)}
theorem boxed_below (h : Boxed W B t v) (hb : Below W.heap.size W W') : Boxed W' B t v := (hb.block B h.lt).trans h
theorem boxed_set2 {k : Nat} (h : Boxed W B t v) (u : Value) (hk : k ≠ B) : Boxed (W.setCell ⟨k, 0, none⟩ u) B t v := h.kept (grownBy_setCell' W k u) (by intro he; injection he with he; exact hk he.symm)
end
theorem below_others {W W' : World} (h : Below W.heap.size W W') : KeepsOthers W W' := ⟨h.size, fun k _o hk _ => (h.block k (Array.getElem?_eq_some_iff.1 hk).1).trans hk⟩
end Go.Proofs.YtgjbfhmfhmihhaaDoor.RowL
