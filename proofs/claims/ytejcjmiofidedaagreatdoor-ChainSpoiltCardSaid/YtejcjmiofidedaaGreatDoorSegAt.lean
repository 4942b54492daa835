/- Joined: SegAt. -/
import Derived.Test.YtejcjmiofidedaaGreatDoorJSegS
/- A block of its own, and what keeps it. -/
namespace Go.Proofs.YtejcjmiofidedaaGreatDoor.Seg
open Go.RowKit Go.Shelf Oct Rec Crc Bat RngQ InR RowL

def At0 (W : World) (g : Nat) (cs : List Value) (e : TypeId) : Prop := W.heap[g]? = some (.cells cs.toArray e (0, 0))
section
variable {W X : World} {g k : Nat} {cs : List Value} {e : TypeId} {row : Option Nat}
theorem At0.lt (h : At0 W g cs e) : g < W.heap.size := (Array.getElem?_eq_some_iff.1 h).1
theorem At0.new (W : World) (cs : List Value) (e : TypeId) : At0 (W.alloc (.cells cs.toArray e)) W.heap.size cs e := World.alloc_heap_new W _
theorem At0.keptBy (h : At0 W g cs e) (hg : W.grownBy X row) (hrow : ∀ r, row = some r → ∃ o : Obj, W.heap[r]? = some o ∧ o.isCells = false) : At0 X g cs e := (grownBy_keeps_cells hg hrow h rfl).trans h
theorem At0.below (h : At0 W g cs e) (hb : Below W.heap.size W X) : At0 X g cs e := (hb.block g h.lt).trans h
theorem At0.alloc (h : At0 W g cs e) (o : Obj) : At0 (W.alloc o) g cs e := h.below (bel_alloc (Below.refl _ _) o)
theorem At0.set (h : At0 W g cs e) {p : Addr} (hne : p.block ≠ g) (u : Value) : At0 (W.setCell p u) g cs e := (Below.heap_setCell _ _ _ _ (by omega)).trans h
theorem At0.cell (h : At0 W g cs e) (j : Nat) : W.cell? ⟨g, j, none⟩ = cs[j]? := by rw [cell_of_row _ _ _ _ e _ h]; simp
theorem At0.frozen (h : At0 W g cs e) (j : Nat) : W.frozen? ⟨g, j, none⟩ = false := frozen_of_row W g j _ e h
end
end Go.Proofs.YtejcjmiofidedaaGreatDoor.Seg
