/- Joined: EpoW. -/
import Derived.Test.YtmjnleohchmadaaEpoRow
import Derived.Test.YtmjnleohchmadaaInX
/- Words for the walks of layer 10: boxes, cells of a row. Nothing of the program. -/
namespace Go.Proofs.Ytmjnleohchmadaa.Epo
open Go.RowKit Go.Proofs.Ytmjnleohchmadaa.Oct Go.Proofs.Ytmjnleohchmadaa.RowF Go.Proofs.Ytmjnleohchmadaa.Lay

section
variable {W X w w' : World} {g o : Nat} {cs : List Value} {e : TypeId} {a b : Value}
def At0 (W : World) (g : Nat) (cs : List Value) (e : TypeId) : Prop := W.heap[g]? = some (.cells cs.toArray e (0, 0))
theorem At0.lt (h : At0 W g cs e) : g < W.heap.size := (Array.getElem?_eq_some_iff.1 h).1
theorem At0.new (W : World) (cs : List Value) (e : TypeId) : At0 (W.alloc (.cells cs.toArray e)) W.heap.size cs e := World.alloc_heap_new W _
theorem At0.below (h : At0 W g cs e) (hb : Below W.heap.size W X) : At0 X g cs e := (hb.block g h.lt).trans h
theorem At0.cell (h : At0 W g cs e) (j : Nat) : W.cell? ⟨g, j, none⟩ = cs[j]? := by rw [cell_of_row _ _ _ _ e _ h]; simp
theorem At0.frozen (h : At0 W g cs e) (j : Nat) : W.frozen? ⟨g, j, none⟩ = false := frozen_of_row W g j _ e h
theorem cel2 (h : At0 W g [a, b] e) : W.cell? ⟨g, 0, none⟩ = some a ∧ W.cell? ⟨g, 1, none⟩ = some b := ⟨h.cell 0, h.cell 1⟩
def AtO (W : World) (g o : Nat) (cs : List Value) : Prop := g < W.heap.size ∧ ∀ j v, cs[j]? = some v → W.cell? ⟨g, o + j, none⟩ = some v
theorem AtO.below (h : AtO W g o cs) (hb : Below W.heap.size W X) : AtO X g o cs := ⟨Nat.lt_of_lt_of_le h.1 hb.size, fun j v hv => (hb.cell (p := ⟨g, o + j, none⟩) h.1).trans (h.2 j v hv)⟩
theorem AtO.two (hl : g < W.heap.size) (h0 : W.cell? ⟨g, o, none⟩ = some a) (h1 : W.cell? ⟨g, o + 1, none⟩ = some b) : AtO W g o [a, b] := by
  refine ⟨hl, fun j x hx => ?_⟩
  match j, hx with
  | 0, hx => obtain rfl : a = x := Option.some.inj hx; exact h0
  | 1, hx => obtain rfl : b = x := Option.some.inj hx; exact h1
theorem belA (w : World) (o : Obj) : Below w.heap.size w (w.alloc o) := (Below.refl _ _).alloc (Nat.le_refl _) o
theorem bel_trans {w1 w2 : World} (h : Below w.heap.size w w1) (h2 : Below w1.heap.size w1 w2) : Below w.heap.size w w2 := h.trans (h2.mono h.size)
theorem rdeUp {A : Option Addr} {n : Nat} {l : List Ep} (h : RdE w w.heap.size A n l) (hb : Below w.heap.size w w') : RdE w' w'.heap.size A n l := (RdF.below h hb (Nat.le_refl _)).more hb.size
end
end Go.Proofs.Ytmjnleohchmadaa.Epo
