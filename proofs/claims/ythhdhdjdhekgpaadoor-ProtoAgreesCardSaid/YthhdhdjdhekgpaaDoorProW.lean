/- Joined: ProW. -/
import Derived.Test.YthhdhdjdhekgpaaDoorProR1
import Derived.Test.YthhdhdjdhekgpaaDoorInR
/- The words for layer 6's walks: a request in its box. Nothing of the program. -/
namespace Go.Proofs.YthhdhdjdhekgpaaDoor.Pro
open Go.RowKit Go.Proofs.YthhdhdjdhekgpaaDoor.Oct Go.Proofs.YthhdhdjdhekgpaaDoor.Lay

/-- a request's cells in block g -/
def BoxQ (W : World) (g : Nat) (k v i : Int) (s : ByteArray) (a b c : Value) : Prop :=
  W.cell? ⟨g, 0, none⟩ = some (.int .i64 k) ∧ W.cell? ⟨g, 1, none⟩ = some (.int .i64 v) ∧ W.cell? ⟨g, 2, none⟩ = some (.int .i64 i) ∧ W.cell? ⟨g, 3, none⟩ = some (.string s) ∧ W.cell? ⟨g, 4, none⟩ = some a ∧ W.cell? ⟨g, 5, none⟩ = some b ∧ W.cell? ⟨g, 6, none⟩ = some c
theorem BoxQ_new (w : World) (t : TypeId) (k v i : Int) (s : ByteArray) (a b c : Value) : BoxQ (w.alloc (.cells #[.int .i64 k, .int .i64 v, .int .i64 i, .string s, a, b, c] t)) w.heap.size k v i s a b c := by
  refine ⟨?_, ?_, ?_, ?_, ?_, ?_, ?_⟩ <;> rw [cell_of_row _ _ _ _ t (0, 0) (heap_alloc_new w _)] <;> rfl
theorem BoxQ_below {W W' : World} {g : Nat} {k v i : Int} {s : ByteArray} {a b c : Value} (h : BoxQ W g k v i s a b c) (hb : Below W.heap.size W W') (hg : g < W.heap.size) : BoxQ W' g k v i s a b c :=
  ⟨(hb.cell (p := ⟨g, 0, none⟩) hg).trans h.1, (hb.cell (p := ⟨g, 1, none⟩) hg).trans h.2.1, (hb.cell (p := ⟨g, 2, none⟩) hg).trans h.2.2.1, (hb.cell (p := ⟨g, 3, none⟩) hg).trans h.2.2.2.1, (hb.cell (p := ⟨g, 4, none⟩) hg).trans h.2.2.2.2.1, (hb.cell (p := ⟨g, 5, none⟩) hg).trans h.2.2.2.2.2.1, (hb.cell (p := ⟨g, 6, none⟩) hg).trans h.2.2.2.2.2.2⟩
theorem BoxQ.drew {W : World} {g : Nat} {k v i : Int} {s : ByteArray} {a b c : Value} (h : BoxQ W g k v i s a b c) : BoxQ W.drew g k v i s a b c := h
theorem lt_drew {W : World} {g : Nat} (h : g < W.heap.size) : g < W.drew.heap.size := h
end Go.Proofs.YthhdhdjdhekgpaaDoor.Pro
