/- Joined: ProTab. -/
import Derived.Test.YthhdhdjdhekgpaaDoorProMath
import Derived.Test.YthhdhdjdhekgpaaDoorJOct
/- The package's table: what the walks ask of it. -/
namespace Go.Proofs.YthhdhdjdhekgpaaDoor.Pro
open Go.RowKit Go.Proofs.YthhdhdjdhekgpaaDoor.Oct

/-- one kind's row -/
def shRow (i : Nat) : List Int := [nI i, nT i, mT i, mB i]
def Tab (w : World) : Prop := ∀ i j, i < 13 → j < 4 → w.cell? ⟨0, i * 4 + j, none⟩ = some (.int .i64 ((shRow i).getD j 0))
theorem Tab.pos {w : World} (h : Tab w) : 0 < w.heap.size := World.block_lt_of_cell? w _ (h 0 0 (by omega) (by omega))
theorem Tab.below {B : Nat} {w w' : World} (h : Tab w) (hb : Below B w w') (hB : 0 < B) : Tab w' := fun i j hi hj => (hb.cell (p := ⟨0, i * 4 + j, none⟩) hB).trans (h i j hi hj)
theorem Tab.bel {w w' : World} (h : Tab w) (hb : Below w.heap.size w w') : Tab w' := h.below hb h.pos
theorem Tab.alloc {w : World} (h : Tab w) (o : Obj) : Tab (w.alloc o) := h.bel (bel_alloc (Below.refl _ _) o)
theorem Tab.drew {w : World} (h : Tab w) : Tab w.drew := h
theorem Tab.c0 {w : World} (h : Tab w) {i : Nat} (hi : i < 13) : w.cell? ⟨0, i * 4, none⟩ = some (.int .i64 (nI i)) := h i 0 hi (by omega)
theorem Tab.c1 {w : World} (h : Tab w) {i : Nat} (hi : i < 13) : w.cell? ⟨0, i * 4 + 1, none⟩ = some (.int .i64 (nT i)) := h i 1 hi (by omega)
theorem Tab.c2 {w : World} (h : Tab w) {i : Nat} (hi : i < 13) : w.cell? ⟨0, i * 4 + 2, none⟩ = some (.int .i64 (mT i)) := h i 2 hi (by omega)
theorem Tab.c3 {w : World} (h : Tab w) {i : Nat} (hi : i < 13) : w.cell? ⟨0, i * 4 + 3, none⟩ = some (.int .i64 (mB i)) := h i 3 hi (by omega)
end Go.Proofs.YthhdhdjdhekgpaaDoor.Pro
