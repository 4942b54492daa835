/- The package's table: what the walks ask of the world. -/
import Derived.Test.YtkpemlfblpkjoaaDoorCrcSpec
import Derived.Test.YtkpemlfblpkjoaaDoorCrcMul
namespace Go.Proofs.YtkpemlfblpkjoaaDoor.Crc
open Go.RowKit Go.Proofs.YtkpemlfblpkjoaaDoor.Oct

/-- the package's table holds what four steps make of the numbers 0 to 15 -/
def Tab (w : World) : Prop := ∀ i, i < 16 → w.cell? ⟨0, i, none⟩ = some (.int .u32 ((tab.getD i 0 : Nat) : Int))
theorem Tab.pos {w : World} (h : Tab w) : 0 < w.heap.size := by
  have h0 := h 0 (by omega)
  rcases Nat.lt_or_ge 0 w.heap.size with hl | hl
  · exact hl
  · simp [World.cell?, Array.getElem?_eq_none hl] at h0
theorem Tab.below {B : Nat} {w w' : World} (h : Tab w) (hb : Below B w w') (hB : 0 < B) : Tab w' := fun i hi => (hb.cell (p := ⟨0, i, none⟩) hB).trans (h i hi)
theorem Tab.bel {w w' : World} (h : Tab w) (hb : Below w.heap.size w w') : Tab w' := h.below hb h.pos
theorem Tab.alloc {w : World} (h : Tab w) (o : Obj) : Tab (w.alloc o) := h.bel (bel_alloc (Below.refl _ _) o)
end Go.Proofs.YtkpemlfblpkjoaaDoor.Crc
