/- What a call of layer 2 leaves, in the words of layer 1. -/
import Derived.Test.YtilnlmopdljeeaaCrcMath
import Derived.Test.YtilnlmopdljeeaaOctU8
namespace Go.Proofs.Ytilnlmopdljeeaa.Crc
open Go.RowKit Go.Proofs.Ytilnlmopdljeeaa.Oct

/-- bytes and an error's number -/
def OPr (e : TypeId) (base : Nat) (w : World) (l : List UInt8) (z : Int) (en : Ending) (w' : World) : Prop :=
  ∃ A n c, en = .returned (.tuple #[.slice A n c, .int .i64 z]) ∧ OwnB w' e base (.slice A n c) n l ∧ Below base w w'
/-- a number of 32 bits -/
def N32 (w : World) (v : Nat) (en : Ending) (w' : World) : Prop := en = .returned (.int .u32 (v : Int)) ∧ Below w.heap.size w w'
/-- a block that the call has just laid, of known bytes -/
theorem own_lit (w : World) (e : TypeId) (l : List UInt8) (n : Nat) (hn : l.length = n) (h : n ≤ 1099511627776) : OwnB (w.alloc (.cells (l.map bv).toArray e)) e w.heap.size (.slice (some ⟨w.heap.size, 0, none⟩) n n) n l := by
  subst hn
  have h1 := World.ownsRow_lit (base := w.heap.size) (e := e) (size := 1) w (l.map bv).toArray l.length (Nat.le_refl _) (by unfold maxLen; omega) (by simp)
  simpa [OwnB] using h1
/-- a block of known bytes reads, whatever is frozen in it -/
theorem rd_lit (w : World) (e : TypeId) (fr : Nat × Nat) (l : List UInt8) (n : Nat) (hn : l.length = n) : Rd (w.alloc (.cells (l.map bv).toArray e fr)) (w.heap.size + 1) (some ⟨w.heap.size, 0, none⟩) n l := by
  refine ⟨hn, fun k d hd => ⟨w.heap.size, 0, rfl, by omega, ?_⟩⟩
  rw [cell_of_row _ _ _ _ e fr (heap_alloc_new w _)]
  simp [hd, bv]
end Go.Proofs.Ytilnlmopdljeeaa.Crc
