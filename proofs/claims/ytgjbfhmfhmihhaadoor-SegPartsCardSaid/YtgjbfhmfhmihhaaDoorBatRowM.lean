/- Joined: BatRowM. -/
import Derived.Test.YtgjbfhmfhmihhaaDoorJBatA
/- Batches put one after another: the mathematics. -/
namespace Go.Proofs.YtgjbfhmfhmihhaaDoor.Bat
open Go.RowKit Go.Proofs.YtgjbfhmfhmihhaaDoor.Oct Go.Proofs.YtgjbfhmfhmihhaaDoor.Rec Go.Proofs.YtgjbfhmfhmihhaaDoor.Crc Go.Proofs.YtgjbfhmfhmihhaaDoor.Lay

def mayR (bs : List Bt) : List Bt := bs.filter fun b => decide (chB b = 0)
def byR (bs : List Bt) : List UInt8 := bs.flatMap byB
theorem byR_nil : byR [] = [] := rfl
theorem byR_snoc (bs : List Bt) (b : Bt) : byR (bs ++ [b]) = byR bs ++ byB b := by unfold byR; rw [List.flatMap_append]; simp
theorem byR_split {bs : List Bt} {k : Nat} {b : Bt} (h : bs[k]? = some b) : byR bs = byR (bs.take k) ++ byB b ++ byR (bs.drop (k + 1)) ∧ byR (bs.take (k + 1)) = byR (bs.take k) ++ byB b := by
  have e : bs.take (k + 1) = bs.take k ++ [b] := by rw [List.take_add_one, h]; rfl
  have e2 : byR (bs.take (k + 1)) = byR (bs.take k) ++ byB b := by rw [e, byR_snoc]
  refine ⟨?_, e2⟩
  rw [← e2]
  conv => lhs; rw [← List.take_append_drop (k + 1) bs]
  unfold byR
  rw [List.flatMap_append]
end Go.Proofs.YtgjbfhmfhmihhaaDoor.Bat
