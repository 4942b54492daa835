/- Joined: IdxP. -/
import Derived.Test.YtbnkfljkojhkoaaGreatDoorSegAt
/- A box of many cells, stored into cell by cell. Nothing of the program. -/
namespace Go.Proofs.YtbnkfljkojhkoaaGreatDoor.Idx
open Go.RowKit Oct Seg

theorem at0_put {W : World} {g j : Nat} {cs : List Value} {e : TypeId} (h : At0 W g cs e) (u : Value) : At0 (W.setCell ⟨g, j, none⟩ u) g (cs.set j u) e := by
  obtain ⟨hlt, hk⟩ := Array.getElem?_eq_some_iff.1 h
  show (W.heap.modify g _)[g]? = _
  rw [Array.getElem?_eq_getElem (by rw [Array.size_modify]; exact hlt), Array.getElem_modify_self, hk]
  simp
abbrev put10 (W : World) (g : Nat) (v0 v1 v2 v3 v4 v5 v6 v7 v8 v9 : Value) : World := (((((((((W.setCell ⟨g, 0, none⟩ v0).setCell ⟨g, 1, none⟩ v1).setCell ⟨g, 2, none⟩ v2).setCell ⟨g, 3, none⟩ v3).setCell ⟨g, 4, none⟩ v4).setCell ⟨g, 5, none⟩ v5).setCell ⟨g, 6, none⟩ v6).setCell ⟨g, 7, none⟩ v7).setCell ⟨g, 8, none⟩ v8).setCell ⟨g, 9, none⟩ v9
section
variable {W : World} {g : Nat} {e : TypeId} {u0 u1 u2 u3 u4 u5 u6 u7 u8 u9 v0 v1 v2 v3 v4 v5 v6 v7 v8 v9 : Value}
theorem at0_put10 (h : At0 W g [u0, u1, u2, u3, u4, u5, u6, u7, u8, u9] e) : At0 (put10 W g v0 v1 v2 v3 v4 v5 v6 v7 v8 v9) g [v0, v1, v2, v3, v4, v5, v6, v7, v8, v9] e :=
  at0_put (j := 9) (at0_put (j := 8) (at0_put (j := 7) (at0_put (j := 6) (at0_put (j := 5) (at0_put (j := 4) (at0_put (j := 3) (at0_put (j := 2) (at0_put (j := 1) (at0_put (j := 0) h _) _) _) _) _) _) _) _) _) _
theorem gb_trans2 {A B C : World} {g : Nat} (h : A.grownBy B (some g)) (k : B.grownBy C (some g)) : A.grownBy C (some g) := ⟨k.os.trans h.os, k.tape.trans h.tape, k.output.trans h.output, Nat.le_trans h.size k.size, fun i hi hne => (k.block i (Nat.lt_of_lt_of_le hi h.size) hne).trans (h.block i hi hne)⟩
theorem gb_set2 (W : World) (g j : Nat) (u : Value) : W.grownBy (W.setCell ⟨g, j, none⟩ u) (some g) := ⟨rfl, rfl, rfl, by simp, fun k _ hne => Below.heap_setCell _ _ _ _ fun h => hne (by rw [h])⟩
theorem put10_gb : W.grownBy (put10 W g v0 v1 v2 v3 v4 v5 v6 v7 v8 v9) (some g) :=
  gb_trans2 (gb_trans2 (gb_trans2 (gb_trans2 (gb_trans2 (gb_trans2 (gb_trans2 (gb_trans2 (gb_trans2 (gb_set2 _ _ _ _) (gb_set2 _ _ _ _)) (gb_set2 _ _ _ _)) (gb_set2 _ _ _ _)) (gb_set2 _ _ _ _)) (gb_set2 _ _ _ _)) (gb_set2 _ _ _ _)) (gb_set2 _ _ _ _)) (gb_set2 _ _ _ _)) (gb_set2 _ _ _ _)
theorem put10_bel {w : World} {n : Nat} (h : Below n w W) (hg : n ≤ g) : Below n w (put10 W g v0 v1 v2 v3 v4 v5 v6 v7 v8 v9) :=
  (((((((((h.setCell (p := ⟨g, 0, none⟩) hg _).setCell (p := ⟨g, 1, none⟩) hg _).setCell (p := ⟨g, 2, none⟩) hg _).setCell (p := ⟨g, 3, none⟩) hg _).setCell (p := ⟨g, 4, none⟩) hg _).setCell (p := ⟨g, 5, none⟩) hg _).setCell (p := ⟨g, 6, none⟩) hg _).setCell (p := ⟨g, 7, none⟩) hg _).setCell (p := ⟨g, 8, none⟩) hg _).setCell (p := ⟨g, 9, none⟩) hg _
theorem put10_oth : KeepsOthers W (put10 W g v0 v1 v2 v3 v4 v5 v6 v7 v8 v9) :=
  (((((((((KeepsOthers.setCell _ _ _).trans (KeepsOthers.setCell _ _ _)).trans (KeepsOthers.setCell _ _ _)).trans (KeepsOthers.setCell _ _ _)).trans (KeepsOthers.setCell _ _ _)).trans (KeepsOthers.setCell _ _ _)).trans (KeepsOthers.setCell _ _ _)).trans (KeepsOthers.setCell _ _ _)).trans (KeepsOthers.setCell _ _ _)).trans (KeepsOthers.setCell _ _ _)
end
end Go.Proofs.YtbnkfljkojhkoaaGreatDoor.Idx
