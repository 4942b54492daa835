/- The package's table as the row lists it: what the walks ask, and that the program's own start meets it. -/
import Derived.Test.YtkpemlfblpkjoaaDoorRows
import Derived.Test.YtkpemlfblpkjoaaDoorCrcTab
import Derived.ProofKit
import Derived.LaidMore
import Derived.OpenShut
import Derived.Stop.Joined
import Derived.Lib.LaidTab
namespace Go.Proofs.YtkpemlfblpkjoaaDoor.Crc
open Go.ChangeShapes Go.WideShapes Go.ChangeAt Go.RowKit

abbrev listed : List (String × DataW Unit) := [("watermeet/crc.steps", Rows.laid_watermeet_crc_steps)]
theorem gSteps : Tryd.prog.globalNamed "watermeet/crc.steps" = some 0 := by kernel_rfl
theorem tSteps : (Tryd.prog.globals[0]?).map (·.type) = some 41 := by kernel_rfl
/-- the heap that the program's own initialisers leave meets the condition -/
theorem door_met (os : Os) (args : Array Value) : laidMetH Tryd.prog listed ((World.doorLaid Tryd.prog 400 os).forCall (fun _ _ => 0) ⟨#[], args, []⟩).memory :=
  laidMetH_of_parts3 (fuel := 8) (laidMet_of_run' 8 (by kernel_rfl) (by kernel_rfl)) (by kernel_rfl) (by kernel_rfl)
theorem tab_of_laid {W : World} (h : laidMetH Tryd.prog listed W) : Tab W := by
  rw [MakeChecks.laidMetH_plain _ _ _ (by kernel_rfl)] at h
  have hT : Lib.TabIs Tryd.prog W "watermeet/crc.steps" .u32 (tab.map fun n : Nat => (n : Int)) := Lib.tabIs_of_head gSteps tSteps Tryd.underlying41 Tryd.underlying24 (by kernel_rfl) (by kernel_rfl) h
  intro i hi
  have h1 := hT.cell gSteps i (by show i < 16; exact hi)
  rw [h1]
  congr 2
  simp only [List.getD_eq_getElem?_getD, List.getElem?_map]
  have h2 : i < tab.length := hi
  rw [List.getElem?_eq_getElem h2]
  rfl
end Go.Proofs.YtkpemlfblpkjoaaDoor.Crc
