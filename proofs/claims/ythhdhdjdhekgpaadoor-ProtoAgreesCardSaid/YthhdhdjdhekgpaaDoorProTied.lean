/- Joined: ProTied. -/
import Derived.Test.YthhdhdjdhekgpaaDoorRows
import Derived.Test.YthhdhdjdhekgpaaDoorProTab
import Derived.ProofKit
import Derived.LaidMore
import Derived.OpenShut
import Derived.ChangeArms
import Derived.Stop.Joined
import Derived.Lib.LaidTab
/- The package's table as the row lists it: what the walks ask, and that the program's own start meets it. -/
namespace Go.Proofs.YthhdhdjdhekgpaaDoor.Pro
open Go.ChangeShapes Go.WideShapes Go.ChangeAt Go.RowKit Go.Proofs.YthhdhdjdhekgpaaDoor.Oct

abbrev listed : List (String × DataW Unit) := [("watermeet/proto.shapes", Rows.laid_watermeet_proto_shapes)]
theorem gShapes : Tryd.prog.globalNamed "watermeet/proto.shapes" = some 0 := by kernel_rfl
theorem tShapes : (Tryd.prog.globals[0]?).map (·.type) = some 58 := by kernel_rfl
/-- the heap that the program's own initialisers leave meets the condition -/
theorem door_met (os : Os) (args : Array Value) : laidMetH Tryd.prog listed ((World.doorLaid Tryd.prog 400 os).forCall (fun _ _ => 0) ⟨#[], args, []⟩).memory :=
  laidMetH_of_parts3 (fuel := 8) (laidMet_of_run' 8 (by kernel_rfl) (by kernel_rfl)) (by kernel_rfl) (by kernel_rfl)
/-- a row of the table, as a datum -/
theorem row_at : ∀ i, i < 13 → ∃ a b c d, (match (Rows.laid_watermeet_proto_shapes : DataW Unit) with | .agg l => l[i]? | _ => none) = some (.agg [.lit (.int .i64 a), .lit (.int .i64 b), .lit (.int .i64 c), .lit (.int .i64 d)]) ∧ shRow i = [a, b, c, d] := by
  intro i hi
  match i, hi with
  | 0, _ => exact ⟨_, _, _, _, rfl, by decide⟩
  | 1, _ => exact ⟨_, _, _, _, rfl, by decide⟩
  | 2, _ => exact ⟨_, _, _, _, rfl, by decide⟩
  | 3, _ => exact ⟨_, _, _, _, rfl, by decide⟩
  | 4, _ => exact ⟨_, _, _, _, rfl, by decide⟩
  | 5, _ => exact ⟨_, _, _, _, rfl, by decide⟩
  | 6, _ => exact ⟨_, _, _, _, rfl, by decide⟩
  | 7, _ => exact ⟨_, _, _, _, rfl, by decide⟩
  | 8, _ => exact ⟨_, _, _, _, rfl, by decide⟩
  | 9, _ => exact ⟨_, _, _, _, rfl, by decide⟩
  | 10, _ => exact ⟨_, _, _, _, rfl, by decide⟩
  | 11, _ => exact ⟨_, _, _, _, rfl, by decide⟩
  | 12, _ => exact ⟨_, _, _, _, rfl, by decide⟩
/-- a field of a row -/
theorem fin_at {P : Program} {W : World} {enc : TypeId × Value → Unit} {base : Nat} {sp : Nat → Bool} {held : Bool} {n i j : Nat} {t : TypeId} {cs : List Value} {ys : List (DataW Unit × List MemPlace)} {v : Int} {o c : Nat} (hj : j < 4) (h1 : (ys.map (·.1))[j]? = some (.lit (.int .i64 v))) (h2 : o = j) (h3 : c = 1) (h5 : P.underlying t = some (.int .i64))
    (h6 : DataW.trod enc P W base sp held n t ((((cs.drop (i * 4)).take 4).drop o).take c) = ys[j]?) : cs[i * 4 + j]? = some (.int .i64 v) := by
  rw [List.getElem?_map] at h1
  obtain ⟨u, hu, hu1⟩ := Option.map_eq_some_iff.1 h1
  rw [hu, h2, h3] at h6
  obtain ⟨z, hc, he, _⟩ := DataW.trod_int h5 h6
  rw [he] at hu1
  simp only [DataW.lit.injEq, Lit.int.injEq, true_and] at hu1
  subst hu1
  have h7 := congrArg (fun l : List Value => l[0]?) hc
  simp only [List.getElem?_take, List.getElem?_drop] at h7
  rw [if_pos (by omega), if_pos (by omega)] at h7
  exact h7
theorem tab_of_laid {W : World} (h : laidMetH Tryd.prog listed W) : Tab W := by
  rw [MakeChecks.laidMetH_plain _ _ _ (by kernel_rfl)] at h
  obtain ⟨ps, ⟨g', t', cs, fuel, p, q, hg', ht', hvar, hd, _, _⟩, _⟩ := h
  obtain rfl := Option.some.inj (gShapes.symm.trans hg')
  obtain rfl := Option.some.inj (tShapes.symm.trans ht')
  have hcell := World.var?_cell gShapes hvar
  obtain ⟨xs, m, _, hx, hlen, hxl, hat⟩ := DataW.trod_array Tryd.underlying58 hd
  have h4 : Tryd.prog.cellsOf 57 = 4 := by kernel_rfl
  have hx1 : (match (Rows.laid_watermeet_proto_shapes : DataW Unit) with | .agg l => l | _ => []) = xs.map (·.1) := by
    have h1 := congrArg Prod.fst hx
    simp only at h1
    rw [h1]
  intro i j hi hj
  obtain ⟨a, b, c, d, hrow, hsh⟩ := row_at i hi
  have hrow2 : (xs.map (·.1))[i]? = some (.agg [.lit (.int .i64 a), .lit (.int .i64 b), .lit (.int .i64 c), .lit (.int .i64 d)]) := by
    rw [← hx1]
    exact hrow
  rw [List.getElem?_map] at hrow2
  obtain ⟨y, hy, hy1⟩ := Option.map_eq_some_iff.1 hrow2
  have hti := hat i hi
  rw [h4, hy] at hti
  obtain ⟨ys, n, _, hz, _, hyl, hfl⟩ := DataW.trod_struct Tryd.underlying57 hti
  have hz1 : ys.map (·.1) = [.lit (.int .i64 a), .lit (.int .i64 b), .lit (.int .i64 c), .lit (.int .i64 d)] := by
    exact (DataW.agg.inj (hy1.symm.trans (congrArg Prod.fst hz))).symm
  rw [hcell, hsh]
  match j, hj with
  | 0, hj => rw [← Array.getElem?_toList]; exact fin_at hj (by rw [hz1]; rfl) rfl (by kernel_rfl) Tryd.underlying3 (hfl 0 _ rfl)
  | 1, hj => rw [← Array.getElem?_toList]; exact fin_at hj (by rw [hz1]; rfl) rfl (by kernel_rfl) Tryd.underlying3 (hfl 1 _ rfl)
  | 2, hj => rw [← Array.getElem?_toList]; exact fin_at hj (by rw [hz1]; rfl) rfl (by kernel_rfl) Tryd.underlying3 (hfl 2 _ rfl)
  | 3, hj => rw [← Array.getElem?_toList]; exact fin_at hj (by rw [hz1]; rfl) rfl (by kernel_rfl) Tryd.underlying3 (hfl 3 _ rfl)
end Go.Proofs.YthhdhdjdhekgpaaDoor.Pro
