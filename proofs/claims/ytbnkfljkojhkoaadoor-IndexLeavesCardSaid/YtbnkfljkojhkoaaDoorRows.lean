/-
  NARROWER THAN 'FOR EVERY INPUT', by the rows' own cells (each row's printed sentence says how): IndexPlaces: laid · IndexNever: laid · IndexLeaves: laid · IndexWhole: laid · IndexSpares: laid · IndexGrows: laid.
  DERIVED. THE GIVEN ROWS OF THIS SEAT. 6 by the template 'for every input the law returns true; each argument reads behind the call as it read before'; 0 by the template 'total and deterministic' (their statements: YtbnkfljkojhkoaaDoorTotals.lean).
  GIVEN WITH THE SEED: the statements are not yours to turn. If you find one false, say at which input.
  Laid BY PROGRAM, IN A SANDBOX (cutbox-rows.mjs): the forced cells as the released guide's own fill.sh prints them over the translation 8c5d126deb1dee06… (all of the seat's roots in one cut). By AI agents, Wed Nov 11 2026. No macro, syntax, notation, axiom, sorry.
-/
import Derived.Test.YtbnkfljkojhkoaaDoorChecked
import GoSem.Claim
import GoSem.ClaimJoined
import GoSem.ClaimMapViews
import Derived.JoinedTies
import Derived.KernelRfl
namespace Go.Proofs.YtbnkfljkojhkoaaDoor
/- THE CELL 'sum', in the pinned program and in every row, IS THE sha256 OF THE DUMP (.gsa) THAT YtbnkfljkojhkoaaDoorProg.lean LOADS. Nothing in Lean hashes anything: it is a label: what it is worth is what the hold of that sum in a sandbox is worth. -/
noncomputable def Tryd.pinned : Pinned := { name := "ytbnkfljkojhkoaadoor", sum := "8c5d126deb1dee0691fac7fbb4d9d0df0f757da95ad3f57cf6563159e25f8c5a", checked := Tryd.checked }
namespace Rows
def none {H : Type} : Left H := { results := [], args := [] }

/- WHAT THE LISTED PACKAGE-LEVEL VARIABLES READ AS WHEN THE CALL BEGINS. Each datum BY PROGRAM (the guide's laid-datum.mjs) off the statement by which the dump's own 'gosem.cut.vars' lays the variable. In a bare row this is a premise. The card (YtbnkfljkojhkoaaDoorCards.lean) ties it to the program's text. -/
def laid_watermeet_crc_steps {H : Type} : DataW H := .agg [.lit (.int .u32 0), .lit (.int .u32 498536548), .lit (.int .u32 997073096), .lit (.int .u32 651767980), .lit (.int .u32 1994146192), .lit (.int .u32 1802195444), .lit (.int .u32 1303535960), .lit (.int .u32 1342533948), .lit (.int .u32 3988292384), .lit (.int .u32 4027552580), .lit (.int .u32 3604390888), .lit (.int .u32 3412177804), .lit (.int .u32 2607071920), .lit (.int .u32 2262029012), .lit (.int .u32 2685067896), .lit (.int .u32 3183342108)]

/-- 'watermeetlaw08.IndexPlaces': WHATEVER THE INPUT: true; the input reads as it did. -/
def indexPlacesSpec : ChangeSpec := { name := "indexPlaces", fn := fun _ => fun
  | [d1, d2, d3] => { results := [.lit (.bool true)], args := [d1, d2, d3] }
  | _ => none }
def indexPlacesRow : OpenClaim := { program := "ytbnkfljkojhkoaadoor", sum := "8c5d126deb1dee0691fac7fbb4d9d0df0f757da95ad3f57cf6563159e25f8c5a", func := "watermeet/watermeetlaw08.IndexPlaces", spec := "indexPlaces", unfollowed := true, recurses := true, named := ["watermeet/crc.steps"], apart := false, laid := [("watermeet/crc.steps", laid_watermeet_crc_steps)] }
def IndexPlacesSaid : Prop := indexPlacesRow.holds Tryd.pinned (OpenSpec.ofChange indexPlacesSpec)

/-- ITS FALSE NEIGHBOUR: 'it returns false'. Refute it at one input. -/
def indexPlacesWrong : ChangeSpec := { name := "indexPlaces", fn := fun _ => fun
  | [d1, d2, d3] => { results := [.lit (.bool false)], args := [d1, d2, d3] }
  | _ => none }
def IndexPlacesWrongFalsely : Prop := indexPlacesRow.holds Tryd.pinned (OpenSpec.ofChange indexPlacesWrong)

/-- 'watermeetlaw08.IndexNever': WHATEVER THE INPUT: true; the input reads as it did. -/
def indexNeverSpec : ChangeSpec := { name := "indexNever", fn := fun _ => fun
  | [d1, d2, d3, d4] => { results := [.lit (.bool true)], args := [d1, d2, d3, d4] }
  | _ => none }
def indexNeverRow : OpenClaim := { program := "ytbnkfljkojhkoaadoor", sum := "8c5d126deb1dee0691fac7fbb4d9d0df0f757da95ad3f57cf6563159e25f8c5a", func := "watermeet/watermeetlaw08.IndexNever", spec := "indexNever", unfollowed := true, recurses := true, named := ["watermeet/crc.steps"], apart := false, laid := [("watermeet/crc.steps", laid_watermeet_crc_steps)] }
def IndexNeverSaid : Prop := indexNeverRow.holds Tryd.pinned (OpenSpec.ofChange indexNeverSpec)

/-- ITS FALSE NEIGHBOUR: 'it returns false'. Refute it at one input. -/
def indexNeverWrong : ChangeSpec := { name := "indexNever", fn := fun _ => fun
  | [d1, d2, d3, d4] => { results := [.lit (.bool false)], args := [d1, d2, d3, d4] }
  | _ => none }
def IndexNeverWrongFalsely : Prop := indexNeverRow.holds Tryd.pinned (OpenSpec.ofChange indexNeverWrong)

/-- 'watermeetlaw08.IndexLeaves': WHATEVER THE INPUT: true; the input reads as it did. -/
def indexLeavesSpec : ChangeSpec := { name := "indexLeaves", fn := fun _ => fun
  | [d1, d2, d3, d4, d5] => { results := [.lit (.bool true)], args := [d1, d2, d3, d4, d5] }
  | _ => none }
def indexLeavesRow : OpenClaim := { program := "ytbnkfljkojhkoaadoor", sum := "8c5d126deb1dee0691fac7fbb4d9d0df0f757da95ad3f57cf6563159e25f8c5a", func := "watermeet/watermeetlaw08.IndexLeaves", spec := "indexLeaves", unfollowed := true, recurses := true, named := ["watermeet/crc.steps"], apart := false, laid := [("watermeet/crc.steps", laid_watermeet_crc_steps)] }
def IndexLeavesSaid : Prop := indexLeavesRow.holds Tryd.pinned (OpenSpec.ofChange indexLeavesSpec)

/-- ITS FALSE NEIGHBOUR: 'it returns false'. Refute it at one input. -/
def indexLeavesWrong : ChangeSpec := { name := "indexLeaves", fn := fun _ => fun
  | [d1, d2, d3, d4, d5] => { results := [.lit (.bool false)], args := [d1, d2, d3, d4, d5] }
  | _ => none }
def IndexLeavesWrongFalsely : Prop := indexLeavesRow.holds Tryd.pinned (OpenSpec.ofChange indexLeavesWrong)

/-- 'watermeetlaw08.IndexWhole': WHATEVER THE INPUT: true; the input reads as it did. -/
def indexWholeSpec : ChangeSpec := { name := "indexWhole", fn := fun _ => fun
  | [d1, d2, d3, d4] => { results := [.lit (.bool true)], args := [d1, d2, d3, d4] }
  | _ => none }
def indexWholeRow : OpenClaim := { program := "ytbnkfljkojhkoaadoor", sum := "8c5d126deb1dee0691fac7fbb4d9d0df0f757da95ad3f57cf6563159e25f8c5a", func := "watermeet/watermeetlaw08.IndexWhole", spec := "indexWhole", unfollowed := true, recurses := true, named := ["watermeet/crc.steps"], apart := false, laid := [("watermeet/crc.steps", laid_watermeet_crc_steps)] }
def IndexWholeSaid : Prop := indexWholeRow.holds Tryd.pinned (OpenSpec.ofChange indexWholeSpec)

/-- ITS FALSE NEIGHBOUR: 'it returns false'. Refute it at one input. -/
def indexWholeWrong : ChangeSpec := { name := "indexWhole", fn := fun _ => fun
  | [d1, d2, d3, d4] => { results := [.lit (.bool false)], args := [d1, d2, d3, d4] }
  | _ => none }
def IndexWholeWrongFalsely : Prop := indexWholeRow.holds Tryd.pinned (OpenSpec.ofChange indexWholeWrong)

/-- 'watermeetlaw08.IndexSpares': WHATEVER THE INPUT: true; the input reads as it did. -/
def indexSparesSpec : ChangeSpec := { name := "indexSpares", fn := fun _ => fun
  | [d1, d2] => { results := [.lit (.bool true)], args := [d1, d2] }
  | _ => none }
def indexSparesRow : OpenClaim := { program := "ytbnkfljkojhkoaadoor", sum := "8c5d126deb1dee0691fac7fbb4d9d0df0f757da95ad3f57cf6563159e25f8c5a", func := "watermeet/watermeetlaw08.IndexSpares", spec := "indexSpares", unfollowed := true, recurses := true, named := ["watermeet/crc.steps"], apart := false, laid := [("watermeet/crc.steps", laid_watermeet_crc_steps)] }
def IndexSparesSaid : Prop := indexSparesRow.holds Tryd.pinned (OpenSpec.ofChange indexSparesSpec)

/-- ITS FALSE NEIGHBOUR: 'it returns false'. Refute it at one input. -/
def indexSparesWrong : ChangeSpec := { name := "indexSpares", fn := fun _ => fun
  | [d1, d2] => { results := [.lit (.bool false)], args := [d1, d2] }
  | _ => none }
def IndexSparesWrongFalsely : Prop := indexSparesRow.holds Tryd.pinned (OpenSpec.ofChange indexSparesWrong)

/-- 'watermeetlaw08.IndexGrows': WHATEVER THE INPUT: true; the input reads as it did. -/
def indexGrowsSpec : ChangeSpec := { name := "indexGrows", fn := fun _ => fun
  | [d1, d2, d3] => { results := [.lit (.bool true)], args := [d1, d2, d3] }
  | _ => none }
def indexGrowsRow : OpenClaim := { program := "ytbnkfljkojhkoaadoor", sum := "8c5d126deb1dee0691fac7fbb4d9d0df0f757da95ad3f57cf6563159e25f8c5a", func := "watermeet/watermeetlaw08.IndexGrows", spec := "indexGrows", unfollowed := true, recurses := true, named := ["watermeet/crc.steps"], apart := false, laid := [("watermeet/crc.steps", laid_watermeet_crc_steps)] }
def IndexGrowsSaid : Prop := indexGrowsRow.holds Tryd.pinned (OpenSpec.ofChange indexGrowsSpec)

/-- ITS FALSE NEIGHBOUR: 'it returns false'. Refute it at one input. -/
def indexGrowsWrong : ChangeSpec := { name := "indexGrows", fn := fun _ => fun
  | [d1, d2, d3] => { results := [.lit (.bool false)], args := [d1, d2, d3] }
  | _ => none }
def IndexGrowsWrongFalsely : Prop := indexGrowsRow.holds Tryd.pinned (OpenSpec.ofChange indexGrowsWrong)

/- THE SECOND FORM. 'bulk': how many values and letters a reading holds, each counted each time it is reached (what is shared counts as often as it is met; a slice's spare places count too). A statement '..UptoSaid' is the law's where the arguments, and the package variables that the reading takes, are together of bulk at most 1048576: NARROWER than '..Said'. Prove '..Said' where nothing that the law and all that it calls make is longer than what came in: it says more and counts as full. Else prove '..UptoSaid'. A law counts once. -/
mutual
def uptoBulk {H : Type} : DataW H → Nat
  | .lit (.string bytes) => bytes.length + 1
  | .lit _ => 1
  | .nil => 1
  | .ptr d => uptoBulk d + 1
  | .slice elems spare => uptoBulkAll elems + uptoBulkAll spare + 1
  | .agg parts => uptoBulkAll parts + 1
  | .iface _ d => uptoBulk d + 1
  | .map entries => uptoBulkEntries entries + 1
  | .held _ => 1
def uptoBulkAll {H : Type} : List (DataW H) → Nat
  | [] => 0
  | d :: r => uptoBulk d + uptoBulkAll r
def uptoBulkEntries {H : Type} : List (Lit × DataW H) → Nat
  | [] => 0
  | x :: r => uptoBulkEntry x + uptoBulkEntries r
def uptoBulkEntry {H : Type} : Lit × DataW H → Nat
  | (.string bytes, d) => bytes.length + uptoBulk d + 1
  | (_, d) => uptoBulk d + 1
 end
def uptoSmall : (H : Type) → List (DataW H) → Bool := fun _ ds => decide (uptoBulkAll ds ≤ 1048576)
def OpenSpec.upto (s : _root_.Go.ChangeSpec) : _root_.Go.OpenSpec := { _root_.Go.OpenSpec.ofChange s with cond := some uptoSmall }

/-- 'watermeetlaw08.IndexPlaces', WHERE WHAT IT READS IS OF BULK AT MOST 1048576: true; the input reads as it did. -/
def indexPlacesUptoRow : OpenClaim := { program := "ytbnkfljkojhkoaadoor", sum := "8c5d126deb1dee0691fac7fbb4d9d0df0f757da95ad3f57cf6563159e25f8c5a", func := "watermeet/watermeetlaw08.IndexPlaces", spec := "indexPlaces", unfollowed := true, recurses := true, named := ["watermeet/crc.steps"], apart := false, laid := [("watermeet/crc.steps", laid_watermeet_crc_steps)], narrowed := true }
def IndexPlacesUptoSaid : Prop := indexPlacesUptoRow.holds Tryd.pinned (OpenSpec.upto indexPlacesSpec)

/-- 'watermeetlaw08.IndexNever', WHERE WHAT IT READS IS OF BULK AT MOST 1048576: true; the input reads as it did. -/
def indexNeverUptoRow : OpenClaim := { program := "ytbnkfljkojhkoaadoor", sum := "8c5d126deb1dee0691fac7fbb4d9d0df0f757da95ad3f57cf6563159e25f8c5a", func := "watermeet/watermeetlaw08.IndexNever", spec := "indexNever", unfollowed := true, recurses := true, named := ["watermeet/crc.steps"], apart := false, laid := [("watermeet/crc.steps", laid_watermeet_crc_steps)], narrowed := true }
def IndexNeverUptoSaid : Prop := indexNeverUptoRow.holds Tryd.pinned (OpenSpec.upto indexNeverSpec)

/-- 'watermeetlaw08.IndexLeaves', WHERE WHAT IT READS IS OF BULK AT MOST 1048576: true; the input reads as it did. -/
def indexLeavesUptoRow : OpenClaim := { program := "ytbnkfljkojhkoaadoor", sum := "8c5d126deb1dee0691fac7fbb4d9d0df0f757da95ad3f57cf6563159e25f8c5a", func := "watermeet/watermeetlaw08.IndexLeaves", spec := "indexLeaves", unfollowed := true, recurses := true, named := ["watermeet/crc.steps"], apart := false, laid := [("watermeet/crc.steps", laid_watermeet_crc_steps)], narrowed := true }
def IndexLeavesUptoSaid : Prop := indexLeavesUptoRow.holds Tryd.pinned (OpenSpec.upto indexLeavesSpec)

/-- 'watermeetlaw08.IndexWhole', WHERE WHAT IT READS IS OF BULK AT MOST 1048576: true; the input reads as it did. -/
def indexWholeUptoRow : OpenClaim := { program := "ytbnkfljkojhkoaadoor", sum := "8c5d126deb1dee0691fac7fbb4d9d0df0f757da95ad3f57cf6563159e25f8c5a", func := "watermeet/watermeetlaw08.IndexWhole", spec := "indexWhole", unfollowed := true, recurses := true, named := ["watermeet/crc.steps"], apart := false, laid := [("watermeet/crc.steps", laid_watermeet_crc_steps)], narrowed := true }
def IndexWholeUptoSaid : Prop := indexWholeUptoRow.holds Tryd.pinned (OpenSpec.upto indexWholeSpec)

/-- 'watermeetlaw08.IndexSpares', WHERE WHAT IT READS IS OF BULK AT MOST 1048576: true; the input reads as it did. -/
def indexSparesUptoRow : OpenClaim := { program := "ytbnkfljkojhkoaadoor", sum := "8c5d126deb1dee0691fac7fbb4d9d0df0f757da95ad3f57cf6563159e25f8c5a", func := "watermeet/watermeetlaw08.IndexSpares", spec := "indexSpares", unfollowed := true, recurses := true, named := ["watermeet/crc.steps"], apart := false, laid := [("watermeet/crc.steps", laid_watermeet_crc_steps)], narrowed := true }
def IndexSparesUptoSaid : Prop := indexSparesUptoRow.holds Tryd.pinned (OpenSpec.upto indexSparesSpec)

/-- 'watermeetlaw08.IndexGrows', WHERE WHAT IT READS IS OF BULK AT MOST 1048576: true; the input reads as it did. -/
def indexGrowsUptoRow : OpenClaim := { program := "ytbnkfljkojhkoaadoor", sum := "8c5d126deb1dee0691fac7fbb4d9d0df0f757da95ad3f57cf6563159e25f8c5a", func := "watermeet/watermeetlaw08.IndexGrows", spec := "indexGrows", unfollowed := true, recurses := true, named := ["watermeet/crc.steps"], apart := false, laid := [("watermeet/crc.steps", laid_watermeet_crc_steps)], narrowed := true }
def IndexGrowsUptoSaid : Prop := indexGrowsUptoRow.holds Tryd.pinned (OpenSpec.upto indexGrowsSpec)

end Rows
end Go.Proofs.YtbnkfljkojhkoaaDoor
