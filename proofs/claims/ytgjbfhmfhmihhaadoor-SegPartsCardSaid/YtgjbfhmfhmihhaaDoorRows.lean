/-
  NARROWER THAN 'FOR EVERY INPUT', by the rows' own cells (each row's printed sentence says how): SegScans: laid · SegAppends: laid · SegMakes: laid · SegBack: laid · SegTorn: laid · SegSpoilt: laid · SegCuts: laid · SegOrder: laid · SegParts: laid.
  DERIVED. THE GIVEN ROWS OF THIS SEAT. 9 by the template 'for every input the law returns true; each argument reads behind the call as it read before'; 0 by the template 'total and deterministic' (their statements: YtgjbfhmfhmihhaaDoorTotals.lean).
  GIVEN WITH THE SEED: the statements are not yours to turn. If you find one false, say at which input.
  Laid BY PROGRAM, IN A SANDBOX (cutbox-rows.mjs): the forced cells as the released guide's own fill.sh prints them over the translation 0cf92817350ed4d0… (all of the seat's roots in one cut). By AI agents, Wed Nov 11 2026. No macro, syntax, notation, axiom, sorry.
-/
import Derived.Test.YtgjbfhmfhmihhaaDoorChecked
import GoSem.Claim
import GoSem.ClaimJoined
import GoSem.ClaimMapViews
import Derived.JoinedTies
import Derived.KernelRfl
namespace Go.Proofs.YtgjbfhmfhmihhaaDoor
/- THE CELL 'sum', in the pinned program and in every row, IS THE sha256 OF THE DUMP (.gsa) THAT YtgjbfhmfhmihhaaDoorProg.lean LOADS. Nothing in Lean hashes anything: it is a label: what it is worth is what the hold of that sum in a sandbox is worth. -/
noncomputable def Tryd.pinned : Pinned := { name := "ytgjbfhmfhmihhaadoor", sum := "0cf92817350ed4d0a56c3101ff6078f81366d6646476173815700a5c71ddc255", checked := Tryd.checked }
namespace Rows
def none {H : Type} : Left H := { results := [], args := [] }

/- WHAT THE LISTED PACKAGE-LEVEL VARIABLES READ AS WHEN THE CALL BEGINS. Each datum BY PROGRAM (the guide's laid-datum.mjs) off the statement by which the dump's own 'gosem.cut.vars' lays the variable. In a bare row this is a premise. The card (YtgjbfhmfhmihhaaDoorCards.lean) ties it to the program's text. -/
def laid_watermeet_crc_steps {H : Type} : DataW H := .agg [.lit (.int .u32 0), .lit (.int .u32 498536548), .lit (.int .u32 997073096), .lit (.int .u32 651767980), .lit (.int .u32 1994146192), .lit (.int .u32 1802195444), .lit (.int .u32 1303535960), .lit (.int .u32 1342533948), .lit (.int .u32 3988292384), .lit (.int .u32 4027552580), .lit (.int .u32 3604390888), .lit (.int .u32 3412177804), .lit (.int .u32 2607071920), .lit (.int .u32 2262029012), .lit (.int .u32 2685067896), .lit (.int .u32 3183342108)]

/-- 'watermeetlaw07.SegScans': WHATEVER THE INPUT: true; the input reads as it did. -/
def segScansSpec : ChangeSpec := { name := "segScans", fn := fun _ => fun
  | [d] => { results := [.lit (.bool true)], args := [d] }
  | _ => none }
def segScansRow : OpenClaim := { program := "ytgjbfhmfhmihhaadoor", sum := "0cf92817350ed4d0a56c3101ff6078f81366d6646476173815700a5c71ddc255", func := "watermeet/watermeetlaw07.SegScans", spec := "segScans", unfollowed := true, recurses := true, named := ["watermeet/crc.steps"], apart := false, laid := [("watermeet/crc.steps", laid_watermeet_crc_steps)] }
def SegScansSaid : Prop := segScansRow.holds Tryd.pinned (OpenSpec.ofChange segScansSpec)

/-- ITS FALSE NEIGHBOUR: 'it returns false'. Refute it at one input. -/
def segScansWrong : ChangeSpec := { name := "segScans", fn := fun _ => fun
  | [d] => { results := [.lit (.bool false)], args := [d] }
  | _ => none }
def SegScansWrongFalsely : Prop := segScansRow.holds Tryd.pinned (OpenSpec.ofChange segScansWrong)

/-- 'watermeetlaw07.SegAppends': WHATEVER THE INPUT: true; the input reads as it did. -/
def segAppendsSpec : ChangeSpec := { name := "segAppends", fn := fun _ => fun
  | [d1, d2, d3] => { results := [.lit (.bool true)], args := [d1, d2, d3] }
  | _ => none }
def segAppendsRow : OpenClaim := { program := "ytgjbfhmfhmihhaadoor", sum := "0cf92817350ed4d0a56c3101ff6078f81366d6646476173815700a5c71ddc255", func := "watermeet/watermeetlaw07.SegAppends", spec := "segAppends", unfollowed := true, recurses := true, named := ["watermeet/crc.steps"], apart := false, laid := [("watermeet/crc.steps", laid_watermeet_crc_steps)] }
def SegAppendsSaid : Prop := segAppendsRow.holds Tryd.pinned (OpenSpec.ofChange segAppendsSpec)

/-- ITS FALSE NEIGHBOUR: 'it returns false'. Refute it at one input. -/
def segAppendsWrong : ChangeSpec := { name := "segAppends", fn := fun _ => fun
  | [d1, d2, d3] => { results := [.lit (.bool false)], args := [d1, d2, d3] }
  | _ => none }
def SegAppendsWrongFalsely : Prop := segAppendsRow.holds Tryd.pinned (OpenSpec.ofChange segAppendsWrong)

/-- 'watermeetlaw07.SegMakes': WHATEVER THE INPUT: true; the input reads as it did. -/
def segMakesSpec : ChangeSpec := { name := "segMakes", fn := fun _ => fun
  | [d1, d2, d3, d4, d5] => { results := [.lit (.bool true)], args := [d1, d2, d3, d4, d5] }
  | _ => none }
def segMakesRow : OpenClaim := { program := "ytgjbfhmfhmihhaadoor", sum := "0cf92817350ed4d0a56c3101ff6078f81366d6646476173815700a5c71ddc255", func := "watermeet/watermeetlaw07.SegMakes", spec := "segMakes", unfollowed := true, recurses := true, named := ["watermeet/crc.steps"], apart := false, laid := [("watermeet/crc.steps", laid_watermeet_crc_steps)] }
def SegMakesSaid : Prop := segMakesRow.holds Tryd.pinned (OpenSpec.ofChange segMakesSpec)

/-- ITS FALSE NEIGHBOUR: 'it returns false'. Refute it at one input. -/
def segMakesWrong : ChangeSpec := { name := "segMakes", fn := fun _ => fun
  | [d1, d2, d3, d4, d5] => { results := [.lit (.bool false)], args := [d1, d2, d3, d4, d5] }
  | _ => none }
def SegMakesWrongFalsely : Prop := segMakesRow.holds Tryd.pinned (OpenSpec.ofChange segMakesWrong)

/-- 'watermeetlaw07.SegBack': WHATEVER THE INPUT: true; the input reads as it did. -/
def segBackSpec : ChangeSpec := { name := "segBack", fn := fun _ => fun
  | [d1, d2, d3] => { results := [.lit (.bool true)], args := [d1, d2, d3] }
  | _ => none }
def segBackRow : OpenClaim := { program := "ytgjbfhmfhmihhaadoor", sum := "0cf92817350ed4d0a56c3101ff6078f81366d6646476173815700a5c71ddc255", func := "watermeet/watermeetlaw07.SegBack", spec := "segBack", unfollowed := true, recurses := true, named := ["watermeet/crc.steps"], apart := false, laid := [("watermeet/crc.steps", laid_watermeet_crc_steps)] }
def SegBackSaid : Prop := segBackRow.holds Tryd.pinned (OpenSpec.ofChange segBackSpec)

/-- ITS FALSE NEIGHBOUR: 'it returns false'. Refute it at one input. -/
def segBackWrong : ChangeSpec := { name := "segBack", fn := fun _ => fun
  | [d1, d2, d3] => { results := [.lit (.bool false)], args := [d1, d2, d3] }
  | _ => none }
def SegBackWrongFalsely : Prop := segBackRow.holds Tryd.pinned (OpenSpec.ofChange segBackWrong)

/-- 'watermeetlaw07.SegTorn': WHATEVER THE INPUT: true; the input reads as it did. -/
def segTornSpec : ChangeSpec := { name := "segTorn", fn := fun _ => fun
  | [d1, d2] => { results := [.lit (.bool true)], args := [d1, d2] }
  | _ => none }
def segTornRow : OpenClaim := { program := "ytgjbfhmfhmihhaadoor", sum := "0cf92817350ed4d0a56c3101ff6078f81366d6646476173815700a5c71ddc255", func := "watermeet/watermeetlaw07.SegTorn", spec := "segTorn", unfollowed := true, recurses := true, named := ["watermeet/crc.steps"], apart := false, laid := [("watermeet/crc.steps", laid_watermeet_crc_steps)] }
def SegTornSaid : Prop := segTornRow.holds Tryd.pinned (OpenSpec.ofChange segTornSpec)

/-- ITS FALSE NEIGHBOUR: 'it returns false'. Refute it at one input. -/
def segTornWrong : ChangeSpec := { name := "segTorn", fn := fun _ => fun
  | [d1, d2] => { results := [.lit (.bool false)], args := [d1, d2] }
  | _ => none }
def SegTornWrongFalsely : Prop := segTornRow.holds Tryd.pinned (OpenSpec.ofChange segTornWrong)

/-- 'watermeetlaw07.SegSpoilt': WHATEVER THE INPUT: true; the input reads as it did. -/
def segSpoiltSpec : ChangeSpec := { name := "segSpoilt", fn := fun _ => fun
  | [d1, d2, d3] => { results := [.lit (.bool true)], args := [d1, d2, d3] }
  | _ => none }
def segSpoiltRow : OpenClaim := { program := "ytgjbfhmfhmihhaadoor", sum := "0cf92817350ed4d0a56c3101ff6078f81366d6646476173815700a5c71ddc255", func := "watermeet/watermeetlaw07.SegSpoilt", spec := "segSpoilt", unfollowed := true, recurses := true, named := ["watermeet/crc.steps"], apart := false, laid := [("watermeet/crc.steps", laid_watermeet_crc_steps)] }
def SegSpoiltSaid : Prop := segSpoiltRow.holds Tryd.pinned (OpenSpec.ofChange segSpoiltSpec)

/-- ITS FALSE NEIGHBOUR: 'it returns false'. Refute it at one input. -/
def segSpoiltWrong : ChangeSpec := { name := "segSpoilt", fn := fun _ => fun
  | [d1, d2, d3] => { results := [.lit (.bool false)], args := [d1, d2, d3] }
  | _ => none }
def SegSpoiltWrongFalsely : Prop := segSpoiltRow.holds Tryd.pinned (OpenSpec.ofChange segSpoiltWrong)

/-- 'watermeetlaw07.SegCuts': WHATEVER THE INPUT: true; the input reads as it did. -/
def segCutsSpec : ChangeSpec := { name := "segCuts", fn := fun _ => fun
  | [d1, d2] => { results := [.lit (.bool true)], args := [d1, d2] }
  | _ => none }
def segCutsRow : OpenClaim := { program := "ytgjbfhmfhmihhaadoor", sum := "0cf92817350ed4d0a56c3101ff6078f81366d6646476173815700a5c71ddc255", func := "watermeet/watermeetlaw07.SegCuts", spec := "segCuts", unfollowed := true, recurses := true, named := ["watermeet/crc.steps"], apart := false, laid := [("watermeet/crc.steps", laid_watermeet_crc_steps)] }
def SegCutsSaid : Prop := segCutsRow.holds Tryd.pinned (OpenSpec.ofChange segCutsSpec)

/-- ITS FALSE NEIGHBOUR: 'it returns false'. Refute it at one input. -/
def segCutsWrong : ChangeSpec := { name := "segCuts", fn := fun _ => fun
  | [d1, d2] => { results := [.lit (.bool false)], args := [d1, d2] }
  | _ => none }
def SegCutsWrongFalsely : Prop := segCutsRow.holds Tryd.pinned (OpenSpec.ofChange segCutsWrong)

/-- 'watermeetlaw07.SegOrder': WHATEVER THE INPUT: true; the input reads as it did. -/
def segOrderSpec : ChangeSpec := { name := "segOrder", fn := fun _ => fun
  | [d] => { results := [.lit (.bool true)], args := [d] }
  | _ => none }
def segOrderRow : OpenClaim := { program := "ytgjbfhmfhmihhaadoor", sum := "0cf92817350ed4d0a56c3101ff6078f81366d6646476173815700a5c71ddc255", func := "watermeet/watermeetlaw07.SegOrder", spec := "segOrder", unfollowed := true, recurses := true, named := ["watermeet/crc.steps"], apart := false, laid := [("watermeet/crc.steps", laid_watermeet_crc_steps)] }
def SegOrderSaid : Prop := segOrderRow.holds Tryd.pinned (OpenSpec.ofChange segOrderSpec)

/-- ITS FALSE NEIGHBOUR: 'it returns false'. Refute it at one input. -/
def segOrderWrong : ChangeSpec := { name := "segOrder", fn := fun _ => fun
  | [d] => { results := [.lit (.bool false)], args := [d] }
  | _ => none }
def SegOrderWrongFalsely : Prop := segOrderRow.holds Tryd.pinned (OpenSpec.ofChange segOrderWrong)

/-- 'watermeetlaw07.SegParts': WHATEVER THE INPUT: true; the input reads as it did. -/
def segPartsSpec : ChangeSpec := { name := "segParts", fn := fun _ => fun
  | [d1, d2, d3, d4] => { results := [.lit (.bool true)], args := [d1, d2, d3, d4] }
  | _ => none }
def segPartsRow : OpenClaim := { program := "ytgjbfhmfhmihhaadoor", sum := "0cf92817350ed4d0a56c3101ff6078f81366d6646476173815700a5c71ddc255", func := "watermeet/watermeetlaw07.SegParts", spec := "segParts", unfollowed := true, recurses := true, named := ["watermeet/crc.steps"], apart := false, laid := [("watermeet/crc.steps", laid_watermeet_crc_steps)] }
def SegPartsSaid : Prop := segPartsRow.holds Tryd.pinned (OpenSpec.ofChange segPartsSpec)

/-- ITS FALSE NEIGHBOUR: 'it returns false'. Refute it at one input. -/
def segPartsWrong : ChangeSpec := { name := "segParts", fn := fun _ => fun
  | [d1, d2, d3, d4] => { results := [.lit (.bool false)], args := [d1, d2, d3, d4] }
  | _ => none }
def SegPartsWrongFalsely : Prop := segPartsRow.holds Tryd.pinned (OpenSpec.ofChange segPartsWrong)

/- THE SECOND FORM. 'bulk': how many values and letters a reading holds, each counted each time it is reached (what is shared counts as often as it is met; a slice's spare places count too). A statement '..UptoSaid' is the law's where the arguments, and the package variables that the reading takes, are together of bulk at most 1048576: NARROWER than '..Said'. Prove '..Said' where nothing that the law and all that it calls make is longer than what came in: it says more and counts as full. Else prove '..UptoSaid'. A law counts once. -/
mutual
def uptoBulk {H : Type} : DataW H → Nat
  | .lit (.string bytes) => bytes.length + 1
  | .lit _ => 1
  | .nil => 1
  | .ptr d => uptoBulk d + 1
  | .slice elems spare => uptoBulkAll elems + uptoBulkAll spare + 1
  | .agg parts => uptoBulkAll parts + 1
  | .iface _ d => uptoBulk d + 1
  | .map entries => uptoBulkEntries entries + 1
  | .held _ => 1
def uptoBulkAll {H : Type} : List (DataW H) → Nat
  | [] => 0
  | d :: r => uptoBulk d + uptoBulkAll r
def uptoBulkEntries {H : Type} : List (Lit × DataW H) → Nat
  | [] => 0
  | x :: r => uptoBulkEntry x + uptoBulkEntries r
def uptoBulkEntry {H : Type} : Lit × DataW H → Nat
  | (.string bytes, d) => bytes.length + uptoBulk d + 1
  | (_, d) => uptoBulk d + 1
 end
def uptoSmall : (H : Type) → List (DataW H) → Bool := fun _ ds => decide (uptoBulkAll ds ≤ 1048576)
def OpenSpec.upto (s : _root_.Go.ChangeSpec) : _root_.Go.OpenSpec := { _root_.Go.OpenSpec.ofChange s with cond := some uptoSmall }

/-- 'watermeetlaw07.SegScans', WHERE WHAT IT READS IS OF BULK AT MOST 1048576: true; the input reads as it did. -/
def segScansUptoRow : OpenClaim := { program := "ytgjbfhmfhmihhaadoor", sum := "0cf92817350ed4d0a56c3101ff6078f81366d6646476173815700a5c71ddc255", func := "watermeet/watermeetlaw07.SegScans", spec := "segScans", unfollowed := true, recurses := true, named := ["watermeet/crc.steps"], apart := false, laid := [("watermeet/crc.steps", laid_watermeet_crc_steps)], narrowed := true }
def SegScansUptoSaid : Prop := segScansUptoRow.holds Tryd.pinned (OpenSpec.upto segScansSpec)

/-- 'watermeetlaw07.SegAppends', WHERE WHAT IT READS IS OF BULK AT MOST 1048576: true; the input reads as it did. -/
def segAppendsUptoRow : OpenClaim := { program := "ytgjbfhmfhmihhaadoor", sum := "0cf92817350ed4d0a56c3101ff6078f81366d6646476173815700a5c71ddc255", func := "watermeet/watermeetlaw07.SegAppends", spec := "segAppends", unfollowed := true, recurses := true, named := ["watermeet/crc.steps"], apart := false, laid := [("watermeet/crc.steps", laid_watermeet_crc_steps)], narrowed := true }
def SegAppendsUptoSaid : Prop := segAppendsUptoRow.holds Tryd.pinned (OpenSpec.upto segAppendsSpec)

/-- 'watermeetlaw07.SegMakes', WHERE WHAT IT READS IS OF BULK AT MOST 1048576: true; the input reads as it did. -/
def segMakesUptoRow : OpenClaim := { program := "ytgjbfhmfhmihhaadoor", sum := "0cf92817350ed4d0a56c3101ff6078f81366d6646476173815700a5c71ddc255", func := "watermeet/watermeetlaw07.SegMakes", spec := "segMakes", unfollowed := true, recurses := true, named := ["watermeet/crc.steps"], apart := false, laid := [("watermeet/crc.steps", laid_watermeet_crc_steps)], narrowed := true }
def SegMakesUptoSaid : Prop := segMakesUptoRow.holds Tryd.pinned (OpenSpec.upto segMakesSpec)

/-- 'watermeetlaw07.SegBack', WHERE WHAT IT READS IS OF BULK AT MOST 1048576: true; the input reads as it did. -/
def segBackUptoRow : OpenClaim := { program := "ytgjbfhmfhmihhaadoor", sum := "0cf92817350ed4d0a56c3101ff6078f81366d6646476173815700a5c71ddc255", func := "watermeet/watermeetlaw07.SegBack", spec := "segBack", unfollowed := true, recurses := true, named := ["watermeet/crc.steps"], apart := false, laid := [("watermeet/crc.steps", laid_watermeet_crc_steps)], narrowed := true }
def SegBackUptoSaid : Prop := segBackUptoRow.holds Tryd.pinned (OpenSpec.upto segBackSpec)

/-- 'watermeetlaw07.SegTorn', WHERE WHAT IT READS IS OF BULK AT MOST 1048576: true; the input reads as it did. -/
def segTornUptoRow : OpenClaim := { program := "ytgjbfhmfhmihhaadoor", sum := "0cf92817350ed4d0a56c3101ff6078f81366d6646476173815700a5c71ddc255", func := "watermeet/watermeetlaw07.SegTorn", spec := "segTorn", unfollowed := true, recurses := true, named := ["watermeet/crc.steps"], apart := false, laid := [("watermeet/crc.steps", laid_watermeet_crc_steps)], narrowed := true }
def SegTornUptoSaid : Prop := segTornUptoRow.holds Tryd.pinned (OpenSpec.upto segTornSpec)

/-- 'watermeetlaw07.SegSpoilt', WHERE WHAT IT READS IS OF BULK AT MOST 1048576: true; the input reads as it did. -/
def segSpoiltUptoRow : OpenClaim := { program := "ytgjbfhmfhmihhaadoor", sum := "0cf92817350ed4d0a56c3101ff6078f81366d6646476173815700a5c71ddc255", func := "watermeet/watermeetlaw07.SegSpoilt", spec := "segSpoilt", unfollowed := true, recurses := true, named := ["watermeet/crc.steps"], apart := false, laid := [("watermeet/crc.steps", laid_watermeet_crc_steps)], narrowed := true }
def SegSpoiltUptoSaid : Prop := segSpoiltUptoRow.holds Tryd.pinned (OpenSpec.upto segSpoiltSpec)

/-- 'watermeetlaw07.SegCuts', WHERE WHAT IT READS IS OF BULK AT MOST 1048576: true; the input reads as it did. -/
def segCutsUptoRow : OpenClaim := { program := "ytgjbfhmfhmihhaadoor", sum := "0cf92817350ed4d0a56c3101ff6078f81366d6646476173815700a5c71ddc255", func := "watermeet/watermeetlaw07.SegCuts", spec := "segCuts", unfollowed := true, recurses := true, named := ["watermeet/crc.steps"], apart := false, laid := [("watermeet/crc.steps", laid_watermeet_crc_steps)], narrowed := true }
def SegCutsUptoSaid : Prop := segCutsUptoRow.holds Tryd.pinned (OpenSpec.upto segCutsSpec)

/-- 'watermeetlaw07.SegOrder', WHERE WHAT IT READS IS OF BULK AT MOST 1048576: true; the input reads as it did. -/
def segOrderUptoRow : OpenClaim := { program := "ytgjbfhmfhmihhaadoor", sum := "0cf92817350ed4d0a56c3101ff6078f81366d6646476173815700a5c71ddc255", func := "watermeet/watermeetlaw07.SegOrder", spec := "segOrder", unfollowed := true, recurses := true, named := ["watermeet/crc.steps"], apart := false, laid := [("watermeet/crc.steps", laid_watermeet_crc_steps)], narrowed := true }
def SegOrderUptoSaid : Prop := segOrderUptoRow.holds Tryd.pinned (OpenSpec.upto segOrderSpec)

/-- 'watermeetlaw07.SegParts', WHERE WHAT IT READS IS OF BULK AT MOST 1048576: true; the input reads as it did. -/
def segPartsUptoRow : OpenClaim := { program := "ytgjbfhmfhmihhaadoor", sum := "0cf92817350ed4d0a56c3101ff6078f81366d6646476173815700a5c71ddc255", func := "watermeet/watermeetlaw07.SegParts", spec := "segParts", unfollowed := true, recurses := true, named := ["watermeet/crc.steps"], apart := false, laid := [("watermeet/crc.steps", laid_watermeet_crc_steps)], narrowed := true }
def SegPartsUptoSaid : Prop := segPartsUptoRow.holds Tryd.pinned (OpenSpec.upto segPartsSpec)

end Rows
end Go.Proofs.YtgjbfhmfhmihhaaDoor
