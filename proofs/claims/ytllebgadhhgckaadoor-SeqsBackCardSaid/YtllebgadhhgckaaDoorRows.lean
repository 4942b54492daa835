/-
  NARROWER THAN 'FOR EVERY INPUT', by the rows' own cells (each row's printed sentence says how): SeqsLooks: laid · SeqsPuts: laid · SeqsOfs: laid · SeqsSaves: laid · SeqsBack: laid · SeqsOnce: laid · SeqsTwice: laid · SeqsFences: laid · SeqsOthers: laid.
  DERIVED. THE GIVEN ROWS OF THIS SEAT. 9 by the template 'for every input the law returns true; each argument reads behind the call as it read before'; 0 by the template 'total and deterministic' (their statements: YtllebgadhhgckaaDoorTotals.lean).
  GIVEN WITH THE SEED: the statements are not yours to turn. If you find one false, say at which input.
  Laid BY PROGRAM, IN A SANDBOX (cutbox-rows.mjs): the forced cells as the released guide's own fill.sh prints them over the translation fb574b75e9b8381f… (all of the seat's roots in one cut). By AI agents, Wed Nov 11 2026. No macro, syntax, notation, axiom, sorry.
-/
import Derived.Test.YtllebgadhhgckaaDoorChecked
import GoSem.Claim
import GoSem.ClaimJoined
import GoSem.ClaimMapViews
import Derived.JoinedTies
import Derived.KernelRfl
namespace Go.Proofs.YtllebgadhhgckaaDoor
/- THE CELL 'sum', in the pinned program and in every row, IS THE sha256 OF THE DUMP (.gsa) THAT YtllebgadhhgckaaDoorProg.lean LOADS. Nothing in Lean hashes anything: it is a label: what it is worth is what the hold of that sum in a sandbox is worth. -/
noncomputable def Tryd.pinned : Pinned := { name := "ytllebgadhhgckaadoor", sum := "fb574b75e9b8381fad9044d549df671190f22be0a06d532db25f22839d6d005f", checked := Tryd.checked }
namespace Rows
def none {H : Type} : Left H := { results := [], args := [] }

/- WHAT THE LISTED PACKAGE-LEVEL VARIABLES READ AS WHEN THE CALL BEGINS. Each datum BY PROGRAM (the guide's laid-datum.mjs) off the statement by which the dump's own 'gosem.cut.vars' lays the variable. In a bare row this is a premise. The card (YtllebgadhhgckaaDoorCards.lean) ties it to the program's text. -/
def laid_watermeet_crc_steps {H : Type} : DataW H := .agg [.lit (.int .u32 0), .lit (.int .u32 498536548), .lit (.int .u32 997073096), .lit (.int .u32 651767980), .lit (.int .u32 1994146192), .lit (.int .u32 1802195444), .lit (.int .u32 1303535960), .lit (.int .u32 1342533948), .lit (.int .u32 3988292384), .lit (.int .u32 4027552580), .lit (.int .u32 3604390888), .lit (.int .u32 3412177804), .lit (.int .u32 2607071920), .lit (.int .u32 2262029012), .lit (.int .u32 2685067896), .lit (.int .u32 3183342108)]

/-- 'watermeetlaw11.SeqsLooks': WHATEVER THE INPUT: true; the input reads as it did. -/
def seqsLooksSpec : ChangeSpec := { name := "seqsLooks", fn := fun _ => fun
  | [d1, d2] => { results := [.lit (.bool true)], args := [d1, d2] }
  | _ => none }
def seqsLooksRow : OpenClaim := { program := "ytllebgadhhgckaadoor", sum := "fb574b75e9b8381fad9044d549df671190f22be0a06d532db25f22839d6d005f", func := "watermeet/watermeetlaw11.SeqsLooks", spec := "seqsLooks", inPlace := ["slices.overlaps[watermeet/api.Prod]"], unfollowed := true, recurses := true, named := ["watermeet/crc.steps"], apart := false, laid := [("watermeet/crc.steps", laid_watermeet_crc_steps)] }
def SeqsLooksSaid : Prop := seqsLooksRow.holds Tryd.pinned (OpenSpec.ofChange seqsLooksSpec)

/-- ITS FALSE NEIGHBOUR: 'it returns false'. Refute it at one input. -/
def seqsLooksWrong : ChangeSpec := { name := "seqsLooks", fn := fun _ => fun
  | [d1, d2] => { results := [.lit (.bool false)], args := [d1, d2] }
  | _ => none }
def SeqsLooksWrongFalsely : Prop := seqsLooksRow.holds Tryd.pinned (OpenSpec.ofChange seqsLooksWrong)

/-- 'watermeetlaw11.SeqsPuts': WHATEVER THE INPUT: true; the input reads as it did. -/
def seqsPutsSpec : ChangeSpec := { name := "seqsPuts", fn := fun _ => fun
  | [d1, d2] => { results := [.lit (.bool true)], args := [d1, d2] }
  | _ => none }
def seqsPutsRow : OpenClaim := { program := "ytllebgadhhgckaadoor", sum := "fb574b75e9b8381fad9044d549df671190f22be0a06d532db25f22839d6d005f", func := "watermeet/watermeetlaw11.SeqsPuts", spec := "seqsPuts", inPlace := ["slices.overlaps[watermeet/api.Prod]"], unfollowed := true, recurses := true, named := ["watermeet/crc.steps"], apart := false, laid := [("watermeet/crc.steps", laid_watermeet_crc_steps)] }
def SeqsPutsSaid : Prop := seqsPutsRow.holds Tryd.pinned (OpenSpec.ofChange seqsPutsSpec)

/-- ITS FALSE NEIGHBOUR: 'it returns false'. Refute it at one input. -/
def seqsPutsWrong : ChangeSpec := { name := "seqsPuts", fn := fun _ => fun
  | [d1, d2] => { results := [.lit (.bool false)], args := [d1, d2] }
  | _ => none }
def SeqsPutsWrongFalsely : Prop := seqsPutsRow.holds Tryd.pinned (OpenSpec.ofChange seqsPutsWrong)

/-- 'watermeetlaw11.SeqsOfs': WHATEVER THE INPUT: true; the input reads as it did. -/
def seqsOfsSpec : ChangeSpec := { name := "seqsOfs", fn := fun _ => fun
  | [d] => { results := [.lit (.bool true)], args := [d] }
  | _ => none }
def seqsOfsRow : OpenClaim := { program := "ytllebgadhhgckaadoor", sum := "fb574b75e9b8381fad9044d549df671190f22be0a06d532db25f22839d6d005f", func := "watermeet/watermeetlaw11.SeqsOfs", spec := "seqsOfs", inPlace := ["slices.overlaps[watermeet/api.Prod]"], unfollowed := true, recurses := true, named := ["watermeet/crc.steps"], apart := false, laid := [("watermeet/crc.steps", laid_watermeet_crc_steps)] }
def SeqsOfsSaid : Prop := seqsOfsRow.holds Tryd.pinned (OpenSpec.ofChange seqsOfsSpec)

/-- ITS FALSE NEIGHBOUR: 'it returns false'. Refute it at one input. -/
def seqsOfsWrong : ChangeSpec := { name := "seqsOfs", fn := fun _ => fun
  | [d] => { results := [.lit (.bool false)], args := [d] }
  | _ => none }
def SeqsOfsWrongFalsely : Prop := seqsOfsRow.holds Tryd.pinned (OpenSpec.ofChange seqsOfsWrong)

/-- 'watermeetlaw11.SeqsSaves': WHATEVER THE INPUT: true; the input reads as it did. -/
def seqsSavesSpec : ChangeSpec := { name := "seqsSaves", fn := fun _ => fun
  | [d1, d2] => { results := [.lit (.bool true)], args := [d1, d2] }
  | _ => none }
def seqsSavesRow : OpenClaim := { program := "ytllebgadhhgckaadoor", sum := "fb574b75e9b8381fad9044d549df671190f22be0a06d532db25f22839d6d005f", func := "watermeet/watermeetlaw11.SeqsSaves", spec := "seqsSaves", inPlace := ["slices.overlaps[watermeet/api.Prod]"], unfollowed := true, recurses := true, named := ["watermeet/crc.steps"], apart := false, laid := [("watermeet/crc.steps", laid_watermeet_crc_steps)] }
def SeqsSavesSaid : Prop := seqsSavesRow.holds Tryd.pinned (OpenSpec.ofChange seqsSavesSpec)

/-- ITS FALSE NEIGHBOUR: 'it returns false'. Refute it at one input. -/
def seqsSavesWrong : ChangeSpec := { name := "seqsSaves", fn := fun _ => fun
  | [d1, d2] => { results := [.lit (.bool false)], args := [d1, d2] }
  | _ => none }
def SeqsSavesWrongFalsely : Prop := seqsSavesRow.holds Tryd.pinned (OpenSpec.ofChange seqsSavesWrong)

/-- 'watermeetlaw11.SeqsBack': WHATEVER THE INPUT: true; the input reads as it did. -/
def seqsBackSpec : ChangeSpec := { name := "seqsBack", fn := fun _ => fun
  | [d1, d2, d3] => { results := [.lit (.bool true)], args := [d1, d2, d3] }
  | _ => none }
def seqsBackRow : OpenClaim := { program := "ytllebgadhhgckaadoor", sum := "fb574b75e9b8381fad9044d549df671190f22be0a06d532db25f22839d6d005f", func := "watermeet/watermeetlaw11.SeqsBack", spec := "seqsBack", inPlace := ["slices.overlaps[watermeet/api.Prod]"], unfollowed := true, recurses := true, named := ["watermeet/crc.steps"], apart := false, laid := [("watermeet/crc.steps", laid_watermeet_crc_steps)] }
def SeqsBackSaid : Prop := seqsBackRow.holds Tryd.pinned (OpenSpec.ofChange seqsBackSpec)

/-- ITS FALSE NEIGHBOUR: 'it returns false'. Refute it at one input. -/
def seqsBackWrong : ChangeSpec := { name := "seqsBack", fn := fun _ => fun
  | [d1, d2, d3] => { results := [.lit (.bool false)], args := [d1, d2, d3] }
  | _ => none }
def SeqsBackWrongFalsely : Prop := seqsBackRow.holds Tryd.pinned (OpenSpec.ofChange seqsBackWrong)

/-- 'watermeetlaw11.SeqsOnce': WHATEVER THE INPUT: true; the input reads as it did. -/
def seqsOnceSpec : ChangeSpec := { name := "seqsOnce", fn := fun _ => fun
  | [d1, d2] => { results := [.lit (.bool true)], args := [d1, d2] }
  | _ => none }
def seqsOnceRow : OpenClaim := { program := "ytllebgadhhgckaadoor", sum := "fb574b75e9b8381fad9044d549df671190f22be0a06d532db25f22839d6d005f", func := "watermeet/watermeetlaw11.SeqsOnce", spec := "seqsOnce", inPlace := ["slices.overlaps[watermeet/api.Prod]"], unfollowed := true, recurses := true, named := ["watermeet/crc.steps"], apart := false, laid := [("watermeet/crc.steps", laid_watermeet_crc_steps)] }
def SeqsOnceSaid : Prop := seqsOnceRow.holds Tryd.pinned (OpenSpec.ofChange seqsOnceSpec)

/-- ITS FALSE NEIGHBOUR: 'it returns false'. Refute it at one input. -/
def seqsOnceWrong : ChangeSpec := { name := "seqsOnce", fn := fun _ => fun
  | [d1, d2] => { results := [.lit (.bool false)], args := [d1, d2] }
  | _ => none }
def SeqsOnceWrongFalsely : Prop := seqsOnceRow.holds Tryd.pinned (OpenSpec.ofChange seqsOnceWrong)

/-- 'watermeetlaw11.SeqsTwice': WHATEVER THE INPUT: true; the input reads as it did. -/
def seqsTwiceSpec : ChangeSpec := { name := "seqsTwice", fn := fun _ => fun
  | [d1, d2] => { results := [.lit (.bool true)], args := [d1, d2] }
  | _ => none }
def seqsTwiceRow : OpenClaim := { program := "ytllebgadhhgckaadoor", sum := "fb574b75e9b8381fad9044d549df671190f22be0a06d532db25f22839d6d005f", func := "watermeet/watermeetlaw11.SeqsTwice", spec := "seqsTwice", inPlace := ["slices.overlaps[watermeet/api.Prod]"], unfollowed := true, recurses := true, named := ["watermeet/crc.steps"], apart := false, laid := [("watermeet/crc.steps", laid_watermeet_crc_steps)] }
def SeqsTwiceSaid : Prop := seqsTwiceRow.holds Tryd.pinned (OpenSpec.ofChange seqsTwiceSpec)

/-- ITS FALSE NEIGHBOUR: 'it returns false'. Refute it at one input. -/
def seqsTwiceWrong : ChangeSpec := { name := "seqsTwice", fn := fun _ => fun
  | [d1, d2] => { results := [.lit (.bool false)], args := [d1, d2] }
  | _ => none }
def SeqsTwiceWrongFalsely : Prop := seqsTwiceRow.holds Tryd.pinned (OpenSpec.ofChange seqsTwiceWrong)

/-- 'watermeetlaw11.SeqsFences': WHATEVER THE INPUT: true; the input reads as it did. -/
def seqsFencesSpec : ChangeSpec := { name := "seqsFences", fn := fun _ => fun
  | [d1, d2, d3] => { results := [.lit (.bool true)], args := [d1, d2, d3] }
  | _ => none }
def seqsFencesRow : OpenClaim := { program := "ytllebgadhhgckaadoor", sum := "fb574b75e9b8381fad9044d549df671190f22be0a06d532db25f22839d6d005f", func := "watermeet/watermeetlaw11.SeqsFences", spec := "seqsFences", inPlace := ["slices.overlaps[watermeet/api.Prod]"], unfollowed := true, recurses := true, named := ["watermeet/crc.steps"], apart := false, laid := [("watermeet/crc.steps", laid_watermeet_crc_steps)] }
def SeqsFencesSaid : Prop := seqsFencesRow.holds Tryd.pinned (OpenSpec.ofChange seqsFencesSpec)

/-- ITS FALSE NEIGHBOUR: 'it returns false'. Refute it at one input. -/
def seqsFencesWrong : ChangeSpec := { name := "seqsFences", fn := fun _ => fun
  | [d1, d2, d3] => { results := [.lit (.bool false)], args := [d1, d2, d3] }
  | _ => none }
def SeqsFencesWrongFalsely : Prop := seqsFencesRow.holds Tryd.pinned (OpenSpec.ofChange seqsFencesWrong)

/-- 'watermeetlaw11.SeqsOthers': WHATEVER THE INPUT: true; the input reads as it did. -/
def seqsOthersSpec : ChangeSpec := { name := "seqsOthers", fn := fun _ => fun
  | [d1, d2] => { results := [.lit (.bool true)], args := [d1, d2] }
  | _ => none }
def seqsOthersRow : OpenClaim := { program := "ytllebgadhhgckaadoor", sum := "fb574b75e9b8381fad9044d549df671190f22be0a06d532db25f22839d6d005f", func := "watermeet/watermeetlaw11.SeqsOthers", spec := "seqsOthers", inPlace := ["slices.overlaps[watermeet/api.Prod]"], unfollowed := true, recurses := true, named := ["watermeet/crc.steps"], apart := false, laid := [("watermeet/crc.steps", laid_watermeet_crc_steps)] }
def SeqsOthersSaid : Prop := seqsOthersRow.holds Tryd.pinned (OpenSpec.ofChange seqsOthersSpec)

/-- ITS FALSE NEIGHBOUR: 'it returns false'. Refute it at one input. -/
def seqsOthersWrong : ChangeSpec := { name := "seqsOthers", fn := fun _ => fun
  | [d1, d2] => { results := [.lit (.bool false)], args := [d1, d2] }
  | _ => none }
def SeqsOthersWrongFalsely : Prop := seqsOthersRow.holds Tryd.pinned (OpenSpec.ofChange seqsOthersWrong)

/- THE SECOND FORM. 'bulk': how many values and letters a reading holds, each counted each time it is reached (what is shared counts as often as it is met; a slice's spare places count too). A statement '..UptoSaid' is the law's where the arguments, and the package variables that the reading takes, are together of bulk at most 1048576: NARROWER than '..Said'. Prove '..Said' where nothing that the law and all that it calls make is longer than what came in: it says more and counts as full. Else prove '..UptoSaid'. A law counts once. -/
mutual
def uptoBulk {H : Type} : DataW H → Nat
  | .lit (.string bytes) => bytes.length + 1
  | .lit _ => 1
  | .nil => 1
  | .ptr d => uptoBulk d + 1
  | .slice elems spare => uptoBulkAll elems + uptoBulkAll spare + 1
  | .agg parts => uptoBulkAll parts + 1
  | .iface _ d => uptoBulk d + 1
  | .map entries => uptoBulkEntries entries + 1
  | .held _ => 1
def uptoBulkAll {H : Type} : List (DataW H) → Nat
  | [] => 0
  | d :: r => uptoBulk d + uptoBulkAll r
def uptoBulkEntries {H : Type} : List (Lit × DataW H) → Nat
  | [] => 0
  | x :: r => uptoBulkEntry x + uptoBulkEntries r
def uptoBulkEntry {H : Type} : Lit × DataW H → Nat
  | (.string bytes, d) => bytes.length + uptoBulk d + 1
  | (_, d) => uptoBulk d + 1
 end
def uptoSmall : (H : Type) → List (DataW H) → Bool := fun _ ds => decide (uptoBulkAll ds ≤ 1048576)
def OpenSpec.upto (s : _root_.Go.ChangeSpec) : _root_.Go.OpenSpec := { _root_.Go.OpenSpec.ofChange s with cond := some uptoSmall }

/-- 'watermeetlaw11.SeqsLooks', WHERE WHAT IT READS IS OF BULK AT MOST 1048576: true; the input reads as it did. -/
def seqsLooksUptoRow : OpenClaim := { program := "ytllebgadhhgckaadoor", sum := "fb574b75e9b8381fad9044d549df671190f22be0a06d532db25f22839d6d005f", func := "watermeet/watermeetlaw11.SeqsLooks", spec := "seqsLooks", inPlace := ["slices.overlaps[watermeet/api.Prod]"], unfollowed := true, recurses := true, named := ["watermeet/crc.steps"], apart := false, laid := [("watermeet/crc.steps", laid_watermeet_crc_steps)], narrowed := true }
def SeqsLooksUptoSaid : Prop := seqsLooksUptoRow.holds Tryd.pinned (OpenSpec.upto seqsLooksSpec)

/-- 'watermeetlaw11.SeqsPuts', WHERE WHAT IT READS IS OF BULK AT MOST 1048576: true; the input reads as it did. -/
def seqsPutsUptoRow : OpenClaim := { program := "ytllebgadhhgckaadoor", sum := "fb574b75e9b8381fad9044d549df671190f22be0a06d532db25f22839d6d005f", func := "watermeet/watermeetlaw11.SeqsPuts", spec := "seqsPuts", inPlace := ["slices.overlaps[watermeet/api.Prod]"], unfollowed := true, recurses := true, named := ["watermeet/crc.steps"], apart := false, laid := [("watermeet/crc.steps", laid_watermeet_crc_steps)], narrowed := true }
def SeqsPutsUptoSaid : Prop := seqsPutsUptoRow.holds Tryd.pinned (OpenSpec.upto seqsPutsSpec)

/-- 'watermeetlaw11.SeqsOfs', WHERE WHAT IT READS IS OF BULK AT MOST 1048576: true; the input reads as it did. -/
def seqsOfsUptoRow : OpenClaim := { program := "ytllebgadhhgckaadoor", sum := "fb574b75e9b8381fad9044d549df671190f22be0a06d532db25f22839d6d005f", func := "watermeet/watermeetlaw11.SeqsOfs", spec := "seqsOfs", inPlace := ["slices.overlaps[watermeet/api.Prod]"], unfollowed := true, recurses := true, named := ["watermeet/crc.steps"], apart := false, laid := [("watermeet/crc.steps", laid_watermeet_crc_steps)], narrowed := true }
def SeqsOfsUptoSaid : Prop := seqsOfsUptoRow.holds Tryd.pinned (OpenSpec.upto seqsOfsSpec)

/-- 'watermeetlaw11.SeqsSaves', WHERE WHAT IT READS IS OF BULK AT MOST 1048576: true; the input reads as it did. -/
def seqsSavesUptoRow : OpenClaim := { program := "ytllebgadhhgckaadoor", sum := "fb574b75e9b8381fad9044d549df671190f22be0a06d532db25f22839d6d005f", func := "watermeet/watermeetlaw11.SeqsSaves", spec := "seqsSaves", inPlace := ["slices.overlaps[watermeet/api.Prod]"], unfollowed := true, recurses := true, named := ["watermeet/crc.steps"], apart := false, laid := [("watermeet/crc.steps", laid_watermeet_crc_steps)], narrowed := true }
def SeqsSavesUptoSaid : Prop := seqsSavesUptoRow.holds Tryd.pinned (OpenSpec.upto seqsSavesSpec)

/-- 'watermeetlaw11.SeqsBack', WHERE WHAT IT READS IS OF BULK AT MOST 1048576: true; the input reads as it did. -/
def seqsBackUptoRow : OpenClaim := { program := "ytllebgadhhgckaadoor", sum := "fb574b75e9b8381fad9044d549df671190f22be0a06d532db25f22839d6d005f", func := "watermeet/watermeetlaw11.SeqsBack", spec := "seqsBack", inPlace := ["slices.overlaps[watermeet/api.Prod]"], unfollowed := true, recurses := true, named := ["watermeet/crc.steps"], apart := false, laid := [("watermeet/crc.steps", laid_watermeet_crc_steps)], narrowed := true }
def SeqsBackUptoSaid : Prop := seqsBackUptoRow.holds Tryd.pinned (OpenSpec.upto seqsBackSpec)

/-- 'watermeetlaw11.SeqsOnce', WHERE WHAT IT READS IS OF BULK AT MOST 1048576: true; the input reads as it did. -/
def seqsOnceUptoRow : OpenClaim := { program := "ytllebgadhhgckaadoor", sum := "fb574b75e9b8381fad9044d549df671190f22be0a06d532db25f22839d6d005f", func := "watermeet/watermeetlaw11.SeqsOnce", spec := "seqsOnce", inPlace := ["slices.overlaps[watermeet/api.Prod]"], unfollowed := true, recurses := true, named := ["watermeet/crc.steps"], apart := false, laid := [("watermeet/crc.steps", laid_watermeet_crc_steps)], narrowed := true }
def SeqsOnceUptoSaid : Prop := seqsOnceUptoRow.holds Tryd.pinned (OpenSpec.upto seqsOnceSpec)

/-- 'watermeetlaw11.SeqsTwice', WHERE WHAT IT READS IS OF BULK AT MOST 1048576: true; the input reads as it did. -/
def seqsTwiceUptoRow : OpenClaim := { program := "ytllebgadhhgckaadoor", sum := "fb574b75e9b8381fad9044d549df671190f22be0a06d532db25f22839d6d005f", func := "watermeet/watermeetlaw11.SeqsTwice", spec := "seqsTwice", inPlace := ["slices.overlaps[watermeet/api.Prod]"], unfollowed := true, recurses := true, named := ["watermeet/crc.steps"], apart := false, laid := [("watermeet/crc.steps", laid_watermeet_crc_steps)], narrowed := true }
def SeqsTwiceUptoSaid : Prop := seqsTwiceUptoRow.holds Tryd.pinned (OpenSpec.upto seqsTwiceSpec)

/-- 'watermeetlaw11.SeqsFences', WHERE WHAT IT READS IS OF BULK AT MOST 1048576: true; the input reads as it did. -/
def seqsFencesUptoRow : OpenClaim := { program := "ytllebgadhhgckaadoor", sum := "fb574b75e9b8381fad9044d549df671190f22be0a06d532db25f22839d6d005f", func := "watermeet/watermeetlaw11.SeqsFences", spec := "seqsFences", inPlace := ["slices.overlaps[watermeet/api.Prod]"], unfollowed := true, recurses := true, named := ["watermeet/crc.steps"], apart := false, laid := [("watermeet/crc.steps", laid_watermeet_crc_steps)], narrowed := true }
def SeqsFencesUptoSaid : Prop := seqsFencesUptoRow.holds Tryd.pinned (OpenSpec.upto seqsFencesSpec)

/-- 'watermeetlaw11.SeqsOthers', WHERE WHAT IT READS IS OF BULK AT MOST 1048576: true; the input reads as it did. -/
def seqsOthersUptoRow : OpenClaim := { program := "ytllebgadhhgckaadoor", sum := "fb574b75e9b8381fad9044d549df671190f22be0a06d532db25f22839d6d005f", func := "watermeet/watermeetlaw11.SeqsOthers", spec := "seqsOthers", inPlace := ["slices.overlaps[watermeet/api.Prod]"], unfollowed := true, recurses := true, named := ["watermeet/crc.steps"], apart := false, laid := [("watermeet/crc.steps", laid_watermeet_crc_steps)], narrowed := true }
def SeqsOthersUptoSaid : Prop := seqsOthersUptoRow.holds Tryd.pinned (OpenSpec.upto seqsOthersSpec)

end Rows
end Go.Proofs.YtllebgadhhgckaaDoor
