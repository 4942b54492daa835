/-
  NARROWER THAN 'FOR EVERY INPUT', by the rows' own cells (each row's printed sentence says how): ChainTells: laid · ChainSteps: laid · ChainReads: laid · ChainBack: laid · ChainOnce: laid · ChainMost: laid · ChainTorn: laid · ChainSpoilt: laid · ChainReplace: laid.
  DERIVED. THE GIVEN ROWS OF THIS SEAT. 9 by the template 'for every input the law returns true; each argument reads behind the call as it read before'; 0 by the template 'total and deterministic' (their statements: YtejcjmiofidedaaGreatDoorTotals.lean).
  GIVEN WITH THE SEED: the statements are not yours to turn. If you find one false, say at which input.
  Laid BY PROGRAM, IN A SANDBOX (cutbox-rows.mjs): the forced cells as the released guide's own fill.sh prints them over the translation 2193895774b7b26d… (all of the seat's roots in one cut). By AI agents, Wed Nov 11 2026. No macro, syntax, notation, axiom, sorry.
-/
import Derived.Test.YtejcjmiofidedaaGreatDoorChecked
import GoSem.Claim
import GoSem.ClaimJoined
import GoSem.ClaimMapViews
import Derived.JoinedTies
import Derived.KernelRfl
namespace Go.Proofs.YtejcjmiofidedaaGreatDoor
/- THE CELL 'sum', in the pinned program and in every row, IS THE sha256 OF THE DUMP (.gsa) THAT YtejcjmiofidedaaGreatDoorProg.lean LOADS. Nothing in Lean hashes anything: it is a label: what it is worth is what the hold of that sum in a sandbox is worth. -/
noncomputable def Tryz.pinned : Pinned := { name := "ytejcjmiofidedaagreatdoor", sum := "2193895774b7b26d0e3cbc4b5d3ae2707eb3150bee2b36137243785dfa6419f9", checked := Tryz.checked }
namespace Rows
def none {H : Type} : Left H := { results := [], args := [] }

/- WHAT THE LISTED PACKAGE-LEVEL VARIABLES READ AS WHEN THE CALL BEGINS. Each datum BY PROGRAM (the guide's laid-datum.mjs) off the statement by which the dump's own 'gosem.cut.vars' lays the variable. In a bare row this is a premise. The card (YtejcjmiofidedaaGreatDoorCards.lean) ties it to the program's text. -/
def laid_watermeet_crc_steps {H : Type} : DataW H := .agg [.lit (.int .u32 0), .lit (.int .u32 498536548), .lit (.int .u32 997073096), .lit (.int .u32 651767980), .lit (.int .u32 1994146192), .lit (.int .u32 1802195444), .lit (.int .u32 1303535960), .lit (.int .u32 1342533948), .lit (.int .u32 3988292384), .lit (.int .u32 4027552580), .lit (.int .u32 3604390888), .lit (.int .u32 3412177804), .lit (.int .u32 2607071920), .lit (.int .u32 2262029012), .lit (.int .u32 2685067896), .lit (.int .u32 3183342108)]

/-- 'watermeetlaw09.ChainTells': WHATEVER THE INPUT: true; the input reads as it did. -/
def chainTellsSpec : ChangeSpec := { name := "chainTells", fn := fun _ => fun
  | [d1, d2, d3] => { results := [.lit (.bool true)], args := [d1, d2, d3] }
  | _ => none }
def chainTellsRow : OpenClaim := { program := "ytejcjmiofidedaagreatdoor", sum := "2193895774b7b26d0e3cbc4b5d3ae2707eb3150bee2b36137243785dfa6419f9", func := "watermeet/watermeetlaw09.ChainTells", spec := "chainTells", unfollowed := true, recurses := true, named := ["watermeet/crc.steps"], apart := false, laid := [("watermeet/crc.steps", laid_watermeet_crc_steps)] }
def ChainTellsSaid : Prop := chainTellsRow.holds Tryz.pinned (OpenSpec.ofChange chainTellsSpec)

/-- ITS FALSE NEIGHBOUR: 'it returns false'. Refute it at one input. -/
def chainTellsWrong : ChangeSpec := { name := "chainTells", fn := fun _ => fun
  | [d1, d2, d3] => { results := [.lit (.bool false)], args := [d1, d2, d3] }
  | _ => none }
def ChainTellsWrongFalsely : Prop := chainTellsRow.holds Tryz.pinned (OpenSpec.ofChange chainTellsWrong)

/-- 'watermeetlaw09.ChainSteps': WHATEVER THE INPUT: true; the input reads as it did. -/
def chainStepsSpec : ChangeSpec := { name := "chainSteps", fn := fun _ => fun
  | [d1, d2, d3, d4, d5] => { results := [.lit (.bool true)], args := [d1, d2, d3, d4, d5] }
  | _ => none }
def chainStepsRow : OpenClaim := { program := "ytejcjmiofidedaagreatdoor", sum := "2193895774b7b26d0e3cbc4b5d3ae2707eb3150bee2b36137243785dfa6419f9", func := "watermeet/watermeetlaw09.ChainSteps", spec := "chainSteps", unfollowed := true, recurses := true, named := ["watermeet/crc.steps"], apart := false, laid := [("watermeet/crc.steps", laid_watermeet_crc_steps)] }
def ChainStepsSaid : Prop := chainStepsRow.holds Tryz.pinned (OpenSpec.ofChange chainStepsSpec)

/-- ITS FALSE NEIGHBOUR: 'it returns false'. Refute it at one input. -/
def chainStepsWrong : ChangeSpec := { name := "chainSteps", fn := fun _ => fun
  | [d1, d2, d3, d4, d5] => { results := [.lit (.bool false)], args := [d1, d2, d3, d4, d5] }
  | _ => none }
def ChainStepsWrongFalsely : Prop := chainStepsRow.holds Tryz.pinned (OpenSpec.ofChange chainStepsWrong)

/-- 'watermeetlaw09.ChainReads': WHATEVER THE INPUT: true; the input reads as it did. -/
def chainReadsSpec : ChangeSpec := { name := "chainReads", fn := fun _ => fun
  | [d1, d2, d3] => { results := [.lit (.bool true)], args := [d1, d2, d3] }
  | _ => none }
def chainReadsRow : OpenClaim := { program := "ytejcjmiofidedaagreatdoor", sum := "2193895774b7b26d0e3cbc4b5d3ae2707eb3150bee2b36137243785dfa6419f9", func := "watermeet/watermeetlaw09.ChainReads", spec := "chainReads", unfollowed := true, recurses := true, named := ["watermeet/crc.steps"], apart := false, laid := [("watermeet/crc.steps", laid_watermeet_crc_steps)] }
def ChainReadsSaid : Prop := chainReadsRow.holds Tryz.pinned (OpenSpec.ofChange chainReadsSpec)

/-- ITS FALSE NEIGHBOUR: 'it returns false'. Refute it at one input. -/
def chainReadsWrong : ChangeSpec := { name := "chainReads", fn := fun _ => fun
  | [d1, d2, d3] => { results := [.lit (.bool false)], args := [d1, d2, d3] }
  | _ => none }
def ChainReadsWrongFalsely : Prop := chainReadsRow.holds Tryz.pinned (OpenSpec.ofChange chainReadsWrong)

/-- 'watermeetlaw09.ChainBack': WHATEVER THE INPUT: true; the input reads as it did. -/
def chainBackSpec : ChangeSpec := { name := "chainBack", fn := fun _ => fun
  | [d1, d2, d3, d4] => { results := [.lit (.bool true)], args := [d1, d2, d3, d4] }
  | _ => none }
def chainBackRow : OpenClaim := { program := "ytejcjmiofidedaagreatdoor", sum := "2193895774b7b26d0e3cbc4b5d3ae2707eb3150bee2b36137243785dfa6419f9", func := "watermeet/watermeetlaw09.ChainBack", spec := "chainBack", unfollowed := true, recurses := true, named := ["watermeet/crc.steps"], apart := false, laid := [("watermeet/crc.steps", laid_watermeet_crc_steps)] }
def ChainBackSaid : Prop := chainBackRow.holds Tryz.pinned (OpenSpec.ofChange chainBackSpec)

/-- ITS FALSE NEIGHBOUR: 'it returns false'. Refute it at one input. -/
def chainBackWrong : ChangeSpec := { name := "chainBack", fn := fun _ => fun
  | [d1, d2, d3, d4] => { results := [.lit (.bool false)], args := [d1, d2, d3, d4] }
  | _ => none }
def ChainBackWrongFalsely : Prop := chainBackRow.holds Tryz.pinned (OpenSpec.ofChange chainBackWrong)

/-- 'watermeetlaw09.ChainOnce': WHATEVER THE INPUT: true; the input reads as it did. -/
def chainOnceSpec : ChangeSpec := { name := "chainOnce", fn := fun _ => fun
  | [d1, d2] => { results := [.lit (.bool true)], args := [d1, d2] }
  | _ => none }
def chainOnceRow : OpenClaim := { program := "ytejcjmiofidedaagreatdoor", sum := "2193895774b7b26d0e3cbc4b5d3ae2707eb3150bee2b36137243785dfa6419f9", func := "watermeet/watermeetlaw09.ChainOnce", spec := "chainOnce", unfollowed := true, recurses := true, named := ["watermeet/crc.steps"], apart := false, laid := [("watermeet/crc.steps", laid_watermeet_crc_steps)] }
def ChainOnceSaid : Prop := chainOnceRow.holds Tryz.pinned (OpenSpec.ofChange chainOnceSpec)

/-- ITS FALSE NEIGHBOUR: 'it returns false'. Refute it at one input. -/
def chainOnceWrong : ChangeSpec := { name := "chainOnce", fn := fun _ => fun
  | [d1, d2] => { results := [.lit (.bool false)], args := [d1, d2] }
  | _ => none }
def ChainOnceWrongFalsely : Prop := chainOnceRow.holds Tryz.pinned (OpenSpec.ofChange chainOnceWrong)

/-- 'watermeetlaw09.ChainMost': WHATEVER THE INPUT: true; the input reads as it did. -/
def chainMostSpec : ChangeSpec := { name := "chainMost", fn := fun _ => fun
  | [d1, d2, d3] => { results := [.lit (.bool true)], args := [d1, d2, d3] }
  | _ => none }
def chainMostRow : OpenClaim := { program := "ytejcjmiofidedaagreatdoor", sum := "2193895774b7b26d0e3cbc4b5d3ae2707eb3150bee2b36137243785dfa6419f9", func := "watermeet/watermeetlaw09.ChainMost", spec := "chainMost", unfollowed := true, recurses := true, named := ["watermeet/crc.steps"], apart := false, laid := [("watermeet/crc.steps", laid_watermeet_crc_steps)] }
def ChainMostSaid : Prop := chainMostRow.holds Tryz.pinned (OpenSpec.ofChange chainMostSpec)

/-- ITS FALSE NEIGHBOUR: 'it returns false'. Refute it at one input. -/
def chainMostWrong : ChangeSpec := { name := "chainMost", fn := fun _ => fun
  | [d1, d2, d3] => { results := [.lit (.bool false)], args := [d1, d2, d3] }
  | _ => none }
def ChainMostWrongFalsely : Prop := chainMostRow.holds Tryz.pinned (OpenSpec.ofChange chainMostWrong)

/-- 'watermeetlaw09.ChainTorn': WHATEVER THE INPUT: true; the input reads as it did. -/
def chainTornSpec : ChangeSpec := { name := "chainTorn", fn := fun _ => fun
  | [d1, d2] => { results := [.lit (.bool true)], args := [d1, d2] }
  | _ => none }
def chainTornRow : OpenClaim := { program := "ytejcjmiofidedaagreatdoor", sum := "2193895774b7b26d0e3cbc4b5d3ae2707eb3150bee2b36137243785dfa6419f9", func := "watermeet/watermeetlaw09.ChainTorn", spec := "chainTorn", unfollowed := true, recurses := true, named := ["watermeet/crc.steps"], apart := false, laid := [("watermeet/crc.steps", laid_watermeet_crc_steps)] }
def ChainTornSaid : Prop := chainTornRow.holds Tryz.pinned (OpenSpec.ofChange chainTornSpec)

/-- ITS FALSE NEIGHBOUR: 'it returns false'. Refute it at one input. -/
def chainTornWrong : ChangeSpec := { name := "chainTorn", fn := fun _ => fun
  | [d1, d2] => { results := [.lit (.bool false)], args := [d1, d2] }
  | _ => none }
def ChainTornWrongFalsely : Prop := chainTornRow.holds Tryz.pinned (OpenSpec.ofChange chainTornWrong)

/-- 'watermeetlaw09.ChainSpoilt': WHATEVER THE INPUT: true; the input reads as it did. -/
def chainSpoiltSpec : ChangeSpec := { name := "chainSpoilt", fn := fun _ => fun
  | [d1, d2, d3, d4] => { results := [.lit (.bool true)], args := [d1, d2, d3, d4] }
  | _ => none }
def chainSpoiltRow : OpenClaim := { program := "ytejcjmiofidedaagreatdoor", sum := "2193895774b7b26d0e3cbc4b5d3ae2707eb3150bee2b36137243785dfa6419f9", func := "watermeet/watermeetlaw09.ChainSpoilt", spec := "chainSpoilt", unfollowed := true, recurses := true, named := ["watermeet/crc.steps"], apart := false, laid := [("watermeet/crc.steps", laid_watermeet_crc_steps)] }
def ChainSpoiltSaid : Prop := chainSpoiltRow.holds Tryz.pinned (OpenSpec.ofChange chainSpoiltSpec)

/-- ITS FALSE NEIGHBOUR: 'it returns false'. Refute it at one input. -/
def chainSpoiltWrong : ChangeSpec := { name := "chainSpoilt", fn := fun _ => fun
  | [d1, d2, d3, d4] => { results := [.lit (.bool false)], args := [d1, d2, d3, d4] }
  | _ => none }
def ChainSpoiltWrongFalsely : Prop := chainSpoiltRow.holds Tryz.pinned (OpenSpec.ofChange chainSpoiltWrong)

/-- 'watermeetlaw09.ChainReplace': WHATEVER THE INPUT: true; the input reads as it did. -/
def chainReplaceSpec : ChangeSpec := { name := "chainReplace", fn := fun _ => fun
  | [d1, d2, d3] => { results := [.lit (.bool true)], args := [d1, d2, d3] }
  | _ => none }
def chainReplaceRow : OpenClaim := { program := "ytejcjmiofidedaagreatdoor", sum := "2193895774b7b26d0e3cbc4b5d3ae2707eb3150bee2b36137243785dfa6419f9", func := "watermeet/watermeetlaw09.ChainReplace", spec := "chainReplace", unfollowed := true, recurses := true, named := ["watermeet/crc.steps"], apart := false, laid := [("watermeet/crc.steps", laid_watermeet_crc_steps)] }
def ChainReplaceSaid : Prop := chainReplaceRow.holds Tryz.pinned (OpenSpec.ofChange chainReplaceSpec)

/-- ITS FALSE NEIGHBOUR: 'it returns false'. Refute it at one input. -/
def chainReplaceWrong : ChangeSpec := { name := "chainReplace", fn := fun _ => fun
  | [d1, d2, d3] => { results := [.lit (.bool false)], args := [d1, d2, d3] }
  | _ => none }
def ChainReplaceWrongFalsely : Prop := chainReplaceRow.holds Tryz.pinned (OpenSpec.ofChange chainReplaceWrong)

/- THE SECOND FORM. 'bulk': how many values and letters a reading holds, each counted each time it is reached (what is shared counts as often as it is met; a slice's spare places count too). A statement '..UptoSaid' is the law's where the arguments, and the package variables that the reading takes, are together of bulk at most 1048576: NARROWER than '..Said'. Prove '..Said' where nothing that the law and all that it calls make is longer than what came in: it says more and counts as full. Else prove '..UptoSaid'. A law counts once. -/
mutual
def uptoBulk {H : Type} : DataW H → Nat
  | .lit (.string bytes) => bytes.length + 1
  | .lit _ => 1
  | .nil => 1
  | .ptr d => uptoBulk d + 1
  | .slice elems spare => uptoBulkAll elems + uptoBulkAll spare + 1
  | .agg parts => uptoBulkAll parts + 1
  | .iface _ d => uptoBulk d + 1
  | .map entries => uptoBulkEntries entries + 1
  | .held _ => 1
def uptoBulkAll {H : Type} : List (DataW H) → Nat
  | [] => 0
  | d :: r => uptoBulk d + uptoBulkAll r
def uptoBulkEntries {H : Type} : List (Lit × DataW H) → Nat
  | [] => 0
  | x :: r => uptoBulkEntry x + uptoBulkEntries r
def uptoBulkEntry {H : Type} : Lit × DataW H → Nat
  | (.string bytes, d) => bytes.length + uptoBulk d + 1
  | (_, d) => uptoBulk d + 1
 end
def uptoSmall : (H : Type) → List (DataW H) → Bool := fun _ ds => decide (uptoBulkAll ds ≤ 1048576)
def OpenSpec.upto (s : _root_.Go.ChangeSpec) : _root_.Go.OpenSpec := { _root_.Go.OpenSpec.ofChange s with cond := some uptoSmall }

/-- 'watermeetlaw09.ChainTells', WHERE WHAT IT READS IS OF BULK AT MOST 1048576: true; the input reads as it did. -/
def chainTellsUptoRow : OpenClaim := { program := "ytejcjmiofidedaagreatdoor", sum := "2193895774b7b26d0e3cbc4b5d3ae2707eb3150bee2b36137243785dfa6419f9", func := "watermeet/watermeetlaw09.ChainTells", spec := "chainTells", unfollowed := true, recurses := true, named := ["watermeet/crc.steps"], apart := false, laid := [("watermeet/crc.steps", laid_watermeet_crc_steps)], narrowed := true }
def ChainTellsUptoSaid : Prop := chainTellsUptoRow.holds Tryz.pinned (OpenSpec.upto chainTellsSpec)

/-- 'watermeetlaw09.ChainSteps', WHERE WHAT IT READS IS OF BULK AT MOST 1048576: true; the input reads as it did. -/
def chainStepsUptoRow : OpenClaim := { program := "ytejcjmiofidedaagreatdoor", sum := "2193895774b7b26d0e3cbc4b5d3ae2707eb3150bee2b36137243785dfa6419f9", func := "watermeet/watermeetlaw09.ChainSteps", spec := "chainSteps", unfollowed := true, recurses := true, named := ["watermeet/crc.steps"], apart := false, laid := [("watermeet/crc.steps", laid_watermeet_crc_steps)], narrowed := true }
def ChainStepsUptoSaid : Prop := chainStepsUptoRow.holds Tryz.pinned (OpenSpec.upto chainStepsSpec)

/-- 'watermeetlaw09.ChainReads', WHERE WHAT IT READS IS OF BULK AT MOST 1048576: true; the input reads as it did. -/
def chainReadsUptoRow : OpenClaim := { program := "ytejcjmiofidedaagreatdoor", sum := "2193895774b7b26d0e3cbc4b5d3ae2707eb3150bee2b36137243785dfa6419f9", func := "watermeet/watermeetlaw09.ChainReads", spec := "chainReads", unfollowed := true, recurses := true, named := ["watermeet/crc.steps"], apart := false, laid := [("watermeet/crc.steps", laid_watermeet_crc_steps)], narrowed := true }
def ChainReadsUptoSaid : Prop := chainReadsUptoRow.holds Tryz.pinned (OpenSpec.upto chainReadsSpec)

/-- 'watermeetlaw09.ChainBack', WHERE WHAT IT READS IS OF BULK AT MOST 1048576: true; the input reads as it did. -/
def chainBackUptoRow : OpenClaim := { program := "ytejcjmiofidedaagreatdoor", sum := "2193895774b7b26d0e3cbc4b5d3ae2707eb3150bee2b36137243785dfa6419f9", func := "watermeet/watermeetlaw09.ChainBack", spec := "chainBack", unfollowed := true, recurses := true, named := ["watermeet/crc.steps"], apart := false, laid := [("watermeet/crc.steps", laid_watermeet_crc_steps)], narrowed := true }
def ChainBackUptoSaid : Prop := chainBackUptoRow.holds Tryz.pinned (OpenSpec.upto chainBackSpec)

/-- 'watermeetlaw09.ChainOnce', WHERE WHAT IT READS IS OF BULK AT MOST 1048576: true; the input reads as it did. -/
def chainOnceUptoRow : OpenClaim := { program := "ytejcjmiofidedaagreatdoor", sum := "2193895774b7b26d0e3cbc4b5d3ae2707eb3150bee2b36137243785dfa6419f9", func := "watermeet/watermeetlaw09.ChainOnce", spec := "chainOnce", unfollowed := true, recurses := true, named := ["watermeet/crc.steps"], apart := false, laid := [("watermeet/crc.steps", laid_watermeet_crc_steps)], narrowed := true }
def ChainOnceUptoSaid : Prop := chainOnceUptoRow.holds Tryz.pinned (OpenSpec.upto chainOnceSpec)

/-- 'watermeetlaw09.ChainMost', WHERE WHAT IT READS IS OF BULK AT MOST 1048576: true; the input reads as it did. -/
def chainMostUptoRow : OpenClaim := { program := "ytejcjmiofidedaagreatdoor", sum := "2193895774b7b26d0e3cbc4b5d3ae2707eb3150bee2b36137243785dfa6419f9", func := "watermeet/watermeetlaw09.ChainMost", spec := "chainMost", unfollowed := true, recurses := true, named := ["watermeet/crc.steps"], apart := false, laid := [("watermeet/crc.steps", laid_watermeet_crc_steps)], narrowed := true }
def ChainMostUptoSaid : Prop := chainMostUptoRow.holds Tryz.pinned (OpenSpec.upto chainMostSpec)

/-- 'watermeetlaw09.ChainTorn', WHERE WHAT IT READS IS OF BULK AT MOST 1048576: true; the input reads as it did. -/
def chainTornUptoRow : OpenClaim := { program := "ytejcjmiofidedaagreatdoor", sum := "2193895774b7b26d0e3cbc4b5d3ae2707eb3150bee2b36137243785dfa6419f9", func := "watermeet/watermeetlaw09.ChainTorn", spec := "chainTorn", unfollowed := true, recurses := true, named := ["watermeet/crc.steps"], apart := false, laid := [("watermeet/crc.steps", laid_watermeet_crc_steps)], narrowed := true }
def ChainTornUptoSaid : Prop := chainTornUptoRow.holds Tryz.pinned (OpenSpec.upto chainTornSpec)

/-- 'watermeetlaw09.ChainSpoilt', WHERE WHAT IT READS IS OF BULK AT MOST 1048576: true; the input reads as it did. -/
def chainSpoiltUptoRow : OpenClaim := { program := "ytejcjmiofidedaagreatdoor", sum := "2193895774b7b26d0e3cbc4b5d3ae2707eb3150bee2b36137243785dfa6419f9", func := "watermeet/watermeetlaw09.ChainSpoilt", spec := "chainSpoilt", unfollowed := true, recurses := true, named := ["watermeet/crc.steps"], apart := false, laid := [("watermeet/crc.steps", laid_watermeet_crc_steps)], narrowed := true }
def ChainSpoiltUptoSaid : Prop := chainSpoiltUptoRow.holds Tryz.pinned (OpenSpec.upto chainSpoiltSpec)

/-- 'watermeetlaw09.ChainReplace', WHERE WHAT IT READS IS OF BULK AT MOST 1048576: true; the input reads as it did. -/
def chainReplaceUptoRow : OpenClaim := { program := "ytejcjmiofidedaagreatdoor", sum := "2193895774b7b26d0e3cbc4b5d3ae2707eb3150bee2b36137243785dfa6419f9", func := "watermeet/watermeetlaw09.ChainReplace", spec := "chainReplace", unfollowed := true, recurses := true, named := ["watermeet/crc.steps"], apart := false, laid := [("watermeet/crc.steps", laid_watermeet_crc_steps)], narrowed := true }
def ChainReplaceUptoSaid : Prop := chainReplaceUptoRow.holds Tryz.pinned (OpenSpec.upto chainReplaceSpec)

end Rows
end Go.Proofs.YtejcjmiofidedaaGreatDoor
