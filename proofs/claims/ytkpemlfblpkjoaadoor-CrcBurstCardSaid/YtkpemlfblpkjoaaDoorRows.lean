/-
  NARROWER THAN 'FOR EVERY INPUT', by the rows' own cells (each row's printed sentence says how): CrcTells: laid · CrcSeals: laid · CrcJoins: laid · CrcBehind: laid · CrcGroups: laid · CrcBack: laid · CrcOnly: laid · CrcBurst: laid · CrcEven: laid.
  DERIVED. THE GIVEN ROWS OF THIS SEAT. 9 by the template 'for every input the law returns true; each argument reads behind the call as it read before'; 0 by the template 'total and deterministic' (their statements: YtkpemlfblpkjoaaDoorTotals.lean).
  GIVEN WITH THE SEED: the statements are not yours to turn. If you find one false, say at which input.
  Laid BY PROGRAM, IN A SANDBOX (cutbox-rows.mjs): the forced cells as the released guide's own fill.sh prints them over the translation fece9656e55628f5… (all of the seat's roots in one cut). By AI agents, Wed Nov 11 2026. No macro, syntax, notation, axiom, sorry.
-/
import Derived.Test.YtkpemlfblpkjoaaDoorChecked
import GoSem.Claim
import GoSem.ClaimJoined
import GoSem.ClaimMapViews
import Derived.JoinedTies
import Derived.KernelRfl
namespace Go.Proofs.YtkpemlfblpkjoaaDoor
/- THE CELL 'sum', in the pinned program and in every row, IS THE sha256 OF THE DUMP (.gsa) THAT YtkpemlfblpkjoaaDoorProg.lean LOADS. Nothing in Lean hashes anything: it is a label: what it is worth is what the hold of that sum in a sandbox is worth. -/
noncomputable def Tryd.pinned : Pinned := { name := "ytkpemlfblpkjoaadoor", sum := "fece9656e55628f598d8b0f7c7bf917ef486cca359d1c035722ede5290fe054b", checked := Tryd.checked }
namespace Rows
def none {H : Type} : Left H := { results := [], args := [] }

/- WHAT THE LISTED PACKAGE-LEVEL VARIABLES READ AS WHEN THE CALL BEGINS. Each datum BY PROGRAM (the guide's laid-datum.mjs) off the statement by which the dump's own 'gosem.cut.vars' lays the variable. In a bare row this is a premise. The card (YtkpemlfblpkjoaaDoorCards.lean) ties it to the program's text. -/
def laid_watermeet_crc_steps {H : Type} : DataW H := .agg [.lit (.int .u32 0), .lit (.int .u32 498536548), .lit (.int .u32 997073096), .lit (.int .u32 651767980), .lit (.int .u32 1994146192), .lit (.int .u32 1802195444), .lit (.int .u32 1303535960), .lit (.int .u32 1342533948), .lit (.int .u32 3988292384), .lit (.int .u32 4027552580), .lit (.int .u32 3604390888), .lit (.int .u32 3412177804), .lit (.int .u32 2607071920), .lit (.int .u32 2262029012), .lit (.int .u32 2685067896), .lit (.int .u32 3183342108)]

/-- 'watermeetlaw02.CrcTells': WHATEVER THE INPUT: true; the input reads as it did. -/
def crcTellsSpec : ChangeSpec := { name := "crcTells", fn := fun _ => fun
  | [d] => { results := [.lit (.bool true)], args := [d] }
  | _ => none }
def crcTellsRow : OpenClaim := { program := "ytkpemlfblpkjoaadoor", sum := "fece9656e55628f598d8b0f7c7bf917ef486cca359d1c035722ede5290fe054b", func := "watermeet/watermeetlaw02.CrcTells", spec := "crcTells", unfollowed := true, recurses := true, named := ["watermeet/crc.steps"], apart := false, laid := [("watermeet/crc.steps", laid_watermeet_crc_steps)] }
def CrcTellsSaid : Prop := crcTellsRow.holds Tryd.pinned (OpenSpec.ofChange crcTellsSpec)

/-- ITS FALSE NEIGHBOUR: 'it returns false'. Refute it at one input. -/
def crcTellsWrong : ChangeSpec := { name := "crcTells", fn := fun _ => fun
  | [d] => { results := [.lit (.bool false)], args := [d] }
  | _ => none }
def CrcTellsWrongFalsely : Prop := crcTellsRow.holds Tryd.pinned (OpenSpec.ofChange crcTellsWrong)

/-- 'watermeetlaw02.CrcSeals': WHATEVER THE INPUT: true; the input reads as it did. -/
def crcSealsSpec : ChangeSpec := { name := "crcSeals", fn := fun _ => fun
  | [d] => { results := [.lit (.bool true)], args := [d] }
  | _ => none }
def crcSealsRow : OpenClaim := { program := "ytkpemlfblpkjoaadoor", sum := "fece9656e55628f598d8b0f7c7bf917ef486cca359d1c035722ede5290fe054b", func := "watermeet/watermeetlaw02.CrcSeals", spec := "crcSeals", unfollowed := true, recurses := true, named := ["watermeet/crc.steps"], apart := false, laid := [("watermeet/crc.steps", laid_watermeet_crc_steps)] }
def CrcSealsSaid : Prop := crcSealsRow.holds Tryd.pinned (OpenSpec.ofChange crcSealsSpec)

/-- ITS FALSE NEIGHBOUR: 'it returns false'. Refute it at one input. -/
def crcSealsWrong : ChangeSpec := { name := "crcSeals", fn := fun _ => fun
  | [d] => { results := [.lit (.bool false)], args := [d] }
  | _ => none }
def CrcSealsWrongFalsely : Prop := crcSealsRow.holds Tryd.pinned (OpenSpec.ofChange crcSealsWrong)

/-- 'watermeetlaw02.CrcJoins': WHATEVER THE INPUT: true; the input reads as it did. -/
def crcJoinsSpec : ChangeSpec := { name := "crcJoins", fn := fun _ => fun
  | [d1, d2, d3] => { results := [.lit (.bool true)], args := [d1, d2, d3] }
  | _ => none }
def crcJoinsRow : OpenClaim := { program := "ytkpemlfblpkjoaadoor", sum := "fece9656e55628f598d8b0f7c7bf917ef486cca359d1c035722ede5290fe054b", func := "watermeet/watermeetlaw02.CrcJoins", spec := "crcJoins", unfollowed := true, recurses := true, named := ["watermeet/crc.steps"], apart := false, laid := [("watermeet/crc.steps", laid_watermeet_crc_steps)] }
def CrcJoinsSaid : Prop := crcJoinsRow.holds Tryd.pinned (OpenSpec.ofChange crcJoinsSpec)

/-- ITS FALSE NEIGHBOUR: 'it returns false'. Refute it at one input. -/
def crcJoinsWrong : ChangeSpec := { name := "crcJoins", fn := fun _ => fun
  | [d1, d2, d3] => { results := [.lit (.bool false)], args := [d1, d2, d3] }
  | _ => none }
def CrcJoinsWrongFalsely : Prop := crcJoinsRow.holds Tryd.pinned (OpenSpec.ofChange crcJoinsWrong)

/-- 'watermeetlaw02.CrcBehind': WHATEVER THE INPUT: true; the input reads as it did. -/
def crcBehindSpec : ChangeSpec := { name := "crcBehind", fn := fun _ => fun
  | [d1, d2] => { results := [.lit (.bool true)], args := [d1, d2] }
  | _ => none }
def crcBehindRow : OpenClaim := { program := "ytkpemlfblpkjoaadoor", sum := "fece9656e55628f598d8b0f7c7bf917ef486cca359d1c035722ede5290fe054b", func := "watermeet/watermeetlaw02.CrcBehind", spec := "crcBehind", unfollowed := true, recurses := true, named := ["watermeet/crc.steps"], apart := false, laid := [("watermeet/crc.steps", laid_watermeet_crc_steps)] }
def CrcBehindSaid : Prop := crcBehindRow.holds Tryd.pinned (OpenSpec.ofChange crcBehindSpec)

/-- ITS FALSE NEIGHBOUR: 'it returns false'. Refute it at one input. -/
def crcBehindWrong : ChangeSpec := { name := "crcBehind", fn := fun _ => fun
  | [d1, d2] => { results := [.lit (.bool false)], args := [d1, d2] }
  | _ => none }
def CrcBehindWrongFalsely : Prop := crcBehindRow.holds Tryd.pinned (OpenSpec.ofChange crcBehindWrong)

/-- 'watermeetlaw02.CrcGroups': WHATEVER THE INPUT: true; the input reads as it did. -/
def crcGroupsSpec : ChangeSpec := { name := "crcGroups", fn := fun _ => fun
  | [d1, d2, d3, d4, d5] => { results := [.lit (.bool true)], args := [d1, d2, d3, d4, d5] }
  | _ => none }
def crcGroupsRow : OpenClaim := { program := "ytkpemlfblpkjoaadoor", sum := "fece9656e55628f598d8b0f7c7bf917ef486cca359d1c035722ede5290fe054b", func := "watermeet/watermeetlaw02.CrcGroups", spec := "crcGroups", unfollowed := true, recurses := true, named := ["watermeet/crc.steps"], apart := false, laid := [("watermeet/crc.steps", laid_watermeet_crc_steps)] }
def CrcGroupsSaid : Prop := crcGroupsRow.holds Tryd.pinned (OpenSpec.ofChange crcGroupsSpec)

/-- ITS FALSE NEIGHBOUR: 'it returns false'. Refute it at one input. -/
def crcGroupsWrong : ChangeSpec := { name := "crcGroups", fn := fun _ => fun
  | [d1, d2, d3, d4, d5] => { results := [.lit (.bool false)], args := [d1, d2, d3, d4, d5] }
  | _ => none }
def CrcGroupsWrongFalsely : Prop := crcGroupsRow.holds Tryd.pinned (OpenSpec.ofChange crcGroupsWrong)

/-- 'watermeetlaw02.CrcBack': WHATEVER THE INPUT: true; the input reads as it did. -/
def crcBackSpec : ChangeSpec := { name := "crcBack", fn := fun _ => fun
  | [d] => { results := [.lit (.bool true)], args := [d] }
  | _ => none }
def crcBackRow : OpenClaim := { program := "ytkpemlfblpkjoaadoor", sum := "fece9656e55628f598d8b0f7c7bf917ef486cca359d1c035722ede5290fe054b", func := "watermeet/watermeetlaw02.CrcBack", spec := "crcBack", unfollowed := true, recurses := true, named := ["watermeet/crc.steps"], apart := false, laid := [("watermeet/crc.steps", laid_watermeet_crc_steps)] }
def CrcBackSaid : Prop := crcBackRow.holds Tryd.pinned (OpenSpec.ofChange crcBackSpec)

/-- ITS FALSE NEIGHBOUR: 'it returns false'. Refute it at one input. -/
def crcBackWrong : ChangeSpec := { name := "crcBack", fn := fun _ => fun
  | [d] => { results := [.lit (.bool false)], args := [d] }
  | _ => none }
def CrcBackWrongFalsely : Prop := crcBackRow.holds Tryd.pinned (OpenSpec.ofChange crcBackWrong)

/-- 'watermeetlaw02.CrcOnly': WHATEVER THE INPUT: true; the input reads as it did. -/
def crcOnlySpec : ChangeSpec := { name := "crcOnly", fn := fun _ => fun
  | [d] => { results := [.lit (.bool true)], args := [d] }
  | _ => none }
def crcOnlyRow : OpenClaim := { program := "ytkpemlfblpkjoaadoor", sum := "fece9656e55628f598d8b0f7c7bf917ef486cca359d1c035722ede5290fe054b", func := "watermeet/watermeetlaw02.CrcOnly", spec := "crcOnly", unfollowed := true, recurses := true, named := ["watermeet/crc.steps"], apart := false, laid := [("watermeet/crc.steps", laid_watermeet_crc_steps)] }
def CrcOnlySaid : Prop := crcOnlyRow.holds Tryd.pinned (OpenSpec.ofChange crcOnlySpec)

/-- ITS FALSE NEIGHBOUR: 'it returns false'. Refute it at one input. -/
def crcOnlyWrong : ChangeSpec := { name := "crcOnly", fn := fun _ => fun
  | [d] => { results := [.lit (.bool false)], args := [d] }
  | _ => none }
def CrcOnlyWrongFalsely : Prop := crcOnlyRow.holds Tryd.pinned (OpenSpec.ofChange crcOnlyWrong)

/-- 'watermeetlaw02.CrcBurst': WHATEVER THE INPUT: true; the input reads as it did. -/
def crcBurstSpec : ChangeSpec := { name := "crcBurst", fn := fun _ => fun
  | [d1, d2, d3] => { results := [.lit (.bool true)], args := [d1, d2, d3] }
  | _ => none }
def crcBurstRow : OpenClaim := { program := "ytkpemlfblpkjoaadoor", sum := "fece9656e55628f598d8b0f7c7bf917ef486cca359d1c035722ede5290fe054b", func := "watermeet/watermeetlaw02.CrcBurst", spec := "crcBurst", unfollowed := true, recurses := true, named := ["watermeet/crc.steps"], apart := false, laid := [("watermeet/crc.steps", laid_watermeet_crc_steps)] }
def CrcBurstSaid : Prop := crcBurstRow.holds Tryd.pinned (OpenSpec.ofChange crcBurstSpec)

/-- ITS FALSE NEIGHBOUR: 'it returns false'. Refute it at one input. -/
def crcBurstWrong : ChangeSpec := { name := "crcBurst", fn := fun _ => fun
  | [d1, d2, d3] => { results := [.lit (.bool false)], args := [d1, d2, d3] }
  | _ => none }
def CrcBurstWrongFalsely : Prop := crcBurstRow.holds Tryd.pinned (OpenSpec.ofChange crcBurstWrong)

/-- 'watermeetlaw02.CrcEven': WHATEVER THE INPUT: true; the input reads as it did. -/
def crcEvenSpec : ChangeSpec := { name := "crcEven", fn := fun _ => fun
  | [d1, d2, d3] => { results := [.lit (.bool true)], args := [d1, d2, d3] }
  | _ => none }
def crcEvenRow : OpenClaim := { program := "ytkpemlfblpkjoaadoor", sum := "fece9656e55628f598d8b0f7c7bf917ef486cca359d1c035722ede5290fe054b", func := "watermeet/watermeetlaw02.CrcEven", spec := "crcEven", unfollowed := true, recurses := true, named := ["watermeet/crc.steps"], apart := false, laid := [("watermeet/crc.steps", laid_watermeet_crc_steps)] }
def CrcEvenSaid : Prop := crcEvenRow.holds Tryd.pinned (OpenSpec.ofChange crcEvenSpec)

/-- ITS FALSE NEIGHBOUR: 'it returns false'. Refute it at one input. -/
def crcEvenWrong : ChangeSpec := { name := "crcEven", fn := fun _ => fun
  | [d1, d2, d3] => { results := [.lit (.bool false)], args := [d1, d2, d3] }
  | _ => none }
def CrcEvenWrongFalsely : Prop := crcEvenRow.holds Tryd.pinned (OpenSpec.ofChange crcEvenWrong)

/- THE SECOND FORM. 'bulk': how many values and letters a reading holds, each counted each time it is reached (what is shared counts as often as it is met; a slice's spare places count too). A statement '..UptoSaid' is the law's where the arguments, and the package variables that the reading takes, are together of bulk at most 1048576: NARROWER than '..Said'. Prove '..Said' where nothing that the law and all that it calls make is longer than what came in: it says more and counts as full. Else prove '..UptoSaid'. A law counts once. -/
mutual
def uptoBulk {H : Type} : DataW H → Nat
  | .lit (.string bytes) => bytes.length + 1
  | .lit _ => 1
  | .nil => 1
  | .ptr d => uptoBulk d + 1
  | .slice elems spare => uptoBulkAll elems + uptoBulkAll spare + 1
  | .agg parts => uptoBulkAll parts + 1
  | .iface _ d => uptoBulk d + 1
  | .map entries => uptoBulkEntries entries + 1
  | .held _ => 1
def uptoBulkAll {H : Type} : List (DataW H) → Nat
  | [] => 0
  | d :: r => uptoBulk d + uptoBulkAll r
def uptoBulkEntries {H : Type} : List (Lit × DataW H) → Nat
  | [] => 0
  | x :: r => uptoBulkEntry x + uptoBulkEntries r
def uptoBulkEntry {H : Type} : Lit × DataW H → Nat
  | (.string bytes, d) => bytes.length + uptoBulk d + 1
  | (_, d) => uptoBulk d + 1
 end
def uptoSmall : (H : Type) → List (DataW H) → Bool := fun _ ds => decide (uptoBulkAll ds ≤ 1048576)
def OpenSpec.upto (s : _root_.Go.ChangeSpec) : _root_.Go.OpenSpec := { _root_.Go.OpenSpec.ofChange s with cond := some uptoSmall }

/-- 'watermeetlaw02.CrcTells', WHERE WHAT IT READS IS OF BULK AT MOST 1048576: true; the input reads as it did. -/
def crcTellsUptoRow : OpenClaim := { program := "ytkpemlfblpkjoaadoor", sum := "fece9656e55628f598d8b0f7c7bf917ef486cca359d1c035722ede5290fe054b", func := "watermeet/watermeetlaw02.CrcTells", spec := "crcTells", unfollowed := true, recurses := true, named := ["watermeet/crc.steps"], apart := false, laid := [("watermeet/crc.steps", laid_watermeet_crc_steps)], narrowed := true }
def CrcTellsUptoSaid : Prop := crcTellsUptoRow.holds Tryd.pinned (OpenSpec.upto crcTellsSpec)

/-- 'watermeetlaw02.CrcSeals', WHERE WHAT IT READS IS OF BULK AT MOST 1048576: true; the input reads as it did. -/
def crcSealsUptoRow : OpenClaim := { program := "ytkpemlfblpkjoaadoor", sum := "fece9656e55628f598d8b0f7c7bf917ef486cca359d1c035722ede5290fe054b", func := "watermeet/watermeetlaw02.CrcSeals", spec := "crcSeals", unfollowed := true, recurses := true, named := ["watermeet/crc.steps"], apart := false, laid := [("watermeet/crc.steps", laid_watermeet_crc_steps)], narrowed := true }
def CrcSealsUptoSaid : Prop := crcSealsUptoRow.holds Tryd.pinned (OpenSpec.upto crcSealsSpec)

/-- 'watermeetlaw02.CrcJoins', WHERE WHAT IT READS IS OF BULK AT MOST 1048576: true; the input reads as it did. -/
def crcJoinsUptoRow : OpenClaim := { program := "ytkpemlfblpkjoaadoor", sum := "fece9656e55628f598d8b0f7c7bf917ef486cca359d1c035722ede5290fe054b", func := "watermeet/watermeetlaw02.CrcJoins", spec := "crcJoins", unfollowed := true, recurses := true, named := ["watermeet/crc.steps"], apart := false, laid := [("watermeet/crc.steps", laid_watermeet_crc_steps)], narrowed := true }
def CrcJoinsUptoSaid : Prop := crcJoinsUptoRow.holds Tryd.pinned (OpenSpec.upto crcJoinsSpec)

/-- 'watermeetlaw02.CrcBehind', WHERE WHAT IT READS IS OF BULK AT MOST 1048576: true; the input reads as it did. -/
def crcBehindUptoRow : OpenClaim := { program := "ytkpemlfblpkjoaadoor", sum := "fece9656e55628f598d8b0f7c7bf917ef486cca359d1c035722ede5290fe054b", func := "watermeet/watermeetlaw02.CrcBehind", spec := "crcBehind", unfollowed := true, recurses := true, named := ["watermeet/crc.steps"], apart := false, laid := [("watermeet/crc.steps", laid_watermeet_crc_steps)], narrowed := true }
def CrcBehindUptoSaid : Prop := crcBehindUptoRow.holds Tryd.pinned (OpenSpec.upto crcBehindSpec)

/-- 'watermeetlaw02.CrcGroups', WHERE WHAT IT READS IS OF BULK AT MOST 1048576: true; the input reads as it did. -/
def crcGroupsUptoRow : OpenClaim := { program := "ytkpemlfblpkjoaadoor", sum := "fece9656e55628f598d8b0f7c7bf917ef486cca359d1c035722ede5290fe054b", func := "watermeet/watermeetlaw02.CrcGroups", spec := "crcGroups", unfollowed := true, recurses := true, named := ["watermeet/crc.steps"], apart := false, laid := [("watermeet/crc.steps", laid_watermeet_crc_steps)], narrowed := true }
def CrcGroupsUptoSaid : Prop := crcGroupsUptoRow.holds Tryd.pinned (OpenSpec.upto crcGroupsSpec)

/-- 'watermeetlaw02.CrcBack', WHERE WHAT IT READS IS OF BULK AT MOST 1048576: true; the input reads as it did. -/
def crcBackUptoRow : OpenClaim := { program := "ytkpemlfblpkjoaadoor", sum := "fece9656e55628f598d8b0f7c7bf917ef486cca359d1c035722ede5290fe054b", func := "watermeet/watermeetlaw02.CrcBack", spec := "crcBack", unfollowed := true, recurses := true, named := ["watermeet/crc.steps"], apart := false, laid := [("watermeet/crc.steps", laid_watermeet_crc_steps)], narrowed := true }
def CrcBackUptoSaid : Prop := crcBackUptoRow.holds Tryd.pinned (OpenSpec.upto crcBackSpec)

/-- 'watermeetlaw02.CrcOnly', WHERE WHAT IT READS IS OF BULK AT MOST 1048576: true; the input reads as it did. -/
def crcOnlyUptoRow : OpenClaim := { program := "ytkpemlfblpkjoaadoor", sum := "fece9656e55628f598d8b0f7c7bf917ef486cca359d1c035722ede5290fe054b", func := "watermeet/watermeetlaw02.CrcOnly", spec := "crcOnly", unfollowed := true, recurses := true, named := ["watermeet/crc.steps"], apart := false, laid := [("watermeet/crc.steps", laid_watermeet_crc_steps)], narrowed := true }
def CrcOnlyUptoSaid : Prop := crcOnlyUptoRow.holds Tryd.pinned (OpenSpec.upto crcOnlySpec)

/-- 'watermeetlaw02.CrcBurst', WHERE WHAT IT READS IS OF BULK AT MOST 1048576: true; the input reads as it did. -/
def crcBurstUptoRow : OpenClaim := { program := "ytkpemlfblpkjoaadoor", sum := "fece9656e55628f598d8b0f7c7bf917ef486cca359d1c035722ede5290fe054b", func := "watermeet/watermeetlaw02.CrcBurst", spec := "crcBurst", unfollowed := true, recurses := true, named := ["watermeet/crc.steps"], apart := false, laid := [("watermeet/crc.steps", laid_watermeet_crc_steps)], narrowed := true }
def CrcBurstUptoSaid : Prop := crcBurstUptoRow.holds Tryd.pinned (OpenSpec.upto crcBurstSpec)

/-- 'watermeetlaw02.CrcEven', WHERE WHAT IT READS IS OF BULK AT MOST 1048576: true; the input reads as it did. -/
def crcEvenUptoRow : OpenClaim := { program := "ytkpemlfblpkjoaadoor", sum := "fece9656e55628f598d8b0f7c7bf917ef486cca359d1c035722ede5290fe054b", func := "watermeet/watermeetlaw02.CrcEven", spec := "crcEven", unfollowed := true, recurses := true, named := ["watermeet/crc.steps"], apart := false, laid := [("watermeet/crc.steps", laid_watermeet_crc_steps)], narrowed := true }
def CrcEvenUptoSaid : Prop := crcEvenUptoRow.holds Tryd.pinned (OpenSpec.upto crcEvenSpec)

end Rows
end Go.Proofs.YtkpemlfblpkjoaaDoor
