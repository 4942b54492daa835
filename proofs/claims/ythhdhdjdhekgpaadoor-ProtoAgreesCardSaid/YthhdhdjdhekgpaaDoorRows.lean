/-
  NARROWER THAN 'FOR EVERY INPUT', by the rows' own cells (each row's printed sentence says how): ProtoReqs: laid · ProtoResps: laid · ProtoAgrees: laid · ProtoBack: laid · ProtoOnly: laid · ProtoMeet: laid · ProtoVersions: laid · ProtoWaits: laid · ProtoTotal: laid.
  DERIVED. THE GIVEN ROWS OF THIS SEAT. 9 by the template 'for every input the law returns true; each argument reads behind the call as it read before'; 0 by the template 'total and deterministic' (their statements: YthhdhdjdhekgpaaDoorTotals.lean).
  GIVEN WITH THE SEED: the statements are not yours to turn. If you find one false, say at which input.
  Laid BY PROGRAM, IN A SANDBOX (cutbox-rows.mjs): the forced cells as the released guide's own fill.sh prints them over the translation 221bc05ea99b3ca1… (all of the seat's roots in one cut). By AI agents, Wed Nov 11 2026. No macro, syntax, notation, axiom, sorry.
-/
import Derived.Test.YthhdhdjdhekgpaaDoorChecked
import GoSem.Claim
import GoSem.ClaimJoined
import GoSem.ClaimMapViews
import Derived.JoinedTies
import Derived.KernelRfl
namespace Go.Proofs.YthhdhdjdhekgpaaDoor
/- THE CELL 'sum', in the pinned program and in every row, IS THE sha256 OF THE DUMP (.gsa) THAT YthhdhdjdhekgpaaDoorProg.lean LOADS. Nothing in Lean hashes anything: it is a label: what it is worth is what the hold of that sum in a sandbox is worth. -/
noncomputable def Tryd.pinned : Pinned := { name := "ythhdhdjdhekgpaadoor", sum := "221bc05ea99b3ca1495f2434d82ade1ef4e5ec2829e5097f0cfb5842e33c9db0", checked := Tryd.checked }
namespace Rows
def none {H : Type} : Left H := { results := [], args := [] }

/- WHAT THE LISTED PACKAGE-LEVEL VARIABLES READ AS WHEN THE CALL BEGINS. Each datum BY PROGRAM (the guide's laid-datum.mjs) off the statement by which the dump's own 'gosem.cut.vars' lays the variable. In a bare row this is a premise. The card (YthhdhdjdhekgpaaDoorCards.lean) ties it to the program's text. -/
def laid_watermeet_proto_shapes {H : Type} : DataW H := .agg [.agg [.lit (.int .i64 0), .lit (.int .i64 0), .lit (.int .i64 0), .lit (.int .i64 0)], .agg [.lit (.int .i64 0), .lit (.int .i64 1), .lit (.int .i64 0), .lit (.int .i64 0)], .agg [.lit (.int .i64 2), .lit (.int .i64 1), .lit (.int .i64 0), .lit (.int .i64 2048)], .agg [.lit (.int .i64 4), .lit (.int .i64 2), .lit (.int .i64 0), .lit (.int .i64 0)], .agg [.lit (.int .i64 5), .lit (.int .i64 3), .lit (.int .i64 0), .lit (.int .i64 0)], .agg [.lit (.int .i64 3), .lit (.int .i64 1), .lit (.int .i64 0), .lit (.int .i64 0)], .agg [.lit (.int .i64 5), .lit (.int .i64 1), .lit (.int .i64 0), .lit (.int .i64 0)], .agg [.lit (.int .i64 0), .lit (.int .i64 3), .lit (.int .i64 12), .lit (.int .i64 0)], .agg [.lit (.int .i64 1), .lit (.int .i64 2), .lit (.int .i64 0), .lit (.int .i64 0)], .agg [.lit (.int .i64 1), .lit (.int .i64 2), .lit (.int .i64 0), .lit (.int .i64 0)], .agg [.lit (.int .i64 0), .lit (.int .i64 2), .lit (.int .i64 0), .lit (.int .i64 0)], .agg [.lit (.int .i64 4), .lit (.int .i64 3), .lit (.int .i64 0), .lit (.int .i64 0)], .agg [.lit (.int .i64 2), .lit (.int .i64 2), .lit (.int .i64 0), .lit (.int .i64 0)]]

/-- 'watermeetlaw06.ProtoReqs': WHATEVER THE INPUT: true; the input reads as it did. -/
def protoReqsSpec : ChangeSpec := { name := "protoReqs", fn := fun _ => fun
  | [d1, d2] => { results := [.lit (.bool true)], args := [d1, d2] }
  | _ => none }
def protoReqsRow : OpenClaim := { program := "ythhdhdjdhekgpaadoor", sum := "221bc05ea99b3ca1495f2434d82ade1ef4e5ec2829e5097f0cfb5842e33c9db0", func := "watermeet/watermeetlaw06.ProtoReqs", spec := "protoReqs", unfollowed := true, recurses := true, named := ["watermeet/proto.shapes"], apart := false, laid := [("watermeet/proto.shapes", laid_watermeet_proto_shapes)] }
def ProtoReqsSaid : Prop := protoReqsRow.holds Tryd.pinned (OpenSpec.ofChange protoReqsSpec)

/-- ITS FALSE NEIGHBOUR: 'it returns false'. Refute it at one input. -/
def protoReqsWrong : ChangeSpec := { name := "protoReqs", fn := fun _ => fun
  | [d1, d2] => { results := [.lit (.bool false)], args := [d1, d2] }
  | _ => none }
def ProtoReqsWrongFalsely : Prop := protoReqsRow.holds Tryd.pinned (OpenSpec.ofChange protoReqsWrong)

/-- 'watermeetlaw06.ProtoResps': WHATEVER THE INPUT: true; the input reads as it did. -/
def protoRespsSpec : ChangeSpec := { name := "protoResps", fn := fun _ => fun
  | [d1, d2] => { results := [.lit (.bool true)], args := [d1, d2] }
  | _ => none }
def protoRespsRow : OpenClaim := { program := "ythhdhdjdhekgpaadoor", sum := "221bc05ea99b3ca1495f2434d82ade1ef4e5ec2829e5097f0cfb5842e33c9db0", func := "watermeet/watermeetlaw06.ProtoResps", spec := "protoResps", unfollowed := true, recurses := true, named := ["watermeet/proto.shapes"], apart := false, laid := [("watermeet/proto.shapes", laid_watermeet_proto_shapes)] }
def ProtoRespsSaid : Prop := protoRespsRow.holds Tryd.pinned (OpenSpec.ofChange protoRespsSpec)

/-- ITS FALSE NEIGHBOUR: 'it returns false'. Refute it at one input. -/
def protoRespsWrong : ChangeSpec := { name := "protoResps", fn := fun _ => fun
  | [d1, d2] => { results := [.lit (.bool false)], args := [d1, d2] }
  | _ => none }
def ProtoRespsWrongFalsely : Prop := protoRespsRow.holds Tryd.pinned (OpenSpec.ofChange protoRespsWrong)

/-- 'watermeetlaw06.ProtoAgrees': WHATEVER THE INPUT: true; the input reads as it did. -/
def protoAgreesSpec : ChangeSpec := { name := "protoAgrees", fn := fun _ => fun
  | [d1, d2] => { results := [.lit (.bool true)], args := [d1, d2] }
  | _ => none }
def protoAgreesRow : OpenClaim := { program := "ythhdhdjdhekgpaadoor", sum := "221bc05ea99b3ca1495f2434d82ade1ef4e5ec2829e5097f0cfb5842e33c9db0", func := "watermeet/watermeetlaw06.ProtoAgrees", spec := "protoAgrees", unfollowed := true, recurses := true, named := ["watermeet/proto.shapes"], apart := false, laid := [("watermeet/proto.shapes", laid_watermeet_proto_shapes)] }
def ProtoAgreesSaid : Prop := protoAgreesRow.holds Tryd.pinned (OpenSpec.ofChange protoAgreesSpec)

/-- ITS FALSE NEIGHBOUR: 'it returns false'. Refute it at one input. -/
def protoAgreesWrong : ChangeSpec := { name := "protoAgrees", fn := fun _ => fun
  | [d1, d2] => { results := [.lit (.bool false)], args := [d1, d2] }
  | _ => none }
def ProtoAgreesWrongFalsely : Prop := protoAgreesRow.holds Tryd.pinned (OpenSpec.ofChange protoAgreesWrong)

/-- 'watermeetlaw06.ProtoBack': WHATEVER THE INPUT: true; the input reads as it did. -/
def protoBackSpec : ChangeSpec := { name := "protoBack", fn := fun _ => fun
  | [d1, d2, d3, d4] => { results := [.lit (.bool true)], args := [d1, d2, d3, d4] }
  | _ => none }
def protoBackRow : OpenClaim := { program := "ythhdhdjdhekgpaadoor", sum := "221bc05ea99b3ca1495f2434d82ade1ef4e5ec2829e5097f0cfb5842e33c9db0", func := "watermeet/watermeetlaw06.ProtoBack", spec := "protoBack", unfollowed := true, recurses := true, named := ["watermeet/proto.shapes"], apart := false, laid := [("watermeet/proto.shapes", laid_watermeet_proto_shapes)] }
def ProtoBackSaid : Prop := protoBackRow.holds Tryd.pinned (OpenSpec.ofChange protoBackSpec)

/-- ITS FALSE NEIGHBOUR: 'it returns false'. Refute it at one input. -/
def protoBackWrong : ChangeSpec := { name := "protoBack", fn := fun _ => fun
  | [d1, d2, d3, d4] => { results := [.lit (.bool false)], args := [d1, d2, d3, d4] }
  | _ => none }
def ProtoBackWrongFalsely : Prop := protoBackRow.holds Tryd.pinned (OpenSpec.ofChange protoBackWrong)

/-- 'watermeetlaw06.ProtoOnly': WHATEVER THE INPUT: true; the input reads as it did. -/
def protoOnlySpec : ChangeSpec := { name := "protoOnly", fn := fun _ => fun
  | [d] => { results := [.lit (.bool true)], args := [d] }
  | _ => none }
def protoOnlyRow : OpenClaim := { program := "ythhdhdjdhekgpaadoor", sum := "221bc05ea99b3ca1495f2434d82ade1ef4e5ec2829e5097f0cfb5842e33c9db0", func := "watermeet/watermeetlaw06.ProtoOnly", spec := "protoOnly", unfollowed := true, recurses := true, named := ["watermeet/proto.shapes"], apart := false, laid := [("watermeet/proto.shapes", laid_watermeet_proto_shapes)] }
def ProtoOnlySaid : Prop := protoOnlyRow.holds Tryd.pinned (OpenSpec.ofChange protoOnlySpec)

/-- ITS FALSE NEIGHBOUR: 'it returns false'. Refute it at one input. -/
def protoOnlyWrong : ChangeSpec := { name := "protoOnly", fn := fun _ => fun
  | [d] => { results := [.lit (.bool false)], args := [d] }
  | _ => none }
def ProtoOnlyWrongFalsely : Prop := protoOnlyRow.holds Tryd.pinned (OpenSpec.ofChange protoOnlyWrong)

/-- 'watermeetlaw06.ProtoMeet': WHATEVER THE INPUT: true; the input reads as it did. -/
def protoMeetSpec : ChangeSpec := { name := "protoMeet", fn := fun _ => fun
  | [d1, d2] => { results := [.lit (.bool true)], args := [d1, d2] }
  | _ => none }
def protoMeetRow : OpenClaim := { program := "ythhdhdjdhekgpaadoor", sum := "221bc05ea99b3ca1495f2434d82ade1ef4e5ec2829e5097f0cfb5842e33c9db0", func := "watermeet/watermeetlaw06.ProtoMeet", spec := "protoMeet", unfollowed := true, recurses := true, named := ["watermeet/proto.shapes"], apart := false, laid := [("watermeet/proto.shapes", laid_watermeet_proto_shapes)] }
def ProtoMeetSaid : Prop := protoMeetRow.holds Tryd.pinned (OpenSpec.ofChange protoMeetSpec)

/-- ITS FALSE NEIGHBOUR: 'it returns false'. Refute it at one input. -/
def protoMeetWrong : ChangeSpec := { name := "protoMeet", fn := fun _ => fun
  | [d1, d2] => { results := [.lit (.bool false)], args := [d1, d2] }
  | _ => none }
def ProtoMeetWrongFalsely : Prop := protoMeetRow.holds Tryd.pinned (OpenSpec.ofChange protoMeetWrong)

/-- 'watermeetlaw06.ProtoVersions': WHATEVER THE INPUT: true; the input reads as it did. -/
def protoVersionsSpec : ChangeSpec := { name := "protoVersions", fn := fun _ => fun
  | [d] => { results := [.lit (.bool true)], args := [d] }
  | _ => none }
def protoVersionsRow : OpenClaim := { program := "ythhdhdjdhekgpaadoor", sum := "221bc05ea99b3ca1495f2434d82ade1ef4e5ec2829e5097f0cfb5842e33c9db0", func := "watermeet/watermeetlaw06.ProtoVersions", spec := "protoVersions", unfollowed := true, recurses := true, named := ["watermeet/proto.shapes"], apart := false, laid := [("watermeet/proto.shapes", laid_watermeet_proto_shapes)] }
def ProtoVersionsSaid : Prop := protoVersionsRow.holds Tryd.pinned (OpenSpec.ofChange protoVersionsSpec)

/-- ITS FALSE NEIGHBOUR: 'it returns false'. Refute it at one input. -/
def protoVersionsWrong : ChangeSpec := { name := "protoVersions", fn := fun _ => fun
  | [d] => { results := [.lit (.bool false)], args := [d] }
  | _ => none }
def ProtoVersionsWrongFalsely : Prop := protoVersionsRow.holds Tryd.pinned (OpenSpec.ofChange protoVersionsWrong)

/-- 'watermeetlaw06.ProtoWaits': WHATEVER THE INPUT: true; the input reads as it did. -/
def protoWaitsSpec : ChangeSpec := { name := "protoWaits", fn := fun _ => fun
  | [d] => { results := [.lit (.bool true)], args := [d] }
  | _ => none }
def protoWaitsRow : OpenClaim := { program := "ythhdhdjdhekgpaadoor", sum := "221bc05ea99b3ca1495f2434d82ade1ef4e5ec2829e5097f0cfb5842e33c9db0", func := "watermeet/watermeetlaw06.ProtoWaits", spec := "protoWaits", unfollowed := true, recurses := true, named := ["watermeet/proto.shapes"], apart := false, laid := [("watermeet/proto.shapes", laid_watermeet_proto_shapes)] }
def ProtoWaitsSaid : Prop := protoWaitsRow.holds Tryd.pinned (OpenSpec.ofChange protoWaitsSpec)

/-- ITS FALSE NEIGHBOUR: 'it returns false'. Refute it at one input. -/
def protoWaitsWrong : ChangeSpec := { name := "protoWaits", fn := fun _ => fun
  | [d] => { results := [.lit (.bool false)], args := [d] }
  | _ => none }
def ProtoWaitsWrongFalsely : Prop := protoWaitsRow.holds Tryd.pinned (OpenSpec.ofChange protoWaitsWrong)

/-- 'watermeetlaw06.ProtoTotal': WHATEVER THE INPUT: true; the input reads as it did. -/
def protoTotalSpec : ChangeSpec := { name := "protoTotal", fn := fun _ => fun
  | [d] => { results := [.lit (.bool true)], args := [d] }
  | _ => none }
def protoTotalRow : OpenClaim := { program := "ythhdhdjdhekgpaadoor", sum := "221bc05ea99b3ca1495f2434d82ade1ef4e5ec2829e5097f0cfb5842e33c9db0", func := "watermeet/watermeetlaw06.ProtoTotal", spec := "protoTotal", unfollowed := true, recurses := true, named := ["watermeet/proto.shapes"], apart := false, laid := [("watermeet/proto.shapes", laid_watermeet_proto_shapes)] }
def ProtoTotalSaid : Prop := protoTotalRow.holds Tryd.pinned (OpenSpec.ofChange protoTotalSpec)

/-- ITS FALSE NEIGHBOUR: 'it returns false'. Refute it at one input. -/
def protoTotalWrong : ChangeSpec := { name := "protoTotal", fn := fun _ => fun
  | [d] => { results := [.lit (.bool false)], args := [d] }
  | _ => none }
def ProtoTotalWrongFalsely : Prop := protoTotalRow.holds Tryd.pinned (OpenSpec.ofChange protoTotalWrong)

/- THE SECOND FORM. 'bulk': how many values and letters a reading holds, each counted each time it is reached (what is shared counts as often as it is met; a slice's spare places count too). A statement '..UptoSaid' is the law's where the arguments, and the package variables that the reading takes, are together of bulk at most 1048576: NARROWER than '..Said'. Prove '..Said' where nothing that the law and all that it calls make is longer than what came in: it says more and counts as full. Else prove '..UptoSaid'. A law counts once. -/
mutual
def uptoBulk {H : Type} : DataW H → Nat
  | .lit (.string bytes) => bytes.length + 1
  | .lit _ => 1
  | .nil => 1
  | .ptr d => uptoBulk d + 1
  | .slice elems spare => uptoBulkAll elems + uptoBulkAll spare + 1
  | .agg parts => uptoBulkAll parts + 1
  | .iface _ d => uptoBulk d + 1
  | .map entries => uptoBulkEntries entries + 1
  | .held _ => 1
def uptoBulkAll {H : Type} : List (DataW H) → Nat
  | [] => 0
  | d :: r => uptoBulk d + uptoBulkAll r
def uptoBulkEntries {H : Type} : List (Lit × DataW H) → Nat
  | [] => 0
  | x :: r => uptoBulkEntry x + uptoBulkEntries r
def uptoBulkEntry {H : Type} : Lit × DataW H → Nat
  | (.string bytes, d) => bytes.length + uptoBulk d + 1
  | (_, d) => uptoBulk d + 1
 end
def uptoSmall : (H : Type) → List (DataW H) → Bool := fun _ ds => decide (uptoBulkAll ds ≤ 1048576)
def OpenSpec.upto (s : _root_.Go.ChangeSpec) : _root_.Go.OpenSpec := { _root_.Go.OpenSpec.ofChange s with cond := some uptoSmall }

/-- 'watermeetlaw06.ProtoReqs', WHERE WHAT IT READS IS OF BULK AT MOST 1048576: true; the input reads as it did. -/
def protoReqsUptoRow : OpenClaim := { program := "ythhdhdjdhekgpaadoor", sum := "221bc05ea99b3ca1495f2434d82ade1ef4e5ec2829e5097f0cfb5842e33c9db0", func := "watermeet/watermeetlaw06.ProtoReqs", spec := "protoReqs", unfollowed := true, recurses := true, named := ["watermeet/proto.shapes"], apart := false, laid := [("watermeet/proto.shapes", laid_watermeet_proto_shapes)], narrowed := true }
def ProtoReqsUptoSaid : Prop := protoReqsUptoRow.holds Tryd.pinned (OpenSpec.upto protoReqsSpec)

/-- 'watermeetlaw06.ProtoResps', WHERE WHAT IT READS IS OF BULK AT MOST 1048576: true; the input reads as it did. -/
def protoRespsUptoRow : OpenClaim := { program := "ythhdhdjdhekgpaadoor", sum := "221bc05ea99b3ca1495f2434d82ade1ef4e5ec2829e5097f0cfb5842e33c9db0", func := "watermeet/watermeetlaw06.ProtoResps", spec := "protoResps", unfollowed := true, recurses := true, named := ["watermeet/proto.shapes"], apart := false, laid := [("watermeet/proto.shapes", laid_watermeet_proto_shapes)], narrowed := true }
def ProtoRespsUptoSaid : Prop := protoRespsUptoRow.holds Tryd.pinned (OpenSpec.upto protoRespsSpec)

/-- 'watermeetlaw06.ProtoAgrees', WHERE WHAT IT READS IS OF BULK AT MOST 1048576: true; the input reads as it did. -/
def protoAgreesUptoRow : OpenClaim := { program := "ythhdhdjdhekgpaadoor", sum := "221bc05ea99b3ca1495f2434d82ade1ef4e5ec2829e5097f0cfb5842e33c9db0", func := "watermeet/watermeetlaw06.ProtoAgrees", spec := "protoAgrees", unfollowed := true, recurses := true, named := ["watermeet/proto.shapes"], apart := false, laid := [("watermeet/proto.shapes", laid_watermeet_proto_shapes)], narrowed := true }
def ProtoAgreesUptoSaid : Prop := protoAgreesUptoRow.holds Tryd.pinned (OpenSpec.upto protoAgreesSpec)

/-- 'watermeetlaw06.ProtoBack', WHERE WHAT IT READS IS OF BULK AT MOST 1048576: true; the input reads as it did. -/
def protoBackUptoRow : OpenClaim := { program := "ythhdhdjdhekgpaadoor", sum := "221bc05ea99b3ca1495f2434d82ade1ef4e5ec2829e5097f0cfb5842e33c9db0", func := "watermeet/watermeetlaw06.ProtoBack", spec := "protoBack", unfollowed := true, recurses := true, named := ["watermeet/proto.shapes"], apart := false, laid := [("watermeet/proto.shapes", laid_watermeet_proto_shapes)], narrowed := true }
def ProtoBackUptoSaid : Prop := protoBackUptoRow.holds Tryd.pinned (OpenSpec.upto protoBackSpec)

/-- 'watermeetlaw06.ProtoOnly', WHERE WHAT IT READS IS OF BULK AT MOST 1048576: true; the input reads as it did. -/
def protoOnlyUptoRow : OpenClaim := { program := "ythhdhdjdhekgpaadoor", sum := "221bc05ea99b3ca1495f2434d82ade1ef4e5ec2829e5097f0cfb5842e33c9db0", func := "watermeet/watermeetlaw06.ProtoOnly", spec := "protoOnly", unfollowed := true, recurses := true, named := ["watermeet/proto.shapes"], apart := false, laid := [("watermeet/proto.shapes", laid_watermeet_proto_shapes)], narrowed := true }
def ProtoOnlyUptoSaid : Prop := protoOnlyUptoRow.holds Tryd.pinned (OpenSpec.upto protoOnlySpec)

/-- 'watermeetlaw06.ProtoMeet', WHERE WHAT IT READS IS OF BULK AT MOST 1048576: true; the input reads as it did. -/
def protoMeetUptoRow : OpenClaim := { program := "ythhdhdjdhekgpaadoor", sum := "221bc05ea99b3ca1495f2434d82ade1ef4e5ec2829e5097f0cfb5842e33c9db0", func := "watermeet/watermeetlaw06.ProtoMeet", spec := "protoMeet", unfollowed := true, recurses := true, named := ["watermeet/proto.shapes"], apart := false, laid := [("watermeet/proto.shapes", laid_watermeet_proto_shapes)], narrowed := true }
def ProtoMeetUptoSaid : Prop := protoMeetUptoRow.holds Tryd.pinned (OpenSpec.upto protoMeetSpec)

/-- 'watermeetlaw06.ProtoVersions', WHERE WHAT IT READS IS OF BULK AT MOST 1048576: true; the input reads as it did. -/
def protoVersionsUptoRow : OpenClaim := { program := "ythhdhdjdhekgpaadoor", sum := "221bc05ea99b3ca1495f2434d82ade1ef4e5ec2829e5097f0cfb5842e33c9db0", func := "watermeet/watermeetlaw06.ProtoVersions", spec := "protoVersions", unfollowed := true, recurses := true, named := ["watermeet/proto.shapes"], apart := false, laid := [("watermeet/proto.shapes", laid_watermeet_proto_shapes)], narrowed := true }
def ProtoVersionsUptoSaid : Prop := protoVersionsUptoRow.holds Tryd.pinned (OpenSpec.upto protoVersionsSpec)

/-- 'watermeetlaw06.ProtoWaits', WHERE WHAT IT READS IS OF BULK AT MOST 1048576: true; the input reads as it did. -/
def protoWaitsUptoRow : OpenClaim := { program := "ythhdhdjdhekgpaadoor", sum := "221bc05ea99b3ca1495f2434d82ade1ef4e5ec2829e5097f0cfb5842e33c9db0", func := "watermeet/watermeetlaw06.ProtoWaits", spec := "protoWaits", unfollowed := true, recurses := true, named := ["watermeet/proto.shapes"], apart := false, laid := [("watermeet/proto.shapes", laid_watermeet_proto_shapes)], narrowed := true }
def ProtoWaitsUptoSaid : Prop := protoWaitsUptoRow.holds Tryd.pinned (OpenSpec.upto protoWaitsSpec)

/-- 'watermeetlaw06.ProtoTotal', WHERE WHAT IT READS IS OF BULK AT MOST 1048576: true; the input reads as it did. -/
def protoTotalUptoRow : OpenClaim := { program := "ythhdhdjdhekgpaadoor", sum := "221bc05ea99b3ca1495f2434d82ade1ef4e5ec2829e5097f0cfb5842e33c9db0", func := "watermeet/watermeetlaw06.ProtoTotal", spec := "protoTotal", unfollowed := true, recurses := true, named := ["watermeet/proto.shapes"], apart := false, laid := [("watermeet/proto.shapes", laid_watermeet_proto_shapes)], narrowed := true }
def ProtoTotalUptoSaid : Prop := protoTotalUptoRow.holds Tryd.pinned (OpenSpec.upto protoTotalSpec)

end Rows
end Go.Proofs.YthhdhdjdhekgpaaDoor
