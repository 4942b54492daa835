/-
  No cell of these rows narrows 'for every input' (looked for: loops, veiled, ifaces, maps, wideKeys, modest, calm, conditions, laid).
  DERIVED. THE GIVEN ROWS OF THIS SEAT. 9 by the template 'for every input the law returns true; each argument reads behind the call as it read before'; 0 by the template 'total and deterministic' (their statements: YtlfbagkonckffaaGreatTotals.lean).
  GIVEN WITH THE SEED: the statements are not yours to turn. If you find one false, say at which input.
  Laid BY PROGRAM, IN A SANDBOX (cutbox-rows.mjs): the forced cells as the released guide's own fill.sh prints them over the translation 7e6b9e176a50e501… (all of the seat's roots in one cut). By AI agents, Wed Nov 11 2026. No macro, syntax, notation, axiom, sorry.
-/
import Derived.Test.YtlfbagkonckffaaGreatChecked
import GoSem.Claim
import GoSem.ClaimJoined
import GoSem.ClaimMapViews
import Derived.JoinedTies
import Derived.KernelRfl
namespace Go.Proofs.YtlfbagkonckffaaGreat
/- THE CELL 'sum', in the pinned program and in every row, IS THE sha256 OF THE DUMP (.gsa) THAT YtlfbagkonckffaaGreatProg.lean LOADS. Nothing in Lean hashes anything: it is a label: what it is worth is what the hold of that sum in a sandbox is worth. -/
noncomputable def Tryz.pinned : Pinned := { name := "ytlfbagkonckffaagreat", sum := "7e6b9e176a50e5018c9c56e5e34b37a729bd220a715f4d98f1b751c0d3401535", checked := Tryz.checked }
namespace Rows
def none {H : Type} : Left H := { results := [], args := [] }

/-- 'watermeetlaw12.TxnsPut': WHATEVER THE INPUT: true; the input reads as it did. -/
def txnsPutSpec : ChangeSpec := { name := "txnsPut", fn := fun _ => fun
  | [d1, d2] => { results := [.lit (.bool true)], args := [d1, d2] }
  | _ => none }
def txnsPutRow : OpenClaim := { program := "ytlfbagkonckffaagreat", sum := "7e6b9e176a50e5018c9c56e5e34b37a729bd220a715f4d98f1b751c0d3401535", func := "watermeet/watermeetlaw12.TxnsPut", spec := "txnsPut", inPlace := ["slices.overlaps[watermeet/api.Open]"], unfollowed := true, recurses := true, apart := false }
def TxnsPutSaid : Prop := txnsPutRow.holds Tryz.pinned (OpenSpec.ofChange txnsPutSpec)

/-- ITS FALSE NEIGHBOUR: 'it returns false'. Refute it at one input. -/
def txnsPutWrong : ChangeSpec := { name := "txnsPut", fn := fun _ => fun
  | [d1, d2] => { results := [.lit (.bool false)], args := [d1, d2] }
  | _ => none }
def TxnsPutWrongFalsely : Prop := txnsPutRow.holds Tryz.pinned (OpenSpec.ofChange txnsPutWrong)

/-- 'watermeetlaw12.TxnsTells': WHATEVER THE INPUT: true; the input reads as it did. -/
def txnsTellsSpec : ChangeSpec := { name := "txnsTells", fn := fun _ => fun
  | [d1, d2, d3, d4] => { results := [.lit (.bool true)], args := [d1, d2, d3, d4] }
  | _ => none }
def txnsTellsRow : OpenClaim := { program := "ytlfbagkonckffaagreat", sum := "7e6b9e176a50e5018c9c56e5e34b37a729bd220a715f4d98f1b751c0d3401535", func := "watermeet/watermeetlaw12.TxnsTells", spec := "txnsTells", inPlace := ["slices.overlaps[watermeet/api.Open]"], unfollowed := true, recurses := true, apart := false }
def TxnsTellsSaid : Prop := txnsTellsRow.holds Tryz.pinned (OpenSpec.ofChange txnsTellsSpec)

/-- ITS FALSE NEIGHBOUR: 'it returns false'. Refute it at one input. -/
def txnsTellsWrong : ChangeSpec := { name := "txnsTells", fn := fun _ => fun
  | [d1, d2, d3, d4] => { results := [.lit (.bool false)], args := [d1, d2, d3, d4] }
  | _ => none }
def TxnsTellsWrongFalsely : Prop := txnsTellsRow.holds Tryz.pinned (OpenSpec.ofChange txnsTellsWrong)

/-- 'watermeetlaw12.TxnsWhole': WHATEVER THE INPUT: true; the input reads as it did. -/
def txnsWholeSpec : ChangeSpec := { name := "txnsWhole", fn := fun _ => fun
  | [d1, d2] => { results := [.lit (.bool true)], args := [d1, d2] }
  | _ => none }
def txnsWholeRow : OpenClaim := { program := "ytlfbagkonckffaagreat", sum := "7e6b9e176a50e5018c9c56e5e34b37a729bd220a715f4d98f1b751c0d3401535", func := "watermeet/watermeetlaw12.TxnsWhole", spec := "txnsWhole", inPlace := ["slices.overlaps[watermeet/api.Open]"], unfollowed := true, recurses := true, apart := false }
def TxnsWholeSaid : Prop := txnsWholeRow.holds Tryz.pinned (OpenSpec.ofChange txnsWholeSpec)

/-- ITS FALSE NEIGHBOUR: 'it returns false'. Refute it at one input. -/
def txnsWholeWrong : ChangeSpec := { name := "txnsWhole", fn := fun _ => fun
  | [d1, d2] => { results := [.lit (.bool false)], args := [d1, d2] }
  | _ => none }
def TxnsWholeWrongFalsely : Prop := txnsWholeRow.holds Tryz.pinned (OpenSpec.ofChange txnsWholeWrong)

/-- 'watermeetlaw12.TxnsStep': WHATEVER THE INPUT: true; the input reads as it did. -/
def txnsStepSpec : ChangeSpec := { name := "txnsStep", fn := fun _ => fun
  | [d1, d2] => { results := [.lit (.bool true)], args := [d1, d2] }
  | _ => none }
def txnsStepRow : OpenClaim := { program := "ytlfbagkonckffaagreat", sum := "7e6b9e176a50e5018c9c56e5e34b37a729bd220a715f4d98f1b751c0d3401535", func := "watermeet/watermeetlaw12.TxnsStep", spec := "txnsStep", inPlace := ["slices.overlaps[watermeet/api.Open]"], unfollowed := true, recurses := true, apart := false }
def TxnsStepSaid : Prop := txnsStepRow.holds Tryz.pinned (OpenSpec.ofChange txnsStepSpec)

/-- ITS FALSE NEIGHBOUR: 'it returns false'. Refute it at one input. -/
def txnsStepWrong : ChangeSpec := { name := "txnsStep", fn := fun _ => fun
  | [d1, d2] => { results := [.lit (.bool false)], args := [d1, d2] }
  | _ => none }
def TxnsStepWrongFalsely : Prop := txnsStepRow.holds Tryz.pinned (OpenSpec.ofChange txnsStepWrong)

/-- 'watermeetlaw12.TxnsEnd': WHATEVER THE INPUT: true; the input reads as it did. -/
def txnsEndSpec : ChangeSpec := { name := "txnsEnd", fn := fun _ => fun
  | [d1, d2, d3, d4, d5] => { results := [.lit (.bool true)], args := [d1, d2, d3, d4, d5] }
  | _ => none }
def txnsEndRow : OpenClaim := { program := "ytlfbagkonckffaagreat", sum := "7e6b9e176a50e5018c9c56e5e34b37a729bd220a715f4d98f1b751c0d3401535", func := "watermeet/watermeetlaw12.TxnsEnd", spec := "txnsEnd", inPlace := ["slices.overlaps[watermeet/api.Open]"], unfollowed := true, recurses := true, apart := false }
def TxnsEndSaid : Prop := txnsEndRow.holds Tryz.pinned (OpenSpec.ofChange txnsEndSpec)

/-- ITS FALSE NEIGHBOUR: 'it returns false'. Refute it at one input. -/
def txnsEndWrong : ChangeSpec := { name := "txnsEnd", fn := fun _ => fun
  | [d1, d2, d3, d4, d5] => { results := [.lit (.bool false)], args := [d1, d2, d3, d4, d5] }
  | _ => none }
def TxnsEndWrongFalsely : Prop := txnsEndRow.holds Tryz.pinned (OpenSpec.ofChange txnsEndWrong)

/-- 'watermeetlaw12.TxnsStable': WHATEVER THE INPUT: true; the input reads as it did. -/
def txnsStableSpec : ChangeSpec := { name := "txnsStable", fn := fun _ => fun
  | [d1, d2] => { results := [.lit (.bool true)], args := [d1, d2] }
  | _ => none }
def txnsStableRow : OpenClaim := { program := "ytlfbagkonckffaagreat", sum := "7e6b9e176a50e5018c9c56e5e34b37a729bd220a715f4d98f1b751c0d3401535", func := "watermeet/watermeetlaw12.TxnsStable", spec := "txnsStable", inPlace := ["slices.overlaps[watermeet/api.Open]"], unfollowed := true, recurses := true, apart := false }
def TxnsStableSaid : Prop := txnsStableRow.holds Tryz.pinned (OpenSpec.ofChange txnsStableSpec)

/-- ITS FALSE NEIGHBOUR: 'it returns false'. Refute it at one input. -/
def txnsStableWrong : ChangeSpec := { name := "txnsStable", fn := fun _ => fun
  | [d1, d2] => { results := [.lit (.bool false)], args := [d1, d2] }
  | _ => none }
def TxnsStableWrongFalsely : Prop := txnsStableRow.holds Tryz.pinned (OpenSpec.ofChange txnsStableWrong)

/-- 'watermeetlaw12.TxnsRow': WHATEVER THE INPUT: true; the input reads as it did. -/
def txnsRowSpec : ChangeSpec := { name := "txnsRow", fn := fun _ => fun
  | [d] => { results := [.lit (.bool true)], args := [d] }
  | _ => none }
def txnsRowRow : OpenClaim := { program := "ytlfbagkonckffaagreat", sum := "7e6b9e176a50e5018c9c56e5e34b37a729bd220a715f4d98f1b751c0d3401535", func := "watermeet/watermeetlaw12.TxnsRow", spec := "txnsRow", inPlace := ["slices.overlaps[watermeet/api.Open]"], unfollowed := true, recurses := true, apart := false }
def TxnsRowSaid : Prop := txnsRowRow.holds Tryz.pinned (OpenSpec.ofChange txnsRowSpec)

/-- ITS FALSE NEIGHBOUR: 'it returns false'. Refute it at one input. -/
def txnsRowWrong : ChangeSpec := { name := "txnsRow", fn := fun _ => fun
  | [d] => { results := [.lit (.bool false)], args := [d] }
  | _ => none }
def TxnsRowWrongFalsely : Prop := txnsRowRow.holds Tryz.pinned (OpenSpec.ofChange txnsRowWrong)

/-- 'watermeetlaw12.TxnsHidden': WHATEVER THE INPUT: true; the input reads as it did. -/
def txnsHiddenSpec : ChangeSpec := { name := "txnsHidden", fn := fun _ => fun
  | [d1, d2, d3] => { results := [.lit (.bool true)], args := [d1, d2, d3] }
  | _ => none }
def txnsHiddenRow : OpenClaim := { program := "ytlfbagkonckffaagreat", sum := "7e6b9e176a50e5018c9c56e5e34b37a729bd220a715f4d98f1b751c0d3401535", func := "watermeet/watermeetlaw12.TxnsHidden", spec := "txnsHidden", inPlace := ["slices.overlaps[watermeet/api.Open]"], unfollowed := true, recurses := true, apart := false }
def TxnsHiddenSaid : Prop := txnsHiddenRow.holds Tryz.pinned (OpenSpec.ofChange txnsHiddenSpec)

/-- ITS FALSE NEIGHBOUR: 'it returns false'. Refute it at one input. -/
def txnsHiddenWrong : ChangeSpec := { name := "txnsHidden", fn := fun _ => fun
  | [d1, d2, d3] => { results := [.lit (.bool false)], args := [d1, d2, d3] }
  | _ => none }
def TxnsHiddenWrongFalsely : Prop := txnsHiddenRow.holds Tryz.pinned (OpenSpec.ofChange txnsHiddenWrong)

/-- 'watermeetlaw12.TxnsShown': WHATEVER THE INPUT: true; the input reads as it did. -/
def txnsShownSpec : ChangeSpec := { name := "txnsShown", fn := fun _ => fun
  | [d1, d2, d3, d4] => { results := [.lit (.bool true)], args := [d1, d2, d3, d4] }
  | _ => none }
def txnsShownRow : OpenClaim := { program := "ytlfbagkonckffaagreat", sum := "7e6b9e176a50e5018c9c56e5e34b37a729bd220a715f4d98f1b751c0d3401535", func := "watermeet/watermeetlaw12.TxnsShown", spec := "txnsShown", inPlace := ["slices.overlaps[watermeet/api.Open]"], unfollowed := true, recurses := true, apart := false }
def TxnsShownSaid : Prop := txnsShownRow.holds Tryz.pinned (OpenSpec.ofChange txnsShownSpec)

/-- ITS FALSE NEIGHBOUR: 'it returns false'. Refute it at one input. -/
def txnsShownWrong : ChangeSpec := { name := "txnsShown", fn := fun _ => fun
  | [d1, d2, d3, d4] => { results := [.lit (.bool false)], args := [d1, d2, d3, d4] }
  | _ => none }
def TxnsShownWrongFalsely : Prop := txnsShownRow.holds Tryz.pinned (OpenSpec.ofChange txnsShownWrong)

/- THE SECOND FORM. 'bulk': how many values and letters a reading holds, each counted each time it is reached (what is shared counts as often as it is met; a slice's spare places count too). A statement '..UptoSaid' is the law's where the arguments, and the package variables that the reading takes, are together of bulk at most 1048576: NARROWER than '..Said'. Prove '..Said' where nothing that the law and all that it calls make is longer than what came in: it says more and counts as full. Else prove '..UptoSaid'. A law counts once. -/
mutual
def uptoBulk {H : Type} : DataW H → Nat
  | .lit (.string bytes) => bytes.length + 1
  | .lit _ => 1
  | .nil => 1
  | .ptr d => uptoBulk d + 1
  | .slice elems spare => uptoBulkAll elems + uptoBulkAll spare + 1
  | .agg parts => uptoBulkAll parts + 1
  | .iface _ d => uptoBulk d + 1
  | .map entries => uptoBulkEntries entries + 1
  | .held _ => 1
def uptoBulkAll {H : Type} : List (DataW H) → Nat
  | [] => 0
  | d :: r => uptoBulk d + uptoBulkAll r
def uptoBulkEntries {H : Type} : List (Lit × DataW H) → Nat
  | [] => 0
  | x :: r => uptoBulkEntry x + uptoBulkEntries r
def uptoBulkEntry {H : Type} : Lit × DataW H → Nat
  | (.string bytes, d) => bytes.length + uptoBulk d + 1
  | (_, d) => uptoBulk d + 1
 end
def uptoSmall : (H : Type) → List (DataW H) → Bool := fun _ ds => decide (uptoBulkAll ds ≤ 1048576)
def OpenSpec.upto (s : _root_.Go.ChangeSpec) : _root_.Go.OpenSpec := { _root_.Go.OpenSpec.ofChange s with cond := some uptoSmall }

/-- 'watermeetlaw12.TxnsPut', WHERE WHAT IT READS IS OF BULK AT MOST 1048576: true; the input reads as it did. -/
def txnsPutUptoRow : OpenClaim := { program := "ytlfbagkonckffaagreat", sum := "7e6b9e176a50e5018c9c56e5e34b37a729bd220a715f4d98f1b751c0d3401535", func := "watermeet/watermeetlaw12.TxnsPut", spec := "txnsPut", inPlace := ["slices.overlaps[watermeet/api.Open]"], unfollowed := true, recurses := true, apart := false, narrowed := true }
def TxnsPutUptoSaid : Prop := txnsPutUptoRow.holds Tryz.pinned (OpenSpec.upto txnsPutSpec)

/-- 'watermeetlaw12.TxnsTells', WHERE WHAT IT READS IS OF BULK AT MOST 1048576: true; the input reads as it did. -/
def txnsTellsUptoRow : OpenClaim := { program := "ytlfbagkonckffaagreat", sum := "7e6b9e176a50e5018c9c56e5e34b37a729bd220a715f4d98f1b751c0d3401535", func := "watermeet/watermeetlaw12.TxnsTells", spec := "txnsTells", inPlace := ["slices.overlaps[watermeet/api.Open]"], unfollowed := true, recurses := true, apart := false, narrowed := true }
def TxnsTellsUptoSaid : Prop := txnsTellsUptoRow.holds Tryz.pinned (OpenSpec.upto txnsTellsSpec)

/-- 'watermeetlaw12.TxnsWhole', WHERE WHAT IT READS IS OF BULK AT MOST 1048576: true; the input reads as it did. -/
def txnsWholeUptoRow : OpenClaim := { program := "ytlfbagkonckffaagreat", sum := "7e6b9e176a50e5018c9c56e5e34b37a729bd220a715f4d98f1b751c0d3401535", func := "watermeet/watermeetlaw12.TxnsWhole", spec := "txnsWhole", inPlace := ["slices.overlaps[watermeet/api.Open]"], unfollowed := true, recurses := true, apart := false, narrowed := true }
def TxnsWholeUptoSaid : Prop := txnsWholeUptoRow.holds Tryz.pinned (OpenSpec.upto txnsWholeSpec)

/-- 'watermeetlaw12.TxnsStep', WHERE WHAT IT READS IS OF BULK AT MOST 1048576: true; the input reads as it did. -/
def txnsStepUptoRow : OpenClaim := { program := "ytlfbagkonckffaagreat", sum := "7e6b9e176a50e5018c9c56e5e34b37a729bd220a715f4d98f1b751c0d3401535", func := "watermeet/watermeetlaw12.TxnsStep", spec := "txnsStep", inPlace := ["slices.overlaps[watermeet/api.Open]"], unfollowed := true, recurses := true, apart := false, narrowed := true }
def TxnsStepUptoSaid : Prop := txnsStepUptoRow.holds Tryz.pinned (OpenSpec.upto txnsStepSpec)

/-- 'watermeetlaw12.TxnsEnd', WHERE WHAT IT READS IS OF BULK AT MOST 1048576: true; the input reads as it did. -/
def txnsEndUptoRow : OpenClaim := { program := "ytlfbagkonckffaagreat", sum := "7e6b9e176a50e5018c9c56e5e34b37a729bd220a715f4d98f1b751c0d3401535", func := "watermeet/watermeetlaw12.TxnsEnd", spec := "txnsEnd", inPlace := ["slices.overlaps[watermeet/api.Open]"], unfollowed := true, recurses := true, apart := false, narrowed := true }
def TxnsEndUptoSaid : Prop := txnsEndUptoRow.holds Tryz.pinned (OpenSpec.upto txnsEndSpec)

/-- 'watermeetlaw12.TxnsStable', WHERE WHAT IT READS IS OF BULK AT MOST 1048576: true; the input reads as it did. -/
def txnsStableUptoRow : OpenClaim := { program := "ytlfbagkonckffaagreat", sum := "7e6b9e176a50e5018c9c56e5e34b37a729bd220a715f4d98f1b751c0d3401535", func := "watermeet/watermeetlaw12.TxnsStable", spec := "txnsStable", inPlace := ["slices.overlaps[watermeet/api.Open]"], unfollowed := true, recurses := true, apart := false, narrowed := true }
def TxnsStableUptoSaid : Prop := txnsStableUptoRow.holds Tryz.pinned (OpenSpec.upto txnsStableSpec)

/-- 'watermeetlaw12.TxnsRow', WHERE WHAT IT READS IS OF BULK AT MOST 1048576: true; the input reads as it did. -/
def txnsRowUptoRow : OpenClaim := { program := "ytlfbagkonckffaagreat", sum := "7e6b9e176a50e5018c9c56e5e34b37a729bd220a715f4d98f1b751c0d3401535", func := "watermeet/watermeetlaw12.TxnsRow", spec := "txnsRow", inPlace := ["slices.overlaps[watermeet/api.Open]"], unfollowed := true, recurses := true, apart := false, narrowed := true }
def TxnsRowUptoSaid : Prop := txnsRowUptoRow.holds Tryz.pinned (OpenSpec.upto txnsRowSpec)

/-- 'watermeetlaw12.TxnsHidden', WHERE WHAT IT READS IS OF BULK AT MOST 1048576: true; the input reads as it did. -/
def txnsHiddenUptoRow : OpenClaim := { program := "ytlfbagkonckffaagreat", sum := "7e6b9e176a50e5018c9c56e5e34b37a729bd220a715f4d98f1b751c0d3401535", func := "watermeet/watermeetlaw12.TxnsHidden", spec := "txnsHidden", inPlace := ["slices.overlaps[watermeet/api.Open]"], unfollowed := true, recurses := true, apart := false, narrowed := true }
def TxnsHiddenUptoSaid : Prop := txnsHiddenUptoRow.holds Tryz.pinned (OpenSpec.upto txnsHiddenSpec)

/-- 'watermeetlaw12.TxnsShown', WHERE WHAT IT READS IS OF BULK AT MOST 1048576: true; the input reads as it did. -/
def txnsShownUptoRow : OpenClaim := { program := "ytlfbagkonckffaagreat", sum := "7e6b9e176a50e5018c9c56e5e34b37a729bd220a715f4d98f1b751c0d3401535", func := "watermeet/watermeetlaw12.TxnsShown", spec := "txnsShown", inPlace := ["slices.overlaps[watermeet/api.Open]"], unfollowed := true, recurses := true, apart := false, narrowed := true }
def TxnsShownUptoSaid : Prop := txnsShownUptoRow.holds Tryz.pinned (OpenSpec.upto txnsShownSpec)

end Rows
end Go.Proofs.YtlfbagkonckffaaGreat
