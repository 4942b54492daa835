/-
  No cell of these rows narrows 'for every input' (looked for: loops, veiled, ifaces, maps, wideKeys, modest, calm, conditions, laid).
  DERIVED. THE GIVEN ROWS OF THIS SEAT. 8 by the template 'for every input the law returns true; each argument reads behind the call as it read before'; 0 by the template 'total and deterministic' (their statements: YtilnlmopdljeeaaTotals.lean).
  GIVEN WITH THE SEED: the statements are not yours to turn. If you find one false, say at which input.
  Laid BY PROGRAM, IN A SANDBOX (cutbox-rows.mjs): the forced cells as the released guide's own fill.sh prints them over the translation 590c9dffe1b4313b… (all of the seat's roots in one cut). By AI agents, Wed Nov 11 2026. No macro, syntax, notation, axiom, sorry.
-/
import Derived.Test.YtilnlmopdljeeaaChecked
import GoSem.Claim
import GoSem.ClaimJoined
import GoSem.ClaimMapViews
import Derived.JoinedTies
import Derived.KernelRfl
namespace Go.Proofs.Ytilnlmopdljeeaa
/- THE CELL 'sum', in the pinned program and in every row, IS THE sha256 OF THE DUMP (.gsa) THAT YtilnlmopdljeeaaProg.lean LOADS. Nothing in Lean hashes anything: it is a label: what it is worth is what the hold of that sum in a sandbox is worth. -/
noncomputable def Try.pinned : Pinned := { name := "ytilnlmopdljeeaa", sum := "590c9dffe1b4313b724a4517b318a439f268a68a6ef2a1b49a03e29bc2c7bc23", checked := Try.checked }
namespace Rows
def none {H : Type} : Left H := { results := [], args := [] }

/-- 'watermeetlaw05.FramesPuts': WHATEVER THE INPUT: true; the input reads as it did. -/
def framesPutsSpec : ChangeSpec := { name := "framesPuts", fn := fun _ => fun
  | [d] => { results := [.lit (.bool true)], args := [d] }
  | _ => none }
def framesPutsRow : OpenClaim := { program := "ytilnlmopdljeeaa", sum := "590c9dffe1b4313b724a4517b318a439f268a68a6ef2a1b49a03e29bc2c7bc23", func := "watermeet/watermeetlaw05.FramesPuts", spec := "framesPuts", unfollowed := true, recurses := true, apart := false }
def FramesPutsSaid : Prop := framesPutsRow.holds Try.pinned (OpenSpec.ofChange framesPutsSpec)

/-- ITS FALSE NEIGHBOUR: 'it returns false'. Refute it at one input. -/
def framesPutsWrong : ChangeSpec := { name := "framesPuts", fn := fun _ => fun
  | [d] => { results := [.lit (.bool false)], args := [d] }
  | _ => none }
def FramesPutsWrongFalsely : Prop := framesPutsRow.holds Try.pinned (OpenSpec.ofChange framesPutsWrong)

/-- 'watermeetlaw05.FramesSplits': WHATEVER THE INPUT: true; the input reads as it did. -/
def framesSplitsSpec : ChangeSpec := { name := "framesSplits", fn := fun _ => fun
  | [d] => { results := [.lit (.bool true)], args := [d] }
  | _ => none }
def framesSplitsRow : OpenClaim := { program := "ytilnlmopdljeeaa", sum := "590c9dffe1b4313b724a4517b318a439f268a68a6ef2a1b49a03e29bc2c7bc23", func := "watermeet/watermeetlaw05.FramesSplits", spec := "framesSplits", unfollowed := true, recurses := true, apart := false }
def FramesSplitsSaid : Prop := framesSplitsRow.holds Try.pinned (OpenSpec.ofChange framesSplitsSpec)

/-- ITS FALSE NEIGHBOUR: 'it returns false'. Refute it at one input. -/
def framesSplitsWrong : ChangeSpec := { name := "framesSplits", fn := fun _ => fun
  | [d] => { results := [.lit (.bool false)], args := [d] }
  | _ => none }
def FramesSplitsWrongFalsely : Prop := framesSplitsRow.holds Try.pinned (OpenSpec.ofChange framesSplitsWrong)

/-- 'watermeetlaw05.FramesFeeds': WHATEVER THE INPUT: true; the input reads as it did. -/
def framesFeedsSpec : ChangeSpec := { name := "framesFeeds", fn := fun _ => fun
  | [d1, d2] => { results := [.lit (.bool true)], args := [d1, d2] }
  | _ => none }
def framesFeedsRow : OpenClaim := { program := "ytilnlmopdljeeaa", sum := "590c9dffe1b4313b724a4517b318a439f268a68a6ef2a1b49a03e29bc2c7bc23", func := "watermeet/watermeetlaw05.FramesFeeds", spec := "framesFeeds", unfollowed := true, recurses := true, apart := false }
def FramesFeedsSaid : Prop := framesFeedsRow.holds Try.pinned (OpenSpec.ofChange framesFeedsSpec)

/-- ITS FALSE NEIGHBOUR: 'it returns false'. Refute it at one input. -/
def framesFeedsWrong : ChangeSpec := { name := "framesFeeds", fn := fun _ => fun
  | [d1, d2] => { results := [.lit (.bool false)], args := [d1, d2] }
  | _ => none }
def FramesFeedsWrongFalsely : Prop := framesFeedsRow.holds Try.pinned (OpenSpec.ofChange framesFeedsWrong)

/-- 'watermeetlaw05.FramesBack': WHATEVER THE INPUT: true; the input reads as it did. -/
def framesBackSpec : ChangeSpec := { name := "framesBack", fn := fun _ => fun
  | [d] => { results := [.lit (.bool true)], args := [d] }
  | _ => none }
def framesBackRow : OpenClaim := { program := "ytilnlmopdljeeaa", sum := "590c9dffe1b4313b724a4517b318a439f268a68a6ef2a1b49a03e29bc2c7bc23", func := "watermeet/watermeetlaw05.FramesBack", spec := "framesBack", unfollowed := true, recurses := true, apart := false }
def FramesBackSaid : Prop := framesBackRow.holds Try.pinned (OpenSpec.ofChange framesBackSpec)

/-- ITS FALSE NEIGHBOUR: 'it returns false'. Refute it at one input. -/
def framesBackWrong : ChangeSpec := { name := "framesBack", fn := fun _ => fun
  | [d] => { results := [.lit (.bool false)], args := [d] }
  | _ => none }
def FramesBackWrongFalsely : Prop := framesBackRow.holds Try.pinned (OpenSpec.ofChange framesBackWrong)

/-- 'watermeetlaw05.FramesStream': WHATEVER THE INPUT: true; the input reads as it did. -/
def framesStreamSpec : ChangeSpec := { name := "framesStream", fn := fun _ => fun
  | [d1, d2] => { results := [.lit (.bool true)], args := [d1, d2] }
  | _ => none }
def framesStreamRow : OpenClaim := { program := "ytilnlmopdljeeaa", sum := "590c9dffe1b4313b724a4517b318a439f268a68a6ef2a1b49a03e29bc2c7bc23", func := "watermeet/watermeetlaw05.FramesStream", spec := "framesStream", unfollowed := true, recurses := true, apart := false }
def FramesStreamSaid : Prop := framesStreamRow.holds Try.pinned (OpenSpec.ofChange framesStreamSpec)

/-- ITS FALSE NEIGHBOUR: 'it returns false'. Refute it at one input. -/
def framesStreamWrong : ChangeSpec := { name := "framesStream", fn := fun _ => fun
  | [d1, d2] => { results := [.lit (.bool false)], args := [d1, d2] }
  | _ => none }
def FramesStreamWrongFalsely : Prop := framesStreamRow.holds Try.pinned (OpenSpec.ofChange framesStreamWrong)

/-- 'watermeetlaw05.FramesRest': WHATEVER THE INPUT: true; the input reads as it did. -/
def framesRestSpec : ChangeSpec := { name := "framesRest", fn := fun _ => fun
  | [d] => { results := [.lit (.bool true)], args := [d] }
  | _ => none }
def framesRestRow : OpenClaim := { program := "ytilnlmopdljeeaa", sum := "590c9dffe1b4313b724a4517b318a439f268a68a6ef2a1b49a03e29bc2c7bc23", func := "watermeet/watermeetlaw05.FramesRest", spec := "framesRest", unfollowed := true, recurses := true, apart := false }
def FramesRestSaid : Prop := framesRestRow.holds Try.pinned (OpenSpec.ofChange framesRestSpec)

/-- ITS FALSE NEIGHBOUR: 'it returns false'. Refute it at one input. -/
def framesRestWrong : ChangeSpec := { name := "framesRest", fn := fun _ => fun
  | [d] => { results := [.lit (.bool false)], args := [d] }
  | _ => none }
def FramesRestWrongFalsely : Prop := framesRestRow.holds Try.pinned (OpenSpec.ofChange framesRestWrong)

/-- 'watermeetlaw05.FramesWrong': WHATEVER THE INPUT: true; the input reads as it did. -/
def framesWrongSpec : ChangeSpec := { name := "framesWrong", fn := fun _ => fun
  | [d1, d2, d3] => { results := [.lit (.bool true)], args := [d1, d2, d3] }
  | _ => none }
def framesWrongRow : OpenClaim := { program := "ytilnlmopdljeeaa", sum := "590c9dffe1b4313b724a4517b318a439f268a68a6ef2a1b49a03e29bc2c7bc23", func := "watermeet/watermeetlaw05.FramesWrong", spec := "framesWrong", unfollowed := true, recurses := true, apart := false }
def FramesWrongSaid : Prop := framesWrongRow.holds Try.pinned (OpenSpec.ofChange framesWrongSpec)

/-- ITS FALSE NEIGHBOUR: 'it returns false'. Refute it at one input. -/
def framesWrongWrong : ChangeSpec := { name := "framesWrong", fn := fun _ => fun
  | [d1, d2, d3] => { results := [.lit (.bool false)], args := [d1, d2, d3] }
  | _ => none }
def FramesWrongWrongFalsely : Prop := framesWrongRow.holds Try.pinned (OpenSpec.ofChange framesWrongWrong)

/-- 'watermeetlaw05.FramesLater': WHATEVER THE INPUT: true; the input reads as it did. -/
def framesLaterSpec : ChangeSpec := { name := "framesLater", fn := fun _ => fun
  | [d1, d2] => { results := [.lit (.bool true)], args := [d1, d2] }
  | _ => none }
def framesLaterRow : OpenClaim := { program := "ytilnlmopdljeeaa", sum := "590c9dffe1b4313b724a4517b318a439f268a68a6ef2a1b49a03e29bc2c7bc23", func := "watermeet/watermeetlaw05.FramesLater", spec := "framesLater", unfollowed := true, recurses := true, apart := false }
def FramesLaterSaid : Prop := framesLaterRow.holds Try.pinned (OpenSpec.ofChange framesLaterSpec)

/-- ITS FALSE NEIGHBOUR: 'it returns false'. Refute it at one input. -/
def framesLaterWrong : ChangeSpec := { name := "framesLater", fn := fun _ => fun
  | [d1, d2] => { results := [.lit (.bool false)], args := [d1, d2] }
  | _ => none }
def FramesLaterWrongFalsely : Prop := framesLaterRow.holds Try.pinned (OpenSpec.ofChange framesLaterWrong)

/- THE SECOND FORM. 'bulk': how many values and letters a reading holds, each counted each time it is reached (what is shared counts as often as it is met; a slice's spare places count too). A statement '..UptoSaid' is the law's where the arguments, and the package variables that the reading takes, are together of bulk at most 1048576: NARROWER than '..Said'. Prove '..Said' where nothing that the law and all that it calls make is longer than what came in: it says more and counts as full. Else prove '..UptoSaid'. A law counts once. -/
mutual
def uptoBulk {H : Type} : DataW H → Nat
  | .lit (.string bytes) => bytes.length + 1
  | .lit _ => 1
  | .nil => 1
  | .ptr d => uptoBulk d + 1
  | .slice elems spare => uptoBulkAll elems + uptoBulkAll spare + 1
  | .agg parts => uptoBulkAll parts + 1
  | .iface _ d => uptoBulk d + 1
  | .map entries => uptoBulkEntries entries + 1
  | .held _ => 1
def uptoBulkAll {H : Type} : List (DataW H) → Nat
  | [] => 0
  | d :: r => uptoBulk d + uptoBulkAll r
def uptoBulkEntries {H : Type} : List (Lit × DataW H) → Nat
  | [] => 0
  | x :: r => uptoBulkEntry x + uptoBulkEntries r
def uptoBulkEntry {H : Type} : Lit × DataW H → Nat
  | (.string bytes, d) => bytes.length + uptoBulk d + 1
  | (_, d) => uptoBulk d + 1
 end
def uptoSmall : (H : Type) → List (DataW H) → Bool := fun _ ds => decide (uptoBulkAll ds ≤ 1048576)
def OpenSpec.upto (s : _root_.Go.ChangeSpec) : _root_.Go.OpenSpec := { _root_.Go.OpenSpec.ofChange s with cond := some uptoSmall }

/-- 'watermeetlaw05.FramesPuts', WHERE WHAT IT READS IS OF BULK AT MOST 1048576: true; the input reads as it did. -/
def framesPutsUptoRow : OpenClaim := { program := "ytilnlmopdljeeaa", sum := "590c9dffe1b4313b724a4517b318a439f268a68a6ef2a1b49a03e29bc2c7bc23", func := "watermeet/watermeetlaw05.FramesPuts", spec := "framesPuts", unfollowed := true, recurses := true, apart := false, narrowed := true }
def FramesPutsUptoSaid : Prop := framesPutsUptoRow.holds Try.pinned (OpenSpec.upto framesPutsSpec)

/-- 'watermeetlaw05.FramesSplits', WHERE WHAT IT READS IS OF BULK AT MOST 1048576: true; the input reads as it did. -/
def framesSplitsUptoRow : OpenClaim := { program := "ytilnlmopdljeeaa", sum := "590c9dffe1b4313b724a4517b318a439f268a68a6ef2a1b49a03e29bc2c7bc23", func := "watermeet/watermeetlaw05.FramesSplits", spec := "framesSplits", unfollowed := true, recurses := true, apart := false, narrowed := true }
def FramesSplitsUptoSaid : Prop := framesSplitsUptoRow.holds Try.pinned (OpenSpec.upto framesSplitsSpec)

/-- 'watermeetlaw05.FramesFeeds', WHERE WHAT IT READS IS OF BULK AT MOST 1048576: true; the input reads as it did. -/
def framesFeedsUptoRow : OpenClaim := { program := "ytilnlmopdljeeaa", sum := "590c9dffe1b4313b724a4517b318a439f268a68a6ef2a1b49a03e29bc2c7bc23", func := "watermeet/watermeetlaw05.FramesFeeds", spec := "framesFeeds", unfollowed := true, recurses := true, apart := false, narrowed := true }
def FramesFeedsUptoSaid : Prop := framesFeedsUptoRow.holds Try.pinned (OpenSpec.upto framesFeedsSpec)

/-- 'watermeetlaw05.FramesBack', WHERE WHAT IT READS IS OF BULK AT MOST 1048576: true; the input reads as it did. -/
def framesBackUptoRow : OpenClaim := { program := "ytilnlmopdljeeaa", sum := "590c9dffe1b4313b724a4517b318a439f268a68a6ef2a1b49a03e29bc2c7bc23", func := "watermeet/watermeetlaw05.FramesBack", spec := "framesBack", unfollowed := true, recurses := true, apart := false, narrowed := true }
def FramesBackUptoSaid : Prop := framesBackUptoRow.holds Try.pinned (OpenSpec.upto framesBackSpec)

/-- 'watermeetlaw05.FramesStream', WHERE WHAT IT READS IS OF BULK AT MOST 1048576: true; the input reads as it did. -/
def framesStreamUptoRow : OpenClaim := { program := "ytilnlmopdljeeaa", sum := "590c9dffe1b4313b724a4517b318a439f268a68a6ef2a1b49a03e29bc2c7bc23", func := "watermeet/watermeetlaw05.FramesStream", spec := "framesStream", unfollowed := true, recurses := true, apart := false, narrowed := true }
def FramesStreamUptoSaid : Prop := framesStreamUptoRow.holds Try.pinned (OpenSpec.upto framesStreamSpec)

/-- 'watermeetlaw05.FramesRest', WHERE WHAT IT READS IS OF BULK AT MOST 1048576: true; the input reads as it did. -/
def framesRestUptoRow : OpenClaim := { program := "ytilnlmopdljeeaa", sum := "590c9dffe1b4313b724a4517b318a439f268a68a6ef2a1b49a03e29bc2c7bc23", func := "watermeet/watermeetlaw05.FramesRest", spec := "framesRest", unfollowed := true, recurses := true, apart := false, narrowed := true }
def FramesRestUptoSaid : Prop := framesRestUptoRow.holds Try.pinned (OpenSpec.upto framesRestSpec)

/-- 'watermeetlaw05.FramesWrong', WHERE WHAT IT READS IS OF BULK AT MOST 1048576: true; the input reads as it did. -/
def framesWrongUptoRow : OpenClaim := { program := "ytilnlmopdljeeaa", sum := "590c9dffe1b4313b724a4517b318a439f268a68a6ef2a1b49a03e29bc2c7bc23", func := "watermeet/watermeetlaw05.FramesWrong", spec := "framesWrong", unfollowed := true, recurses := true, apart := false, narrowed := true }
def FramesWrongUptoSaid : Prop := framesWrongUptoRow.holds Try.pinned (OpenSpec.upto framesWrongSpec)

/-- 'watermeetlaw05.FramesLater', WHERE WHAT IT READS IS OF BULK AT MOST 1048576: true; the input reads as it did. -/
def framesLaterUptoRow : OpenClaim := { program := "ytilnlmopdljeeaa", sum := "590c9dffe1b4313b724a4517b318a439f268a68a6ef2a1b49a03e29bc2c7bc23", func := "watermeet/watermeetlaw05.FramesLater", spec := "framesLater", unfollowed := true, recurses := true, apart := false, narrowed := true }
def FramesLaterUptoSaid : Prop := framesLaterUptoRow.holds Try.pinned (OpenSpec.upto framesLaterSpec)

end Rows
end Go.Proofs.Ytilnlmopdljeeaa
