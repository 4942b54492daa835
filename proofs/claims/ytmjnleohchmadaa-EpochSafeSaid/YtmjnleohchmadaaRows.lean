/-
  No cell of these rows narrows 'for every input' (looked for: loops, veiled, ifaces, maps, wideKeys, modest, calm, conditions, laid).
  DERIVED. THE GIVEN ROWS OF THIS SEAT. 8 by the template 'for every input the law returns true; each argument reads behind the call as it read before'; 0 by the template 'total and deterministic' (their statements: YtmjnleohchmadaaTotals.lean).
  GIVEN WITH THE SEED: the statements are not yours to turn. If you find one false, say at which input.
  Laid BY PROGRAM, IN A SANDBOX (cutbox-rows.mjs): the forced cells as the released guide's own fill.sh prints them over the translation f939dbe696bdbd35… (all of the seat's roots in one cut). By AI agents, Wed Nov 11 2026. No macro, syntax, notation, axiom, sorry.
-/
import Derived.Test.YtmjnleohchmadaaChecked
import GoSem.Claim
import GoSem.ClaimJoined
import GoSem.ClaimMapViews
import Derived.JoinedTies
import Derived.KernelRfl
namespace Go.Proofs.Ytmjnleohchmadaa
/- THE CELL 'sum', in the pinned program and in every row, IS THE sha256 OF THE DUMP (.gsa) THAT YtmjnleohchmadaaProg.lean LOADS. Nothing in Lean hashes anything: it is a label: what it is worth is what the hold of that sum in a sandbox is worth. -/
noncomputable def Try.pinned : Pinned := { name := "ytmjnleohchmadaa", sum := "f939dbe696bdbd35f00044f147c07ea6267c6e046bcc4dd7fcbbfc4d8118d979", checked := Try.checked }
namespace Rows
def none {H : Type} : Left H := { results := [], args := [] }

/-- 'watermeetlaw10.EpochPuts': WHATEVER THE INPUT: true; the input reads as it did. -/
def epochPutsSpec : ChangeSpec := { name := "epochPuts", fn := fun _ => fun
  | [d1, d2, d3] => { results := [.lit (.bool true)], args := [d1, d2, d3] }
  | _ => none }
def epochPutsRow : OpenClaim := { program := "ytmjnleohchmadaa", sum := "f939dbe696bdbd35f00044f147c07ea6267c6e046bcc4dd7fcbbfc4d8118d979", func := "watermeet/watermeetlaw10.EpochPuts", spec := "epochPuts", unfollowed := true, recurses := true, apart := false }
def EpochPutsSaid : Prop := epochPutsRow.holds Try.pinned (OpenSpec.ofChange epochPutsSpec)

/-- ITS FALSE NEIGHBOUR: 'it returns false'. Refute it at one input. -/
def epochPutsWrong : ChangeSpec := { name := "epochPuts", fn := fun _ => fun
  | [d1, d2, d3] => { results := [.lit (.bool false)], args := [d1, d2, d3] }
  | _ => none }
def EpochPutsWrongFalsely : Prop := epochPutsRow.holds Try.pinned (OpenSpec.ofChange epochPutsWrong)

/-- 'watermeetlaw10.EpochTells': WHATEVER THE INPUT: true; the input reads as it did. -/
def epochTellsSpec : ChangeSpec := { name := "epochTells", fn := fun _ => fun
  | [d1, d2, d3] => { results := [.lit (.bool true)], args := [d1, d2, d3] }
  | _ => none }
def epochTellsRow : OpenClaim := { program := "ytmjnleohchmadaa", sum := "f939dbe696bdbd35f00044f147c07ea6267c6e046bcc4dd7fcbbfc4d8118d979", func := "watermeet/watermeetlaw10.EpochTells", spec := "epochTells", unfollowed := true, recurses := true, apart := false }
def EpochTellsSaid : Prop := epochTellsRow.holds Try.pinned (OpenSpec.ofChange epochTellsSpec)

/-- ITS FALSE NEIGHBOUR: 'it returns false'. Refute it at one input. -/
def epochTellsWrong : ChangeSpec := { name := "epochTells", fn := fun _ => fun
  | [d1, d2, d3] => { results := [.lit (.bool false)], args := [d1, d2, d3] }
  | _ => none }
def EpochTellsWrongFalsely : Prop := epochTellsRow.holds Try.pinned (OpenSpec.ofChange epochTellsWrong)

/-- 'watermeetlaw10.EpochMeets': WHATEVER THE INPUT: true; the input reads as it did. -/
def epochMeetsSpec : ChangeSpec := { name := "epochMeets", fn := fun _ => fun
  | [d1, d2, d3, d4, d5] => { results := [.lit (.bool true)], args := [d1, d2, d3, d4, d5] }
  | _ => none }
def epochMeetsRow : OpenClaim := { program := "ytmjnleohchmadaa", sum := "f939dbe696bdbd35f00044f147c07ea6267c6e046bcc4dd7fcbbfc4d8118d979", func := "watermeet/watermeetlaw10.EpochMeets", spec := "epochMeets", unfollowed := true, recurses := true, apart := false }
def EpochMeetsSaid : Prop := epochMeetsRow.holds Try.pinned (OpenSpec.ofChange epochMeetsSpec)

/-- ITS FALSE NEIGHBOUR: 'it returns false'. Refute it at one input. -/
def epochMeetsWrong : ChangeSpec := { name := "epochMeets", fn := fun _ => fun
  | [d1, d2, d3, d4, d5] => { results := [.lit (.bool false)], args := [d1, d2, d3, d4, d5] }
  | _ => none }
def EpochMeetsWrongFalsely : Prop := epochMeetsRow.holds Try.pinned (OpenSpec.ofChange epochMeetsWrong)

/-- 'watermeetlaw10.EpochSafe': WHATEVER THE INPUT: true; the input reads as it did. -/
def epochSafeSpec : ChangeSpec := { name := "epochSafe", fn := fun _ => fun
  | [d1, d2, d3] => { results := [.lit (.bool true)], args := [d1, d2, d3] }
  | _ => none }
def epochSafeRow : OpenClaim := { program := "ytmjnleohchmadaa", sum := "f939dbe696bdbd35f00044f147c07ea6267c6e046bcc4dd7fcbbfc4d8118d979", func := "watermeet/watermeetlaw10.EpochSafe", spec := "epochSafe", unfollowed := true, recurses := true, apart := false }
def EpochSafeSaid : Prop := epochSafeRow.holds Try.pinned (OpenSpec.ofChange epochSafeSpec)

/-- ITS FALSE NEIGHBOUR: 'it returns false'. Refute it at one input. -/
def epochSafeWrong : ChangeSpec := { name := "epochSafe", fn := fun _ => fun
  | [d1, d2, d3] => { results := [.lit (.bool false)], args := [d1, d2, d3] }
  | _ => none }
def EpochSafeWrongFalsely : Prop := epochSafeRow.holds Try.pinned (OpenSpec.ofChange epochSafeWrong)

/-- 'watermeetlaw10.EpochBoth': WHATEVER THE INPUT: true; the input reads as it did. -/
def epochBothSpec : ChangeSpec := { name := "epochBoth", fn := fun _ => fun
  | [d1, d2, d3, d4] => { results := [.lit (.bool true)], args := [d1, d2, d3, d4] }
  | _ => none }
def epochBothRow : OpenClaim := { program := "ytmjnleohchmadaa", sum := "f939dbe696bdbd35f00044f147c07ea6267c6e046bcc4dd7fcbbfc4d8118d979", func := "watermeet/watermeetlaw10.EpochBoth", spec := "epochBoth", unfollowed := true, recurses := true, apart := false }
def EpochBothSaid : Prop := epochBothRow.holds Try.pinned (OpenSpec.ofChange epochBothSpec)

/-- ITS FALSE NEIGHBOUR: 'it returns false'. Refute it at one input. -/
def epochBothWrong : ChangeSpec := { name := "epochBoth", fn := fun _ => fun
  | [d1, d2, d3, d4] => { results := [.lit (.bool false)], args := [d1, d2, d3, d4] }
  | _ => none }
def EpochBothWrongFalsely : Prop := epochBothRow.holds Try.pinned (OpenSpec.ofChange epochBothWrong)

/-- 'watermeetlaw10.EpochStays': WHATEVER THE INPUT: true; the input reads as it did. -/
def epochStaysSpec : ChangeSpec := { name := "epochStays", fn := fun _ => fun
  | [d1, d2, d3, d4] => { results := [.lit (.bool true)], args := [d1, d2, d3, d4] }
  | _ => none }
def epochStaysRow : OpenClaim := { program := "ytmjnleohchmadaa", sum := "f939dbe696bdbd35f00044f147c07ea6267c6e046bcc4dd7fcbbfc4d8118d979", func := "watermeet/watermeetlaw10.EpochStays", spec := "epochStays", unfollowed := true, recurses := true, apart := false }
def EpochStaysSaid : Prop := epochStaysRow.holds Try.pinned (OpenSpec.ofChange epochStaysSpec)

/-- ITS FALSE NEIGHBOUR: 'it returns false'. Refute it at one input. -/
def epochStaysWrong : ChangeSpec := { name := "epochStays", fn := fun _ => fun
  | [d1, d2, d3, d4] => { results := [.lit (.bool false)], args := [d1, d2, d3, d4] }
  | _ => none }
def EpochStaysWrongFalsely : Prop := epochStaysRow.holds Try.pinned (OpenSpec.ofChange epochStaysWrong)

/-- 'watermeetlaw10.EpochEnds': WHATEVER THE INPUT: true; the input reads as it did. -/
def epochEndsSpec : ChangeSpec := { name := "epochEnds", fn := fun _ => fun
  | [d1, d2] => { results := [.lit (.bool true)], args := [d1, d2] }
  | _ => none }
def epochEndsRow : OpenClaim := { program := "ytmjnleohchmadaa", sum := "f939dbe696bdbd35f00044f147c07ea6267c6e046bcc4dd7fcbbfc4d8118d979", func := "watermeet/watermeetlaw10.EpochEnds", spec := "epochEnds", unfollowed := true, recurses := true, apart := false }
def EpochEndsSaid : Prop := epochEndsRow.holds Try.pinned (OpenSpec.ofChange epochEndsSpec)

/-- ITS FALSE NEIGHBOUR: 'it returns false'. Refute it at one input. -/
def epochEndsWrong : ChangeSpec := { name := "epochEnds", fn := fun _ => fun
  | [d1, d2] => { results := [.lit (.bool false)], args := [d1, d2] }
  | _ => none }
def EpochEndsWrongFalsely : Prop := epochEndsRow.holds Try.pinned (OpenSpec.ofChange epochEndsWrong)

/-- 'watermeetlaw10.EpochGone': WHATEVER THE INPUT: true; the input reads as it did. -/
def epochGoneSpec : ChangeSpec := { name := "epochGone", fn := fun _ => fun
  | [d1, d2, d3] => { results := [.lit (.bool true)], args := [d1, d2, d3] }
  | _ => none }
def epochGoneRow : OpenClaim := { program := "ytmjnleohchmadaa", sum := "f939dbe696bdbd35f00044f147c07ea6267c6e046bcc4dd7fcbbfc4d8118d979", func := "watermeet/watermeetlaw10.EpochGone", spec := "epochGone", unfollowed := true, recurses := true, apart := false }
def EpochGoneSaid : Prop := epochGoneRow.holds Try.pinned (OpenSpec.ofChange epochGoneSpec)

/-- ITS FALSE NEIGHBOUR: 'it returns false'. Refute it at one input. -/
def epochGoneWrong : ChangeSpec := { name := "epochGone", fn := fun _ => fun
  | [d1, d2, d3] => { results := [.lit (.bool false)], args := [d1, d2, d3] }
  | _ => none }
def EpochGoneWrongFalsely : Prop := epochGoneRow.holds Try.pinned (OpenSpec.ofChange epochGoneWrong)

/- THE SECOND FORM. 'bulk': how many values and letters a reading holds, each counted each time it is reached (what is shared counts as often as it is met; a slice's spare places count too). A statement '..UptoSaid' is the law's where the arguments, and the package variables that the reading takes, are together of bulk at most 1048576: NARROWER than '..Said'. Prove '..Said' where nothing that the law and all that it calls make is longer than what came in: it says more and counts as full. Else prove '..UptoSaid'. A law counts once. -/
mutual
def uptoBulk {H : Type} : DataW H → Nat
  | .lit (.string bytes) => bytes.length + 1
  | .lit _ => 1
  | .nil => 1
  | .ptr d => uptoBulk d + 1
  | .slice elems spare => uptoBulkAll elems + uptoBulkAll spare + 1
  | .agg parts => uptoBulkAll parts + 1
  | .iface _ d => uptoBulk d + 1
  | .map entries => uptoBulkEntries entries + 1
  | .held _ => 1
def uptoBulkAll {H : Type} : List (DataW H) → Nat
  | [] => 0
  | d :: r => uptoBulk d + uptoBulkAll r
def uptoBulkEntries {H : Type} : List (Lit × DataW H) → Nat
  | [] => 0
  | x :: r => uptoBulkEntry x + uptoBulkEntries r
def uptoBulkEntry {H : Type} : Lit × DataW H → Nat
  | (.string bytes, d) => bytes.length + uptoBulk d + 1
  | (_, d) => uptoBulk d + 1
 end
def uptoSmall : (H : Type) → List (DataW H) → Bool := fun _ ds => decide (uptoBulkAll ds ≤ 1048576)
def OpenSpec.upto (s : _root_.Go.ChangeSpec) : _root_.Go.OpenSpec := { _root_.Go.OpenSpec.ofChange s with cond := some uptoSmall }

/-- 'watermeetlaw10.EpochPuts', WHERE WHAT IT READS IS OF BULK AT MOST 1048576: true; the input reads as it did. -/
def epochPutsUptoRow : OpenClaim := { program := "ytmjnleohchmadaa", sum := "f939dbe696bdbd35f00044f147c07ea6267c6e046bcc4dd7fcbbfc4d8118d979", func := "watermeet/watermeetlaw10.EpochPuts", spec := "epochPuts", unfollowed := true, recurses := true, apart := false, narrowed := true }
def EpochPutsUptoSaid : Prop := epochPutsUptoRow.holds Try.pinned (OpenSpec.upto epochPutsSpec)

/-- 'watermeetlaw10.EpochTells', WHERE WHAT IT READS IS OF BULK AT MOST 1048576: true; the input reads as it did. -/
def epochTellsUptoRow : OpenClaim := { program := "ytmjnleohchmadaa", sum := "f939dbe696bdbd35f00044f147c07ea6267c6e046bcc4dd7fcbbfc4d8118d979", func := "watermeet/watermeetlaw10.EpochTells", spec := "epochTells", unfollowed := true, recurses := true, apart := false, narrowed := true }
def EpochTellsUptoSaid : Prop := epochTellsUptoRow.holds Try.pinned (OpenSpec.upto epochTellsSpec)

/-- 'watermeetlaw10.EpochMeets', WHERE WHAT IT READS IS OF BULK AT MOST 1048576: true; the input reads as it did. -/
def epochMeetsUptoRow : OpenClaim := { program := "ytmjnleohchmadaa", sum := "f939dbe696bdbd35f00044f147c07ea6267c6e046bcc4dd7fcbbfc4d8118d979", func := "watermeet/watermeetlaw10.EpochMeets", spec := "epochMeets", unfollowed := true, recurses := true, apart := false, narrowed := true }
def EpochMeetsUptoSaid : Prop := epochMeetsUptoRow.holds Try.pinned (OpenSpec.upto epochMeetsSpec)

/-- 'watermeetlaw10.EpochSafe', WHERE WHAT IT READS IS OF BULK AT MOST 1048576: true; the input reads as it did. -/
def epochSafeUptoRow : OpenClaim := { program := "ytmjnleohchmadaa", sum := "f939dbe696bdbd35f00044f147c07ea6267c6e046bcc4dd7fcbbfc4d8118d979", func := "watermeet/watermeetlaw10.EpochSafe", spec := "epochSafe", unfollowed := true, recurses := true, apart := false, narrowed := true }
def EpochSafeUptoSaid : Prop := epochSafeUptoRow.holds Try.pinned (OpenSpec.upto epochSafeSpec)

/-- 'watermeetlaw10.EpochBoth', WHERE WHAT IT READS IS OF BULK AT MOST 1048576: true; the input reads as it did. -/
def epochBothUptoRow : OpenClaim := { program := "ytmjnleohchmadaa", sum := "f939dbe696bdbd35f00044f147c07ea6267c6e046bcc4dd7fcbbfc4d8118d979", func := "watermeet/watermeetlaw10.EpochBoth", spec := "epochBoth", unfollowed := true, recurses := true, apart := false, narrowed := true }
def EpochBothUptoSaid : Prop := epochBothUptoRow.holds Try.pinned (OpenSpec.upto epochBothSpec)

/-- 'watermeetlaw10.EpochStays', WHERE WHAT IT READS IS OF BULK AT MOST 1048576: true; the input reads as it did. -/
def epochStaysUptoRow : OpenClaim := { program := "ytmjnleohchmadaa", sum := "f939dbe696bdbd35f00044f147c07ea6267c6e046bcc4dd7fcbbfc4d8118d979", func := "watermeet/watermeetlaw10.EpochStays", spec := "epochStays", unfollowed := true, recurses := true, apart := false, narrowed := true }
def EpochStaysUptoSaid : Prop := epochStaysUptoRow.holds Try.pinned (OpenSpec.upto epochStaysSpec)

/-- 'watermeetlaw10.EpochEnds', WHERE WHAT IT READS IS OF BULK AT MOST 1048576: true; the input reads as it did. -/
def epochEndsUptoRow : OpenClaim := { program := "ytmjnleohchmadaa", sum := "f939dbe696bdbd35f00044f147c07ea6267c6e046bcc4dd7fcbbfc4d8118d979", func := "watermeet/watermeetlaw10.EpochEnds", spec := "epochEnds", unfollowed := true, recurses := true, apart := false, narrowed := true }
def EpochEndsUptoSaid : Prop := epochEndsUptoRow.holds Try.pinned (OpenSpec.upto epochEndsSpec)

/-- 'watermeetlaw10.EpochGone', WHERE WHAT IT READS IS OF BULK AT MOST 1048576: true; the input reads as it did. -/
def epochGoneUptoRow : OpenClaim := { program := "ytmjnleohchmadaa", sum := "f939dbe696bdbd35f00044f147c07ea6267c6e046bcc4dd7fcbbfc4d8118d979", func := "watermeet/watermeetlaw10.EpochGone", spec := "epochGone", unfollowed := true, recurses := true, apart := false, narrowed := true }
def EpochGoneUptoSaid : Prop := epochGoneUptoRow.holds Try.pinned (OpenSpec.upto epochGoneSpec)

end Rows
end Go.Proofs.Ytmjnleohchmadaa
