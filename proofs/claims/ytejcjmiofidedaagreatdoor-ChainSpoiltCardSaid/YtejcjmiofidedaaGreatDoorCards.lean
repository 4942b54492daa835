/-
  DERIVED. GIVEN WITH THE SEED: THE CARDS: each row of YtejcjmiofidedaaGreatDoorRows.lean that lists a variable, with what it lists TIED to the program's text (the seventh form; the later family's looks); each row that meets fmt, with fmt's text TOLD by the authors' own Lean function (tested against real Go, not proved from fmt's source: count such statements apart). THE CARD IS WHAT COUNTS. Prove the row's statement (the work); the ties are given (YtejcjmiofidedaaGreatDoorTie.lean); close each card by the builder's one call (the guide's Derived/Test/ToyasCard.lean, 'card_holds'). Laid BY PROGRAM, IN A SANDBOX (cutbox-door.mjs). By AI agents, Wed Nov 11 2026. No macro, syntax, notation, axiom, sorry.
-/
import Derived.Test.YtejcjmiofidedaaGreatDoorRows
import GoSem.ClaimSeven
namespace Go.Proofs.YtejcjmiofidedaaGreatDoor
namespace Rows

/-- THE TIED CARD OF 'watermeetlaw09.ChainTells'. -/
def chainTellsCard : Claim7 := { stood := { row := chainTellsRow, standIns := [], harness := (true, "43519ac59a7675b2f2d9aeca7eaf360146488e8a78a978de494d5127d8d19227"), looks := false }, kinds := [], alts := [], laidByText := true, laidKinds := [.data], laidTests := true, laidLooks := .later }
def ChainTellsCardSaid : Prop := Claim7.holds Tryz.pinned (.plain (OpenSpec.ofChange chainTellsSpec)) chainTellsCard

/-- THE TIED CARD OF 'watermeetlaw09.ChainSteps'. -/
def chainStepsCard : Claim7 := { stood := { row := chainStepsRow, standIns := [], harness := (true, "43519ac59a7675b2f2d9aeca7eaf360146488e8a78a978de494d5127d8d19227"), looks := false }, kinds := [], alts := [], laidByText := true, laidKinds := [.data], laidTests := true, laidLooks := .later }
def ChainStepsCardSaid : Prop := Claim7.holds Tryz.pinned (.plain (OpenSpec.ofChange chainStepsSpec)) chainStepsCard

/-- THE TIED CARD OF 'watermeetlaw09.ChainReads'. -/
def chainReadsCard : Claim7 := { stood := { row := chainReadsRow, standIns := [], harness := (true, "43519ac59a7675b2f2d9aeca7eaf360146488e8a78a978de494d5127d8d19227"), looks := false }, kinds := [], alts := [], laidByText := true, laidKinds := [.data], laidTests := true, laidLooks := .later }
def ChainReadsCardSaid : Prop := Claim7.holds Tryz.pinned (.plain (OpenSpec.ofChange chainReadsSpec)) chainReadsCard

/-- THE TIED CARD OF 'watermeetlaw09.ChainBack'. -/
def chainBackCard : Claim7 := { stood := { row := chainBackRow, standIns := [], harness := (true, "43519ac59a7675b2f2d9aeca7eaf360146488e8a78a978de494d5127d8d19227"), looks := false }, kinds := [], alts := [], laidByText := true, laidKinds := [.data], laidTests := true, laidLooks := .later }
def ChainBackCardSaid : Prop := Claim7.holds Tryz.pinned (.plain (OpenSpec.ofChange chainBackSpec)) chainBackCard

/-- THE TIED CARD OF 'watermeetlaw09.ChainOnce'. -/
def chainOnceCard : Claim7 := { stood := { row := chainOnceRow, standIns := [], harness := (true, "43519ac59a7675b2f2d9aeca7eaf360146488e8a78a978de494d5127d8d19227"), looks := false }, kinds := [], alts := [], laidByText := true, laidKinds := [.data], laidTests := true, laidLooks := .later }
def ChainOnceCardSaid : Prop := Claim7.holds Tryz.pinned (.plain (OpenSpec.ofChange chainOnceSpec)) chainOnceCard

/-- THE TIED CARD OF 'watermeetlaw09.ChainMost'. -/
def chainMostCard : Claim7 := { stood := { row := chainMostRow, standIns := [], harness := (true, "43519ac59a7675b2f2d9aeca7eaf360146488e8a78a978de494d5127d8d19227"), looks := false }, kinds := [], alts := [], laidByText := true, laidKinds := [.data], laidTests := true, laidLooks := .later }
def ChainMostCardSaid : Prop := Claim7.holds Tryz.pinned (.plain (OpenSpec.ofChange chainMostSpec)) chainMostCard

/-- THE TIED CARD OF 'watermeetlaw09.ChainTorn'. -/
def chainTornCard : Claim7 := { stood := { row := chainTornRow, standIns := [], harness := (true, "43519ac59a7675b2f2d9aeca7eaf360146488e8a78a978de494d5127d8d19227"), looks := false }, kinds := [], alts := [], laidByText := true, laidKinds := [.data], laidTests := true, laidLooks := .later }
def ChainTornCardSaid : Prop := Claim7.holds Tryz.pinned (.plain (OpenSpec.ofChange chainTornSpec)) chainTornCard

/-- THE TIED CARD OF 'watermeetlaw09.ChainSpoilt'. -/
def chainSpoiltCard : Claim7 := { stood := { row := chainSpoiltRow, standIns := [], harness := (true, "43519ac59a7675b2f2d9aeca7eaf360146488e8a78a978de494d5127d8d19227"), looks := false }, kinds := [], alts := [], laidByText := true, laidKinds := [.data], laidTests := true, laidLooks := .later }
def ChainSpoiltCardSaid : Prop := Claim7.holds Tryz.pinned (.plain (OpenSpec.ofChange chainSpoiltSpec)) chainSpoiltCard

/-- THE TIED CARD OF 'watermeetlaw09.ChainReplace'. -/
def chainReplaceCard : Claim7 := { stood := { row := chainReplaceRow, standIns := [], harness := (true, "43519ac59a7675b2f2d9aeca7eaf360146488e8a78a978de494d5127d8d19227"), looks := false }, kinds := [], alts := [], laidByText := true, laidKinds := [.data], laidTests := true, laidLooks := .later }
def ChainReplaceCardSaid : Prop := Claim7.holds Tryz.pinned (.plain (OpenSpec.ofChange chainReplaceSpec)) chainReplaceCard

/-- THE SECOND FORM's CARD OF 'watermeetlaw09.ChainTells'. -/
def chainTellsUptoCard : Claim7 := { stood := { row := chainTellsUptoRow, standIns := [], harness := (true, "43519ac59a7675b2f2d9aeca7eaf360146488e8a78a978de494d5127d8d19227"), looks := false }, kinds := [], alts := [], laidByText := true, laidKinds := [.data], laidTests := true, laidLooks := .later }
def ChainTellsUptoCardSaid : Prop := Claim7.holds Tryz.pinned (.plain (OpenSpec.upto chainTellsSpec)) chainTellsUptoCard

/-- THE SECOND FORM's CARD OF 'watermeetlaw09.ChainSteps'. -/
def chainStepsUptoCard : Claim7 := { stood := { row := chainStepsUptoRow, standIns := [], harness := (true, "43519ac59a7675b2f2d9aeca7eaf360146488e8a78a978de494d5127d8d19227"), looks := false }, kinds := [], alts := [], laidByText := true, laidKinds := [.data], laidTests := true, laidLooks := .later }
def ChainStepsUptoCardSaid : Prop := Claim7.holds Tryz.pinned (.plain (OpenSpec.upto chainStepsSpec)) chainStepsUptoCard

/-- THE SECOND FORM's CARD OF 'watermeetlaw09.ChainReads'. -/
def chainReadsUptoCard : Claim7 := { stood := { row := chainReadsUptoRow, standIns := [], harness := (true, "43519ac59a7675b2f2d9aeca7eaf360146488e8a78a978de494d5127d8d19227"), looks := false }, kinds := [], alts := [], laidByText := true, laidKinds := [.data], laidTests := true, laidLooks := .later }
def ChainReadsUptoCardSaid : Prop := Claim7.holds Tryz.pinned (.plain (OpenSpec.upto chainReadsSpec)) chainReadsUptoCard

/-- THE SECOND FORM's CARD OF 'watermeetlaw09.ChainBack'. -/
def chainBackUptoCard : Claim7 := { stood := { row := chainBackUptoRow, standIns := [], harness := (true, "43519ac59a7675b2f2d9aeca7eaf360146488e8a78a978de494d5127d8d19227"), looks := false }, kinds := [], alts := [], laidByText := true, laidKinds := [.data], laidTests := true, laidLooks := .later }
def ChainBackUptoCardSaid : Prop := Claim7.holds Tryz.pinned (.plain (OpenSpec.upto chainBackSpec)) chainBackUptoCard

/-- THE SECOND FORM's CARD OF 'watermeetlaw09.ChainOnce'. -/
def chainOnceUptoCard : Claim7 := { stood := { row := chainOnceUptoRow, standIns := [], harness := (true, "43519ac59a7675b2f2d9aeca7eaf360146488e8a78a978de494d5127d8d19227"), looks := false }, kinds := [], alts := [], laidByText := true, laidKinds := [.data], laidTests := true, laidLooks := .later }
def ChainOnceUptoCardSaid : Prop := Claim7.holds Tryz.pinned (.plain (OpenSpec.upto chainOnceSpec)) chainOnceUptoCard

/-- THE SECOND FORM's CARD OF 'watermeetlaw09.ChainMost'. -/
def chainMostUptoCard : Claim7 := { stood := { row := chainMostUptoRow, standIns := [], harness := (true, "43519ac59a7675b2f2d9aeca7eaf360146488e8a78a978de494d5127d8d19227"), looks := false }, kinds := [], alts := [], laidByText := true, laidKinds := [.data], laidTests := true, laidLooks := .later }
def ChainMostUptoCardSaid : Prop := Claim7.holds Tryz.pinned (.plain (OpenSpec.upto chainMostSpec)) chainMostUptoCard

/-- THE SECOND FORM's CARD OF 'watermeetlaw09.ChainTorn'. -/
def chainTornUptoCard : Claim7 := { stood := { row := chainTornUptoRow, standIns := [], harness := (true, "43519ac59a7675b2f2d9aeca7eaf360146488e8a78a978de494d5127d8d19227"), looks := false }, kinds := [], alts := [], laidByText := true, laidKinds := [.data], laidTests := true, laidLooks := .later }
def ChainTornUptoCardSaid : Prop := Claim7.holds Tryz.pinned (.plain (OpenSpec.upto chainTornSpec)) chainTornUptoCard

/-- THE SECOND FORM's CARD OF 'watermeetlaw09.ChainSpoilt'. -/
def chainSpoiltUptoCard : Claim7 := { stood := { row := chainSpoiltUptoRow, standIns := [], harness := (true, "43519ac59a7675b2f2d9aeca7eaf360146488e8a78a978de494d5127d8d19227"), looks := false }, kinds := [], alts := [], laidByText := true, laidKinds := [.data], laidTests := true, laidLooks := .later }
def ChainSpoiltUptoCardSaid : Prop := Claim7.holds Tryz.pinned (.plain (OpenSpec.upto chainSpoiltSpec)) chainSpoiltUptoCard

/-- THE SECOND FORM's CARD OF 'watermeetlaw09.ChainReplace'. -/
def chainReplaceUptoCard : Claim7 := { stood := { row := chainReplaceUptoRow, standIns := [], harness := (true, "43519ac59a7675b2f2d9aeca7eaf360146488e8a78a978de494d5127d8d19227"), looks := false }, kinds := [], alts := [], laidByText := true, laidKinds := [.data], laidTests := true, laidLooks := .later }
def ChainReplaceUptoCardSaid : Prop := Claim7.holds Tryz.pinned (.plain (OpenSpec.upto chainReplaceSpec)) chainReplaceUptoCard
end Rows
end Go.Proofs.YtejcjmiofidedaaGreatDoor
