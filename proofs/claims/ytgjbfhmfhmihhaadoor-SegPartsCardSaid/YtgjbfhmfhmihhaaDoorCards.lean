/-
  DERIVED. GIVEN WITH THE SEED: THE CARDS: each row of YtgjbfhmfhmihhaaDoorRows.lean that lists a variable, with what it lists TIED to the program's text (the seventh form; the later family's looks); each row that meets fmt, with fmt's text TOLD by the authors' own Lean function (tested against real Go, not proved from fmt's source: count such statements apart). THE CARD IS WHAT COUNTS. Prove the row's statement (the work); the ties are given (YtgjbfhmfhmihhaaDoorTie.lean); close each card by the builder's one call (the guide's Derived/Test/ToyasCard.lean, 'card_holds'). Laid BY PROGRAM, IN A SANDBOX (cutbox-door.mjs). By AI agents, Wed Nov 11 2026. No macro, syntax, notation, axiom, sorry.
-/
import Derived.Test.YtgjbfhmfhmihhaaDoorRows
import GoSem.ClaimSeven
namespace Go.Proofs.YtgjbfhmfhmihhaaDoor
namespace Rows

/-- THE TIED CARD OF 'watermeetlaw07.SegScans'. -/
def segScansCard : Claim7 := { stood := { row := segScansRow, standIns := [], harness := (true, "8756dca365c3738ae7f7dad078bfa0200519ee75ee06b885abe2d0f8db900c1d"), looks := false }, kinds := [], alts := [], laidByText := true, laidKinds := [.data], laidTests := true, laidLooks := .later }
def SegScansCardSaid : Prop := Claim7.holds Tryd.pinned (.plain (OpenSpec.ofChange segScansSpec)) segScansCard

/-- THE TIED CARD OF 'watermeetlaw07.SegAppends'. -/
def segAppendsCard : Claim7 := { stood := { row := segAppendsRow, standIns := [], harness := (true, "8756dca365c3738ae7f7dad078bfa0200519ee75ee06b885abe2d0f8db900c1d"), looks := false }, kinds := [], alts := [], laidByText := true, laidKinds := [.data], laidTests := true, laidLooks := .later }
def SegAppendsCardSaid : Prop := Claim7.holds Tryd.pinned (.plain (OpenSpec.ofChange segAppendsSpec)) segAppendsCard

/-- THE TIED CARD OF 'watermeetlaw07.SegMakes'. -/
def segMakesCard : Claim7 := { stood := { row := segMakesRow, standIns := [], harness := (true, "8756dca365c3738ae7f7dad078bfa0200519ee75ee06b885abe2d0f8db900c1d"), looks := false }, kinds := [], alts := [], laidByText := true, laidKinds := [.data], laidTests := true, laidLooks := .later }
def SegMakesCardSaid : Prop := Claim7.holds Tryd.pinned (.plain (OpenSpec.ofChange segMakesSpec)) segMakesCard

/-- THE TIED CARD OF 'watermeetlaw07.SegBack'. -/
def segBackCard : Claim7 := { stood := { row := segBackRow, standIns := [], harness := (true, "8756dca365c3738ae7f7dad078bfa0200519ee75ee06b885abe2d0f8db900c1d"), looks := false }, kinds := [], alts := [], laidByText := true, laidKinds := [.data], laidTests := true, laidLooks := .later }
def SegBackCardSaid : Prop := Claim7.holds Tryd.pinned (.plain (OpenSpec.ofChange segBackSpec)) segBackCard

/-- THE TIED CARD OF 'watermeetlaw07.SegTorn'. -/
def segTornCard : Claim7 := { stood := { row := segTornRow, standIns := [], harness := (true, "8756dca365c3738ae7f7dad078bfa0200519ee75ee06b885abe2d0f8db900c1d"), looks := false }, kinds := [], alts := [], laidByText := true, laidKinds := [.data], laidTests := true, laidLooks := .later }
def SegTornCardSaid : Prop := Claim7.holds Tryd.pinned (.plain (OpenSpec.ofChange segTornSpec)) segTornCard

/-- THE TIED CARD OF 'watermeetlaw07.SegSpoilt'. -/
def segSpoiltCard : Claim7 := { stood := { row := segSpoiltRow, standIns := [], harness := (true, "8756dca365c3738ae7f7dad078bfa0200519ee75ee06b885abe2d0f8db900c1d"), looks := false }, kinds := [], alts := [], laidByText := true, laidKinds := [.data], laidTests := true, laidLooks := .later }
def SegSpoiltCardSaid : Prop := Claim7.holds Tryd.pinned (.plain (OpenSpec.ofChange segSpoiltSpec)) segSpoiltCard

/-- THE TIED CARD OF 'watermeetlaw07.SegCuts'. -/
def segCutsCard : Claim7 := { stood := { row := segCutsRow, standIns := [], harness := (true, "8756dca365c3738ae7f7dad078bfa0200519ee75ee06b885abe2d0f8db900c1d"), looks := false }, kinds := [], alts := [], laidByText := true, laidKinds := [.data], laidTests := true, laidLooks := .later }
def SegCutsCardSaid : Prop := Claim7.holds Tryd.pinned (.plain (OpenSpec.ofChange segCutsSpec)) segCutsCard

/-- THE TIED CARD OF 'watermeetlaw07.SegOrder'. -/
def segOrderCard : Claim7 := { stood := { row := segOrderRow, standIns := [], harness := (true, "8756dca365c3738ae7f7dad078bfa0200519ee75ee06b885abe2d0f8db900c1d"), looks := false }, kinds := [], alts := [], laidByText := true, laidKinds := [.data], laidTests := true, laidLooks := .later }
def SegOrderCardSaid : Prop := Claim7.holds Tryd.pinned (.plain (OpenSpec.ofChange segOrderSpec)) segOrderCard

/-- THE TIED CARD OF 'watermeetlaw07.SegParts'. -/
def segPartsCard : Claim7 := { stood := { row := segPartsRow, standIns := [], harness := (true, "8756dca365c3738ae7f7dad078bfa0200519ee75ee06b885abe2d0f8db900c1d"), looks := false }, kinds := [], alts := [], laidByText := true, laidKinds := [.data], laidTests := true, laidLooks := .later }
def SegPartsCardSaid : Prop := Claim7.holds Tryd.pinned (.plain (OpenSpec.ofChange segPartsSpec)) segPartsCard

/-- THE SECOND FORM's CARD OF 'watermeetlaw07.SegScans'. -/
def segScansUptoCard : Claim7 := { stood := { row := segScansUptoRow, standIns := [], harness := (true, "8756dca365c3738ae7f7dad078bfa0200519ee75ee06b885abe2d0f8db900c1d"), looks := false }, kinds := [], alts := [], laidByText := true, laidKinds := [.data], laidTests := true, laidLooks := .later }
def SegScansUptoCardSaid : Prop := Claim7.holds Tryd.pinned (.plain (OpenSpec.upto segScansSpec)) segScansUptoCard

/-- THE SECOND FORM's CARD OF 'watermeetlaw07.SegAppends'. -/
def segAppendsUptoCard : Claim7 := { stood := { row := segAppendsUptoRow, standIns := [], harness := (true, "8756dca365c3738ae7f7dad078bfa0200519ee75ee06b885abe2d0f8db900c1d"), looks := false }, kinds := [], alts := [], laidByText := true, laidKinds := [.data], laidTests := true, laidLooks := .later }
def SegAppendsUptoCardSaid : Prop := Claim7.holds Tryd.pinned (.plain (OpenSpec.upto segAppendsSpec)) segAppendsUptoCard

/-- THE SECOND FORM's CARD OF 'watermeetlaw07.SegMakes'. -/
def segMakesUptoCard : Claim7 := { stood := { row := segMakesUptoRow, standIns := [], harness := (true, "8756dca365c3738ae7f7dad078bfa0200519ee75ee06b885abe2d0f8db900c1d"), looks := false }, kinds := [], alts := [], laidByText := true, laidKinds := [.data], laidTests := true, laidLooks := .later }
def SegMakesUptoCardSaid : Prop := Claim7.holds Tryd.pinned (.plain (OpenSpec.upto segMakesSpec)) segMakesUptoCard

/-- THE SECOND FORM's CARD OF 'watermeetlaw07.SegBack'. -/
def segBackUptoCard : Claim7 := { stood := { row := segBackUptoRow, standIns := [], harness := (true, "8756dca365c3738ae7f7dad078bfa0200519ee75ee06b885abe2d0f8db900c1d"), looks := false }, kinds := [], alts := [], laidByText := true, laidKinds := [.data], laidTests := true, laidLooks := .later }
def SegBackUptoCardSaid : Prop := Claim7.holds Tryd.pinned (.plain (OpenSpec.upto segBackSpec)) segBackUptoCard

/-- THE SECOND FORM's CARD OF 'watermeetlaw07.SegTorn'. -/
def segTornUptoCard : Claim7 := { stood := { row := segTornUptoRow, standIns := [], harness := (true, "8756dca365c3738ae7f7dad078bfa0200519ee75ee06b885abe2d0f8db900c1d"), looks := false }, kinds := [], alts := [], laidByText := true, laidKinds := [.data], laidTests := true, laidLooks := .later }
def SegTornUptoCardSaid : Prop := Claim7.holds Tryd.pinned (.plain (OpenSpec.upto segTornSpec)) segTornUptoCard

/-- THE SECOND FORM's CARD OF 'watermeetlaw07.SegSpoilt'. -/
def segSpoiltUptoCard : Claim7 := { stood := { row := segSpoiltUptoRow, standIns := [], harness := (true, "8756dca365c3738ae7f7dad078bfa0200519ee75ee06b885abe2d0f8db900c1d"), looks := false }, kinds := [], alts := [], laidByText := true, laidKinds := [.data], laidTests := true, laidLooks := .later }
def SegSpoiltUptoCardSaid : Prop := Claim7.holds Tryd.pinned (.plain (OpenSpec.upto segSpoiltSpec)) segSpoiltUptoCard

/-- THE SECOND FORM's CARD OF 'watermeetlaw07.SegCuts'. -/
def segCutsUptoCard : Claim7 := { stood := { row := segCutsUptoRow, standIns := [], harness := (true, "8756dca365c3738ae7f7dad078bfa0200519ee75ee06b885abe2d0f8db900c1d"), looks := false }, kinds := [], alts := [], laidByText := true, laidKinds := [.data], laidTests := true, laidLooks := .later }
def SegCutsUptoCardSaid : Prop := Claim7.holds Tryd.pinned (.plain (OpenSpec.upto segCutsSpec)) segCutsUptoCard

/-- THE SECOND FORM's CARD OF 'watermeetlaw07.SegOrder'. -/
def segOrderUptoCard : Claim7 := { stood := { row := segOrderUptoRow, standIns := [], harness := (true, "8756dca365c3738ae7f7dad078bfa0200519ee75ee06b885abe2d0f8db900c1d"), looks := false }, kinds := [], alts := [], laidByText := true, laidKinds := [.data], laidTests := true, laidLooks := .later }
def SegOrderUptoCardSaid : Prop := Claim7.holds Tryd.pinned (.plain (OpenSpec.upto segOrderSpec)) segOrderUptoCard

/-- THE SECOND FORM's CARD OF 'watermeetlaw07.SegParts'. -/
def segPartsUptoCard : Claim7 := { stood := { row := segPartsUptoRow, standIns := [], harness := (true, "8756dca365c3738ae7f7dad078bfa0200519ee75ee06b885abe2d0f8db900c1d"), looks := false }, kinds := [], alts := [], laidByText := true, laidKinds := [.data], laidTests := true, laidLooks := .later }
def SegPartsUptoCardSaid : Prop := Claim7.holds Tryd.pinned (.plain (OpenSpec.upto segPartsSpec)) segPartsUptoCard
end Rows
end Go.Proofs.YtgjbfhmfhmihhaaDoor
