/-
  DERIVED. GIVEN WITH THE SEED: THE CARDS: each row of YtkpemlfblpkjoaaDoorRows.lean that lists a variable, with what it lists TIED to the program's text (the seventh form; the later family's looks); each row that meets fmt, with fmt's text TOLD by the authors' own Lean function (tested against real Go, not proved from fmt's source: count such statements apart). THE CARD IS WHAT COUNTS. Prove the row's statement (the work); the ties are given (YtkpemlfblpkjoaaDoorTie.lean); close each card by the builder's one call (the guide's Derived/Test/ToyasCard.lean, 'card_holds'). Laid BY PROGRAM, IN A SANDBOX (cutbox-door.mjs). By AI agents, Wed Nov 11 2026. No macro, syntax, notation, axiom, sorry.
-/
import Derived.Test.YtkpemlfblpkjoaaDoorRows
import GoSem.ClaimSeven
namespace Go.Proofs.YtkpemlfblpkjoaaDoor
namespace Rows

/-- THE TIED CARD OF 'watermeetlaw02.CrcTells'. -/
def crcTellsCard : Claim7 := { stood := { row := crcTellsRow, standIns := [], harness := (true, "23b913711d8f74557ce8de57d4d0074e88b2e58b0c910bc85880465112e9f774"), looks := false }, kinds := [], alts := [], laidByText := true, laidKinds := [.data], laidTests := true, laidLooks := .later }
def CrcTellsCardSaid : Prop := Claim7.holds Tryd.pinned (.plain (OpenSpec.ofChange crcTellsSpec)) crcTellsCard

/-- THE TIED CARD OF 'watermeetlaw02.CrcSeals'. -/
def crcSealsCard : Claim7 := { stood := { row := crcSealsRow, standIns := [], harness := (true, "23b913711d8f74557ce8de57d4d0074e88b2e58b0c910bc85880465112e9f774"), looks := false }, kinds := [], alts := [], laidByText := true, laidKinds := [.data], laidTests := true, laidLooks := .later }
def CrcSealsCardSaid : Prop := Claim7.holds Tryd.pinned (.plain (OpenSpec.ofChange crcSealsSpec)) crcSealsCard

/-- THE TIED CARD OF 'watermeetlaw02.CrcJoins'. -/
def crcJoinsCard : Claim7 := { stood := { row := crcJoinsRow, standIns := [], harness := (true, "23b913711d8f74557ce8de57d4d0074e88b2e58b0c910bc85880465112e9f774"), looks := false }, kinds := [], alts := [], laidByText := true, laidKinds := [.data], laidTests := true, laidLooks := .later }
def CrcJoinsCardSaid : Prop := Claim7.holds Tryd.pinned (.plain (OpenSpec.ofChange crcJoinsSpec)) crcJoinsCard

/-- THE TIED CARD OF 'watermeetlaw02.CrcBehind'. -/
def crcBehindCard : Claim7 := { stood := { row := crcBehindRow, standIns := [], harness := (true, "23b913711d8f74557ce8de57d4d0074e88b2e58b0c910bc85880465112e9f774"), looks := false }, kinds := [], alts := [], laidByText := true, laidKinds := [.data], laidTests := true, laidLooks := .later }
def CrcBehindCardSaid : Prop := Claim7.holds Tryd.pinned (.plain (OpenSpec.ofChange crcBehindSpec)) crcBehindCard

/-- THE TIED CARD OF 'watermeetlaw02.CrcGroups'. -/
def crcGroupsCard : Claim7 := { stood := { row := crcGroupsRow, standIns := [], harness := (true, "23b913711d8f74557ce8de57d4d0074e88b2e58b0c910bc85880465112e9f774"), looks := false }, kinds := [], alts := [], laidByText := true, laidKinds := [.data], laidTests := true, laidLooks := .later }
def CrcGroupsCardSaid : Prop := Claim7.holds Tryd.pinned (.plain (OpenSpec.ofChange crcGroupsSpec)) crcGroupsCard

/-- THE TIED CARD OF 'watermeetlaw02.CrcBack'. -/
def crcBackCard : Claim7 := { stood := { row := crcBackRow, standIns := [], harness := (true, "23b913711d8f74557ce8de57d4d0074e88b2e58b0c910bc85880465112e9f774"), looks := false }, kinds := [], alts := [], laidByText := true, laidKinds := [.data], laidTests := true, laidLooks := .later }
def CrcBackCardSaid : Prop := Claim7.holds Tryd.pinned (.plain (OpenSpec.ofChange crcBackSpec)) crcBackCard

/-- THE TIED CARD OF 'watermeetlaw02.CrcOnly'. -/
def crcOnlyCard : Claim7 := { stood := { row := crcOnlyRow, standIns := [], harness := (true, "23b913711d8f74557ce8de57d4d0074e88b2e58b0c910bc85880465112e9f774"), looks := false }, kinds := [], alts := [], laidByText := true, laidKinds := [.data], laidTests := true, laidLooks := .later }
def CrcOnlyCardSaid : Prop := Claim7.holds Tryd.pinned (.plain (OpenSpec.ofChange crcOnlySpec)) crcOnlyCard

/-- THE TIED CARD OF 'watermeetlaw02.CrcBurst'. -/
def crcBurstCard : Claim7 := { stood := { row := crcBurstRow, standIns := [], harness := (true, "23b913711d8f74557ce8de57d4d0074e88b2e58b0c910bc85880465112e9f774"), looks := false }, kinds := [], alts := [], laidByText := true, laidKinds := [.data], laidTests := true, laidLooks := .later }
def CrcBurstCardSaid : Prop := Claim7.holds Tryd.pinned (.plain (OpenSpec.ofChange crcBurstSpec)) crcBurstCard

/-- THE TIED CARD OF 'watermeetlaw02.CrcEven'. -/
def crcEvenCard : Claim7 := { stood := { row := crcEvenRow, standIns := [], harness := (true, "23b913711d8f74557ce8de57d4d0074e88b2e58b0c910bc85880465112e9f774"), looks := false }, kinds := [], alts := [], laidByText := true, laidKinds := [.data], laidTests := true, laidLooks := .later }
def CrcEvenCardSaid : Prop := Claim7.holds Tryd.pinned (.plain (OpenSpec.ofChange crcEvenSpec)) crcEvenCard

/-- THE SECOND FORM's CARD OF 'watermeetlaw02.CrcTells'. -/
def crcTellsUptoCard : Claim7 := { stood := { row := crcTellsUptoRow, standIns := [], harness := (true, "23b913711d8f74557ce8de57d4d0074e88b2e58b0c910bc85880465112e9f774"), looks := false }, kinds := [], alts := [], laidByText := true, laidKinds := [.data], laidTests := true, laidLooks := .later }
def CrcTellsUptoCardSaid : Prop := Claim7.holds Tryd.pinned (.plain (OpenSpec.upto crcTellsSpec)) crcTellsUptoCard

/-- THE SECOND FORM's CARD OF 'watermeetlaw02.CrcSeals'. -/
def crcSealsUptoCard : Claim7 := { stood := { row := crcSealsUptoRow, standIns := [], harness := (true, "23b913711d8f74557ce8de57d4d0074e88b2e58b0c910bc85880465112e9f774"), looks := false }, kinds := [], alts := [], laidByText := true, laidKinds := [.data], laidTests := true, laidLooks := .later }
def CrcSealsUptoCardSaid : Prop := Claim7.holds Tryd.pinned (.plain (OpenSpec.upto crcSealsSpec)) crcSealsUptoCard

/-- THE SECOND FORM's CARD OF 'watermeetlaw02.CrcJoins'. -/
def crcJoinsUptoCard : Claim7 := { stood := { row := crcJoinsUptoRow, standIns := [], harness := (true, "23b913711d8f74557ce8de57d4d0074e88b2e58b0c910bc85880465112e9f774"), looks := false }, kinds := [], alts := [], laidByText := true, laidKinds := [.data], laidTests := true, laidLooks := .later }
def CrcJoinsUptoCardSaid : Prop := Claim7.holds Tryd.pinned (.plain (OpenSpec.upto crcJoinsSpec)) crcJoinsUptoCard

/-- THE SECOND FORM's CARD OF 'watermeetlaw02.CrcBehind'. -/
def crcBehindUptoCard : Claim7 := { stood := { row := crcBehindUptoRow, standIns := [], harness := (true, "23b913711d8f74557ce8de57d4d0074e88b2e58b0c910bc85880465112e9f774"), looks := false }, kinds := [], alts := [], laidByText := true, laidKinds := [.data], laidTests := true, laidLooks := .later }
def CrcBehindUptoCardSaid : Prop := Claim7.holds Tryd.pinned (.plain (OpenSpec.upto crcBehindSpec)) crcBehindUptoCard

/-- THE SECOND FORM's CARD OF 'watermeetlaw02.CrcGroups'. -/
def crcGroupsUptoCard : Claim7 := { stood := { row := crcGroupsUptoRow, standIns := [], harness := (true, "23b913711d8f74557ce8de57d4d0074e88b2e58b0c910bc85880465112e9f774"), looks := false }, kinds := [], alts := [], laidByText := true, laidKinds := [.data], laidTests := true, laidLooks := .later }
def CrcGroupsUptoCardSaid : Prop := Claim7.holds Tryd.pinned (.plain (OpenSpec.upto crcGroupsSpec)) crcGroupsUptoCard

/-- THE SECOND FORM's CARD OF 'watermeetlaw02.CrcBack'. -/
def crcBackUptoCard : Claim7 := { stood := { row := crcBackUptoRow, standIns := [], harness := (true, "23b913711d8f74557ce8de57d4d0074e88b2e58b0c910bc85880465112e9f774"), looks := false }, kinds := [], alts := [], laidByText := true, laidKinds := [.data], laidTests := true, laidLooks := .later }
def CrcBackUptoCardSaid : Prop := Claim7.holds Tryd.pinned (.plain (OpenSpec.upto crcBackSpec)) crcBackUptoCard

/-- THE SECOND FORM's CARD OF 'watermeetlaw02.CrcOnly'. -/
def crcOnlyUptoCard : Claim7 := { stood := { row := crcOnlyUptoRow, standIns := [], harness := (true, "23b913711d8f74557ce8de57d4d0074e88b2e58b0c910bc85880465112e9f774"), looks := false }, kinds := [], alts := [], laidByText := true, laidKinds := [.data], laidTests := true, laidLooks := .later }
def CrcOnlyUptoCardSaid : Prop := Claim7.holds Tryd.pinned (.plain (OpenSpec.upto crcOnlySpec)) crcOnlyUptoCard

/-- THE SECOND FORM's CARD OF 'watermeetlaw02.CrcBurst'. -/
def crcBurstUptoCard : Claim7 := { stood := { row := crcBurstUptoRow, standIns := [], harness := (true, "23b913711d8f74557ce8de57d4d0074e88b2e58b0c910bc85880465112e9f774"), looks := false }, kinds := [], alts := [], laidByText := true, laidKinds := [.data], laidTests := true, laidLooks := .later }
def CrcBurstUptoCardSaid : Prop := Claim7.holds Tryd.pinned (.plain (OpenSpec.upto crcBurstSpec)) crcBurstUptoCard

/-- THE SECOND FORM's CARD OF 'watermeetlaw02.CrcEven'. -/
def crcEvenUptoCard : Claim7 := { stood := { row := crcEvenUptoRow, standIns := [], harness := (true, "23b913711d8f74557ce8de57d4d0074e88b2e58b0c910bc85880465112e9f774"), looks := false }, kinds := [], alts := [], laidByText := true, laidKinds := [.data], laidTests := true, laidLooks := .later }
def CrcEvenUptoCardSaid : Prop := Claim7.holds Tryd.pinned (.plain (OpenSpec.upto crcEvenSpec)) crcEvenUptoCard
end Rows
end Go.Proofs.YtkpemlfblpkjoaaDoor
