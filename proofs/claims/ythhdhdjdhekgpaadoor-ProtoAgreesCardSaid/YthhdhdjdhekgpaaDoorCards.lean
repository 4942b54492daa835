/-
  DERIVED. GIVEN WITH THE SEED: THE CARDS: each row of YthhdhdjdhekgpaaDoorRows.lean that lists a variable, with what it lists TIED to the program's text (the seventh form; the later family's looks); each row that meets fmt, with fmt's text TOLD by the authors' own Lean function (tested against real Go, not proved from fmt's source: count such statements apart). THE CARD IS WHAT COUNTS. Prove the row's statement (the work); the ties are given (YthhdhdjdhekgpaaDoorTie.lean); close each card by the builder's one call (the guide's Derived/Test/ToyasCard.lean, 'card_holds'). Laid BY PROGRAM, IN A SANDBOX (cutbox-door.mjs). By AI agents, Wed Nov 11 2026. No macro, syntax, notation, axiom, sorry.
-/
import Derived.Test.YthhdhdjdhekgpaaDoorRows
import GoSem.ClaimSeven
namespace Go.Proofs.YthhdhdjdhekgpaaDoor
namespace Rows

/-- THE TIED CARD OF 'watermeetlaw06.ProtoReqs'. -/
def protoReqsCard : Claim7 := { stood := { row := protoReqsRow, standIns := [], harness := (true, "914bd8f4ba55f588f3411a616729fba77a27d8a54981671c67a2ae6954f02f7f"), looks := false }, kinds := [], alts := [], laidByText := true, laidKinds := [.data], laidTests := true, laidLooks := .later }
def ProtoReqsCardSaid : Prop := Claim7.holds Tryd.pinned (.plain (OpenSpec.ofChange protoReqsSpec)) protoReqsCard

/-- THE TIED CARD OF 'watermeetlaw06.ProtoResps'. -/
def protoRespsCard : Claim7 := { stood := { row := protoRespsRow, standIns := [], harness := (true, "914bd8f4ba55f588f3411a616729fba77a27d8a54981671c67a2ae6954f02f7f"), looks := false }, kinds := [], alts := [], laidByText := true, laidKinds := [.data], laidTests := true, laidLooks := .later }
def ProtoRespsCardSaid : Prop := Claim7.holds Tryd.pinned (.plain (OpenSpec.ofChange protoRespsSpec)) protoRespsCard

/-- THE TIED CARD OF 'watermeetlaw06.ProtoAgrees'. -/
def protoAgreesCard : Claim7 := { stood := { row := protoAgreesRow, standIns := [], harness := (true, "914bd8f4ba55f588f3411a616729fba77a27d8a54981671c67a2ae6954f02f7f"), looks := false }, kinds := [], alts := [], laidByText := true, laidKinds := [.data], laidTests := true, laidLooks := .later }
def ProtoAgreesCardSaid : Prop := Claim7.holds Tryd.pinned (.plain (OpenSpec.ofChange protoAgreesSpec)) protoAgreesCard

/-- THE TIED CARD OF 'watermeetlaw06.ProtoBack'. -/
def protoBackCard : Claim7 := { stood := { row := protoBackRow, standIns := [], harness := (true, "914bd8f4ba55f588f3411a616729fba77a27d8a54981671c67a2ae6954f02f7f"), looks := false }, kinds := [], alts := [], laidByText := true, laidKinds := [.data], laidTests := true, laidLooks := .later }
def ProtoBackCardSaid : Prop := Claim7.holds Tryd.pinned (.plain (OpenSpec.ofChange protoBackSpec)) protoBackCard

/-- THE TIED CARD OF 'watermeetlaw06.ProtoOnly'. -/
def protoOnlyCard : Claim7 := { stood := { row := protoOnlyRow, standIns := [], harness := (true, "914bd8f4ba55f588f3411a616729fba77a27d8a54981671c67a2ae6954f02f7f"), looks := false }, kinds := [], alts := [], laidByText := true, laidKinds := [.data], laidTests := true, laidLooks := .later }
def ProtoOnlyCardSaid : Prop := Claim7.holds Tryd.pinned (.plain (OpenSpec.ofChange protoOnlySpec)) protoOnlyCard

/-- THE TIED CARD OF 'watermeetlaw06.ProtoMeet'. -/
def protoMeetCard : Claim7 := { stood := { row := protoMeetRow, standIns := [], harness := (true, "914bd8f4ba55f588f3411a616729fba77a27d8a54981671c67a2ae6954f02f7f"), looks := false }, kinds := [], alts := [], laidByText := true, laidKinds := [.data], laidTests := true, laidLooks := .later }
def ProtoMeetCardSaid : Prop := Claim7.holds Tryd.pinned (.plain (OpenSpec.ofChange protoMeetSpec)) protoMeetCard

/-- THE TIED CARD OF 'watermeetlaw06.ProtoVersions'. -/
def protoVersionsCard : Claim7 := { stood := { row := protoVersionsRow, standIns := [], harness := (true, "914bd8f4ba55f588f3411a616729fba77a27d8a54981671c67a2ae6954f02f7f"), looks := false }, kinds := [], alts := [], laidByText := true, laidKinds := [.data], laidTests := true, laidLooks := .later }
def ProtoVersionsCardSaid : Prop := Claim7.holds Tryd.pinned (.plain (OpenSpec.ofChange protoVersionsSpec)) protoVersionsCard

/-- THE TIED CARD OF 'watermeetlaw06.ProtoWaits'. -/
def protoWaitsCard : Claim7 := { stood := { row := protoWaitsRow, standIns := [], harness := (true, "914bd8f4ba55f588f3411a616729fba77a27d8a54981671c67a2ae6954f02f7f"), looks := false }, kinds := [], alts := [], laidByText := true, laidKinds := [.data], laidTests := true, laidLooks := .later }
def ProtoWaitsCardSaid : Prop := Claim7.holds Tryd.pinned (.plain (OpenSpec.ofChange protoWaitsSpec)) protoWaitsCard

/-- THE TIED CARD OF 'watermeetlaw06.ProtoTotal'. -/
def protoTotalCard : Claim7 := { stood := { row := protoTotalRow, standIns := [], harness := (true, "914bd8f4ba55f588f3411a616729fba77a27d8a54981671c67a2ae6954f02f7f"), looks := false }, kinds := [], alts := [], laidByText := true, laidKinds := [.data], laidTests := true, laidLooks := .later }
def ProtoTotalCardSaid : Prop := Claim7.holds Tryd.pinned (.plain (OpenSpec.ofChange protoTotalSpec)) protoTotalCard

/-- THE SECOND FORM's CARD OF 'watermeetlaw06.ProtoReqs'. -/
def protoReqsUptoCard : Claim7 := { stood := { row := protoReqsUptoRow, standIns := [], harness := (true, "914bd8f4ba55f588f3411a616729fba77a27d8a54981671c67a2ae6954f02f7f"), looks := false }, kinds := [], alts := [], laidByText := true, laidKinds := [.data], laidTests := true, laidLooks := .later }
def ProtoReqsUptoCardSaid : Prop := Claim7.holds Tryd.pinned (.plain (OpenSpec.upto protoReqsSpec)) protoReqsUptoCard

/-- THE SECOND FORM's CARD OF 'watermeetlaw06.ProtoResps'. -/
def protoRespsUptoCard : Claim7 := { stood := { row := protoRespsUptoRow, standIns := [], harness := (true, "914bd8f4ba55f588f3411a616729fba77a27d8a54981671c67a2ae6954f02f7f"), looks := false }, kinds := [], alts := [], laidByText := true, laidKinds := [.data], laidTests := true, laidLooks := .later }
def ProtoRespsUptoCardSaid : Prop := Claim7.holds Tryd.pinned (.plain (OpenSpec.upto protoRespsSpec)) protoRespsUptoCard

/-- THE SECOND FORM's CARD OF 'watermeetlaw06.ProtoAgrees'. -/
def protoAgreesUptoCard : Claim7 := { stood := { row := protoAgreesUptoRow, standIns := [], harness := (true, "914bd8f4ba55f588f3411a616729fba77a27d8a54981671c67a2ae6954f02f7f"), looks := false }, kinds := [], alts := [], laidByText := true, laidKinds := [.data], laidTests := true, laidLooks := .later }
def ProtoAgreesUptoCardSaid : Prop := Claim7.holds Tryd.pinned (.plain (OpenSpec.upto protoAgreesSpec)) protoAgreesUptoCard

/-- THE SECOND FORM's CARD OF 'watermeetlaw06.ProtoBack'. -/
def protoBackUptoCard : Claim7 := { stood := { row := protoBackUptoRow, standIns := [], harness := (true, "914bd8f4ba55f588f3411a616729fba77a27d8a54981671c67a2ae6954f02f7f"), looks := false }, kinds := [], alts := [], laidByText := true, laidKinds := [.data], laidTests := true, laidLooks := .later }
def ProtoBackUptoCardSaid : Prop := Claim7.holds Tryd.pinned (.plain (OpenSpec.upto protoBackSpec)) protoBackUptoCard

/-- THE SECOND FORM's CARD OF 'watermeetlaw06.ProtoOnly'. -/
def protoOnlyUptoCard : Claim7 := { stood := { row := protoOnlyUptoRow, standIns := [], harness := (true, "914bd8f4ba55f588f3411a616729fba77a27d8a54981671c67a2ae6954f02f7f"), looks := false }, kinds := [], alts := [], laidByText := true, laidKinds := [.data], laidTests := true, laidLooks := .later }
def ProtoOnlyUptoCardSaid : Prop := Claim7.holds Tryd.pinned (.plain (OpenSpec.upto protoOnlySpec)) protoOnlyUptoCard

/-- THE SECOND FORM's CARD OF 'watermeetlaw06.ProtoMeet'. -/
def protoMeetUptoCard : Claim7 := { stood := { row := protoMeetUptoRow, standIns := [], harness := (true, "914bd8f4ba55f588f3411a616729fba77a27d8a54981671c67a2ae6954f02f7f"), looks := false }, kinds := [], alts := [], laidByText := true, laidKinds := [.data], laidTests := true, laidLooks := .later }
def ProtoMeetUptoCardSaid : Prop := Claim7.holds Tryd.pinned (.plain (OpenSpec.upto protoMeetSpec)) protoMeetUptoCard

/-- THE SECOND FORM's CARD OF 'watermeetlaw06.ProtoVersions'. -/
def protoVersionsUptoCard : Claim7 := { stood := { row := protoVersionsUptoRow, standIns := [], harness := (true, "914bd8f4ba55f588f3411a616729fba77a27d8a54981671c67a2ae6954f02f7f"), looks := false }, kinds := [], alts := [], laidByText := true, laidKinds := [.data], laidTests := true, laidLooks := .later }
def ProtoVersionsUptoCardSaid : Prop := Claim7.holds Tryd.pinned (.plain (OpenSpec.upto protoVersionsSpec)) protoVersionsUptoCard

/-- THE SECOND FORM's CARD OF 'watermeetlaw06.ProtoWaits'. -/
def protoWaitsUptoCard : Claim7 := { stood := { row := protoWaitsUptoRow, standIns := [], harness := (true, "914bd8f4ba55f588f3411a616729fba77a27d8a54981671c67a2ae6954f02f7f"), looks := false }, kinds := [], alts := [], laidByText := true, laidKinds := [.data], laidTests := true, laidLooks := .later }
def ProtoWaitsUptoCardSaid : Prop := Claim7.holds Tryd.pinned (.plain (OpenSpec.upto protoWaitsSpec)) protoWaitsUptoCard

/-- THE SECOND FORM's CARD OF 'watermeetlaw06.ProtoTotal'. -/
def protoTotalUptoCard : Claim7 := { stood := { row := protoTotalUptoRow, standIns := [], harness := (true, "914bd8f4ba55f588f3411a616729fba77a27d8a54981671c67a2ae6954f02f7f"), looks := false }, kinds := [], alts := [], laidByText := true, laidKinds := [.data], laidTests := true, laidLooks := .later }
def ProtoTotalUptoCardSaid : Prop := Claim7.holds Tryd.pinned (.plain (OpenSpec.upto protoTotalSpec)) protoTotalUptoCard
end Rows
end Go.Proofs.YthhdhdjdhekgpaaDoor
