/-
  DERIVED. GIVEN WITH THE SEED: THE CARDS: each row of YtllebgadhhgckaaDoorRows.lean that lists a variable, with what it lists TIED to the program's text (the seventh form; the later family's looks); each row that meets fmt, with fmt's text TOLD by the authors' own Lean function (tested against real Go, not proved from fmt's source: count such statements apart). THE CARD IS WHAT COUNTS. Prove the row's statement (the work); the ties are given (YtllebgadhhgckaaDoorTie.lean); close each card by the builder's one call (the guide's Derived/Test/ToyasCard.lean, 'card_holds'). Laid BY PROGRAM, IN A SANDBOX (cutbox-door.mjs). By AI agents, Wed Nov 11 2026. No macro, syntax, notation, axiom, sorry.
-/
import Derived.Test.YtllebgadhhgckaaDoorRows
import GoSem.ClaimSeven
namespace Go.Proofs.YtllebgadhhgckaaDoor
namespace Rows

/-- THE TIED CARD OF 'watermeetlaw11.SeqsLooks'. -/
def seqsLooksCard : Claim7 := { stood := { row := seqsLooksRow, standIns := [], harness := (true, "934c4175c22cf6ebd5c5bb7cfcef1248a1d87827f8534c5a344dee36c2a0e337"), looks := false }, kinds := [], alts := [], laidByText := true, laidKinds := [.data], laidTests := true, laidLooks := .later }
def SeqsLooksCardSaid : Prop := Claim7.holds Tryd.pinned (.plain (OpenSpec.ofChange seqsLooksSpec)) seqsLooksCard

/-- THE TIED CARD OF 'watermeetlaw11.SeqsPuts'. -/
def seqsPutsCard : Claim7 := { stood := { row := seqsPutsRow, standIns := [], harness := (true, "934c4175c22cf6ebd5c5bb7cfcef1248a1d87827f8534c5a344dee36c2a0e337"), looks := false }, kinds := [], alts := [], laidByText := true, laidKinds := [.data], laidTests := true, laidLooks := .later }
def SeqsPutsCardSaid : Prop := Claim7.holds Tryd.pinned (.plain (OpenSpec.ofChange seqsPutsSpec)) seqsPutsCard

/-- THE TIED CARD OF 'watermeetlaw11.SeqsOfs'. -/
def seqsOfsCard : Claim7 := { stood := { row := seqsOfsRow, standIns := [], harness := (true, "934c4175c22cf6ebd5c5bb7cfcef1248a1d87827f8534c5a344dee36c2a0e337"), looks := false }, kinds := [], alts := [], laidByText := true, laidKinds := [.data], laidTests := true, laidLooks := .later }
def SeqsOfsCardSaid : Prop := Claim7.holds Tryd.pinned (.plain (OpenSpec.ofChange seqsOfsSpec)) seqsOfsCard

/-- THE TIED CARD OF 'watermeetlaw11.SeqsSaves'. -/
def seqsSavesCard : Claim7 := { stood := { row := seqsSavesRow, standIns := [], harness := (true, "934c4175c22cf6ebd5c5bb7cfcef1248a1d87827f8534c5a344dee36c2a0e337"), looks := false }, kinds := [], alts := [], laidByText := true, laidKinds := [.data], laidTests := true, laidLooks := .later }
def SeqsSavesCardSaid : Prop := Claim7.holds Tryd.pinned (.plain (OpenSpec.ofChange seqsSavesSpec)) seqsSavesCard

/-- THE TIED CARD OF 'watermeetlaw11.SeqsBack'. -/
def seqsBackCard : Claim7 := { stood := { row := seqsBackRow, standIns := [], harness := (true, "934c4175c22cf6ebd5c5bb7cfcef1248a1d87827f8534c5a344dee36c2a0e337"), looks := false }, kinds := [], alts := [], laidByText := true, laidKinds := [.data], laidTests := true, laidLooks := .later }
def SeqsBackCardSaid : Prop := Claim7.holds Tryd.pinned (.plain (OpenSpec.ofChange seqsBackSpec)) seqsBackCard

/-- THE TIED CARD OF 'watermeetlaw11.SeqsOnce'. -/
def seqsOnceCard : Claim7 := { stood := { row := seqsOnceRow, standIns := [], harness := (true, "934c4175c22cf6ebd5c5bb7cfcef1248a1d87827f8534c5a344dee36c2a0e337"), looks := false }, kinds := [], alts := [], laidByText := true, laidKinds := [.data], laidTests := true, laidLooks := .later }
def SeqsOnceCardSaid : Prop := Claim7.holds Tryd.pinned (.plain (OpenSpec.ofChange seqsOnceSpec)) seqsOnceCard

/-- THE TIED CARD OF 'watermeetlaw11.SeqsTwice'. -/
def seqsTwiceCard : Claim7 := { stood := { row := seqsTwiceRow, standIns := [], harness := (true, "934c4175c22cf6ebd5c5bb7cfcef1248a1d87827f8534c5a344dee36c2a0e337"), looks := false }, kinds := [], alts := [], laidByText := true, laidKinds := [.data], laidTests := true, laidLooks := .later }
def SeqsTwiceCardSaid : Prop := Claim7.holds Tryd.pinned (.plain (OpenSpec.ofChange seqsTwiceSpec)) seqsTwiceCard

/-- THE TIED CARD OF 'watermeetlaw11.SeqsFences'. -/
def seqsFencesCard : Claim7 := { stood := { row := seqsFencesRow, standIns := [], harness := (true, "934c4175c22cf6ebd5c5bb7cfcef1248a1d87827f8534c5a344dee36c2a0e337"), looks := false }, kinds := [], alts := [], laidByText := true, laidKinds := [.data], laidTests := true, laidLooks := .later }
def SeqsFencesCardSaid : Prop := Claim7.holds Tryd.pinned (.plain (OpenSpec.ofChange seqsFencesSpec)) seqsFencesCard

/-- THE TIED CARD OF 'watermeetlaw11.SeqsOthers'. -/
def seqsOthersCard : Claim7 := { stood := { row := seqsOthersRow, standIns := [], harness := (true, "934c4175c22cf6ebd5c5bb7cfcef1248a1d87827f8534c5a344dee36c2a0e337"), looks := false }, kinds := [], alts := [], laidByText := true, laidKinds := [.data], laidTests := true, laidLooks := .later }
def SeqsOthersCardSaid : Prop := Claim7.holds Tryd.pinned (.plain (OpenSpec.ofChange seqsOthersSpec)) seqsOthersCard

/-- THE SECOND FORM's CARD OF 'watermeetlaw11.SeqsLooks'. -/
def seqsLooksUptoCard : Claim7 := { stood := { row := seqsLooksUptoRow, standIns := [], harness := (true, "934c4175c22cf6ebd5c5bb7cfcef1248a1d87827f8534c5a344dee36c2a0e337"), looks := false }, kinds := [], alts := [], laidByText := true, laidKinds := [.data], laidTests := true, laidLooks := .later }
def SeqsLooksUptoCardSaid : Prop := Claim7.holds Tryd.pinned (.plain (OpenSpec.upto seqsLooksSpec)) seqsLooksUptoCard

/-- THE SECOND FORM's CARD OF 'watermeetlaw11.SeqsPuts'. -/
def seqsPutsUptoCard : Claim7 := { stood := { row := seqsPutsUptoRow, standIns := [], harness := (true, "934c4175c22cf6ebd5c5bb7cfcef1248a1d87827f8534c5a344dee36c2a0e337"), looks := false }, kinds := [], alts := [], laidByText := true, laidKinds := [.data], laidTests := true, laidLooks := .later }
def SeqsPutsUptoCardSaid : Prop := Claim7.holds Tryd.pinned (.plain (OpenSpec.upto seqsPutsSpec)) seqsPutsUptoCard

/-- THE SECOND FORM's CARD OF 'watermeetlaw11.SeqsOfs'. -/
def seqsOfsUptoCard : Claim7 := { stood := { row := seqsOfsUptoRow, standIns := [], harness := (true, "934c4175c22cf6ebd5c5bb7cfcef1248a1d87827f8534c5a344dee36c2a0e337"), looks := false }, kinds := [], alts := [], laidByText := true, laidKinds := [.data], laidTests := true, laidLooks := .later }
def SeqsOfsUptoCardSaid : Prop := Claim7.holds Tryd.pinned (.plain (OpenSpec.upto seqsOfsSpec)) seqsOfsUptoCard

/-- THE SECOND FORM's CARD OF 'watermeetlaw11.SeqsSaves'. -/
def seqsSavesUptoCard : Claim7 := { stood := { row := seqsSavesUptoRow, standIns := [], harness := (true, "934c4175c22cf6ebd5c5bb7cfcef1248a1d87827f8534c5a344dee36c2a0e337"), looks := false }, kinds := [], alts := [], laidByText := true, laidKinds := [.data], laidTests := true, laidLooks := .later }
def SeqsSavesUptoCardSaid : Prop := Claim7.holds Tryd.pinned (.plain (OpenSpec.upto seqsSavesSpec)) seqsSavesUptoCard

/-- THE SECOND FORM's CARD OF 'watermeetlaw11.SeqsBack'. -/
def seqsBackUptoCard : Claim7 := { stood := { row := seqsBackUptoRow, standIns := [], harness := (true, "934c4175c22cf6ebd5c5bb7cfcef1248a1d87827f8534c5a344dee36c2a0e337"), looks := false }, kinds := [], alts := [], laidByText := true, laidKinds := [.data], laidTests := true, laidLooks := .later }
def SeqsBackUptoCardSaid : Prop := Claim7.holds Tryd.pinned (.plain (OpenSpec.upto seqsBackSpec)) seqsBackUptoCard

/-- THE SECOND FORM's CARD OF 'watermeetlaw11.SeqsOnce'. -/
def seqsOnceUptoCard : Claim7 := { stood := { row := seqsOnceUptoRow, standIns := [], harness := (true, "934c4175c22cf6ebd5c5bb7cfcef1248a1d87827f8534c5a344dee36c2a0e337"), looks := false }, kinds := [], alts := [], laidByText := true, laidKinds := [.data], laidTests := true, laidLooks := .later }
def SeqsOnceUptoCardSaid : Prop := Claim7.holds Tryd.pinned (.plain (OpenSpec.upto seqsOnceSpec)) seqsOnceUptoCard

/-- THE SECOND FORM's CARD OF 'watermeetlaw11.SeqsTwice'. -/
def seqsTwiceUptoCard : Claim7 := { stood := { row := seqsTwiceUptoRow, standIns := [], harness := (true, "934c4175c22cf6ebd5c5bb7cfcef1248a1d87827f8534c5a344dee36c2a0e337"), looks := false }, kinds := [], alts := [], laidByText := true, laidKinds := [.data], laidTests := true, laidLooks := .later }
def SeqsTwiceUptoCardSaid : Prop := Claim7.holds Tryd.pinned (.plain (OpenSpec.upto seqsTwiceSpec)) seqsTwiceUptoCard

/-- THE SECOND FORM's CARD OF 'watermeetlaw11.SeqsFences'. -/
def seqsFencesUptoCard : Claim7 := { stood := { row := seqsFencesUptoRow, standIns := [], harness := (true, "934c4175c22cf6ebd5c5bb7cfcef1248a1d87827f8534c5a344dee36c2a0e337"), looks := false }, kinds := [], alts := [], laidByText := true, laidKinds := [.data], laidTests := true, laidLooks := .later }
def SeqsFencesUptoCardSaid : Prop := Claim7.holds Tryd.pinned (.plain (OpenSpec.upto seqsFencesSpec)) seqsFencesUptoCard

/-- THE SECOND FORM's CARD OF 'watermeetlaw11.SeqsOthers'. -/
def seqsOthersUptoCard : Claim7 := { stood := { row := seqsOthersUptoRow, standIns := [], harness := (true, "934c4175c22cf6ebd5c5bb7cfcef1248a1d87827f8534c5a344dee36c2a0e337"), looks := false }, kinds := [], alts := [], laidByText := true, laidKinds := [.data], laidTests := true, laidLooks := .later }
def SeqsOthersUptoCardSaid : Prop := Claim7.holds Tryd.pinned (.plain (OpenSpec.upto seqsOthersSpec)) seqsOthersUptoCard
end Rows
end Go.Proofs.YtllebgadhhgckaaDoor
