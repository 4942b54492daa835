/-
  DERIVED. GIVEN WITH THE SEED: THE CARDS: each row of YtbnkfljkojhkoaaDoorRows.lean that lists a variable, with what it lists TIED to the program's text (the seventh form; the later family's looks); each row that meets fmt, with fmt's text TOLD by the authors' own Lean function (tested against real Go, not proved from fmt's source: count such statements apart). THE CARD IS WHAT COUNTS. Prove the row's statement (the work); the ties are given (YtbnkfljkojhkoaaDoorTie.lean); close each card by the builder's one call (the guide's Derived/Test/ToyasCard.lean, 'card_holds'). Laid BY PROGRAM, IN A SANDBOX (cutbox-door.mjs). By AI agents, Wed Nov 11 2026. No macro, syntax, notation, axiom, sorry.
-/
import Derived.Test.YtbnkfljkojhkoaaDoorRows
import GoSem.ClaimSeven
namespace Go.Proofs.YtbnkfljkojhkoaaDoor
namespace Rows

/-- THE TIED CARD OF 'watermeetlaw08.IndexPlaces'. -/
def indexPlacesCard : Claim7 := { stood := { row := indexPlacesRow, standIns := [], harness := (true, "41be7e607d66cfdd6008461b4b7c97f5871f9791b8cb61aa2317aa8070baa326"), looks := false }, kinds := [], alts := [], laidByText := true, laidKinds := [.data], laidTests := true, laidLooks := .later }
def IndexPlacesCardSaid : Prop := Claim7.holds Tryd.pinned (.plain (OpenSpec.ofChange indexPlacesSpec)) indexPlacesCard

/-- THE TIED CARD OF 'watermeetlaw08.IndexNever'. -/
def indexNeverCard : Claim7 := { stood := { row := indexNeverRow, standIns := [], harness := (true, "41be7e607d66cfdd6008461b4b7c97f5871f9791b8cb61aa2317aa8070baa326"), looks := false }, kinds := [], alts := [], laidByText := true, laidKinds := [.data], laidTests := true, laidLooks := .later }
def IndexNeverCardSaid : Prop := Claim7.holds Tryd.pinned (.plain (OpenSpec.ofChange indexNeverSpec)) indexNeverCard

/-- THE TIED CARD OF 'watermeetlaw08.IndexLeaves'. -/
def indexLeavesCard : Claim7 := { stood := { row := indexLeavesRow, standIns := [], harness := (true, "41be7e607d66cfdd6008461b4b7c97f5871f9791b8cb61aa2317aa8070baa326"), looks := false }, kinds := [], alts := [], laidByText := true, laidKinds := [.data], laidTests := true, laidLooks := .later }
def IndexLeavesCardSaid : Prop := Claim7.holds Tryd.pinned (.plain (OpenSpec.ofChange indexLeavesSpec)) indexLeavesCard

/-- THE TIED CARD OF 'watermeetlaw08.IndexWhole'. -/
def indexWholeCard : Claim7 := { stood := { row := indexWholeRow, standIns := [], harness := (true, "41be7e607d66cfdd6008461b4b7c97f5871f9791b8cb61aa2317aa8070baa326"), looks := false }, kinds := [], alts := [], laidByText := true, laidKinds := [.data], laidTests := true, laidLooks := .later }
def IndexWholeCardSaid : Prop := Claim7.holds Tryd.pinned (.plain (OpenSpec.ofChange indexWholeSpec)) indexWholeCard

/-- THE TIED CARD OF 'watermeetlaw08.IndexSpares'. -/
def indexSparesCard : Claim7 := { stood := { row := indexSparesRow, standIns := [], harness := (true, "41be7e607d66cfdd6008461b4b7c97f5871f9791b8cb61aa2317aa8070baa326"), looks := false }, kinds := [], alts := [], laidByText := true, laidKinds := [.data], laidTests := true, laidLooks := .later }
def IndexSparesCardSaid : Prop := Claim7.holds Tryd.pinned (.plain (OpenSpec.ofChange indexSparesSpec)) indexSparesCard

/-- THE TIED CARD OF 'watermeetlaw08.IndexGrows'. -/
def indexGrowsCard : Claim7 := { stood := { row := indexGrowsRow, standIns := [], harness := (true, "41be7e607d66cfdd6008461b4b7c97f5871f9791b8cb61aa2317aa8070baa326"), looks := false }, kinds := [], alts := [], laidByText := true, laidKinds := [.data], laidTests := true, laidLooks := .later }
def IndexGrowsCardSaid : Prop := Claim7.holds Tryd.pinned (.plain (OpenSpec.ofChange indexGrowsSpec)) indexGrowsCard

/-- THE SECOND FORM's CARD OF 'watermeetlaw08.IndexPlaces'. -/
def indexPlacesUptoCard : Claim7 := { stood := { row := indexPlacesUptoRow, standIns := [], harness := (true, "41be7e607d66cfdd6008461b4b7c97f5871f9791b8cb61aa2317aa8070baa326"), looks := false }, kinds := [], alts := [], laidByText := true, laidKinds := [.data], laidTests := true, laidLooks := .later }
def IndexPlacesUptoCardSaid : Prop := Claim7.holds Tryd.pinned (.plain (OpenSpec.upto indexPlacesSpec)) indexPlacesUptoCard

/-- THE SECOND FORM's CARD OF 'watermeetlaw08.IndexNever'. -/
def indexNeverUptoCard : Claim7 := { stood := { row := indexNeverUptoRow, standIns := [], harness := (true, "41be7e607d66cfdd6008461b4b7c97f5871f9791b8cb61aa2317aa8070baa326"), looks := false }, kinds := [], alts := [], laidByText := true, laidKinds := [.data], laidTests := true, laidLooks := .later }
def IndexNeverUptoCardSaid : Prop := Claim7.holds Tryd.pinned (.plain (OpenSpec.upto indexNeverSpec)) indexNeverUptoCard

/-- THE SECOND FORM's CARD OF 'watermeetlaw08.IndexLeaves'. -/
def indexLeavesUptoCard : Claim7 := { stood := { row := indexLeavesUptoRow, standIns := [], harness := (true, "41be7e607d66cfdd6008461b4b7c97f5871f9791b8cb61aa2317aa8070baa326"), looks := false }, kinds := [], alts := [], laidByText := true, laidKinds := [.data], laidTests := true, laidLooks := .later }
def IndexLeavesUptoCardSaid : Prop := Claim7.holds Tryd.pinned (.plain (OpenSpec.upto indexLeavesSpec)) indexLeavesUptoCard

/-- THE SECOND FORM's CARD OF 'watermeetlaw08.IndexWhole'. -/
def indexWholeUptoCard : Claim7 := { stood := { row := indexWholeUptoRow, standIns := [], harness := (true, "41be7e607d66cfdd6008461b4b7c97f5871f9791b8cb61aa2317aa8070baa326"), looks := false }, kinds := [], alts := [], laidByText := true, laidKinds := [.data], laidTests := true, laidLooks := .later }
def IndexWholeUptoCardSaid : Prop := Claim7.holds Tryd.pinned (.plain (OpenSpec.upto indexWholeSpec)) indexWholeUptoCard

/-- THE SECOND FORM's CARD OF 'watermeetlaw08.IndexSpares'. -/
def indexSparesUptoCard : Claim7 := { stood := { row := indexSparesUptoRow, standIns := [], harness := (true, "41be7e607d66cfdd6008461b4b7c97f5871f9791b8cb61aa2317aa8070baa326"), looks := false }, kinds := [], alts := [], laidByText := true, laidKinds := [.data], laidTests := true, laidLooks := .later }
def IndexSparesUptoCardSaid : Prop := Claim7.holds Tryd.pinned (.plain (OpenSpec.upto indexSparesSpec)) indexSparesUptoCard

/-- THE SECOND FORM's CARD OF 'watermeetlaw08.IndexGrows'. -/
def indexGrowsUptoCard : Claim7 := { stood := { row := indexGrowsUptoRow, standIns := [], harness := (true, "41be7e607d66cfdd6008461b4b7c97f5871f9791b8cb61aa2317aa8070baa326"), looks := false }, kinds := [], alts := [], laidByText := true, laidKinds := [.data], laidTests := true, laidLooks := .later }
def IndexGrowsUptoCardSaid : Prop := Claim7.holds Tryd.pinned (.plain (OpenSpec.upto indexGrowsSpec)) indexGrowsUptoCard
end Rows
end Go.Proofs.YtbnkfljkojhkoaaDoor
