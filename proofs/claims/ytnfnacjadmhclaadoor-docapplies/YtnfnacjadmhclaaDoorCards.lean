/-
  DERIVED. GIVEN WITH THE SEED: THE CARDS: each row of YtnfnacjadmhclaaDoorRows.lean that lists a variable, with what it lists TIED to the program's text (the seventh form; the later family's looks); each row that meets fmt, with fmt's text TOLD by the authors' own Lean function (tested against real Go, not proved from fmt's source: count such statements apart). THE CARD IS WHAT COUNTS. Prove the row's statement (the work); the ties are given (YtnfnacjadmhclaaDoorTie.lean); close each card by the builder's one call (the guide's Derived/Test/ToyasCard.lean, 'card_holds'). Laid BY PROGRAM, IN A SANDBOX (cutbox-door.mjs). By AI agents, Wed Nov 11 2026. No macro, syntax, notation, axiom, sorry.
-/
import Derived.Test.YtnfnacjadmhclaaDoorRows
import GoSem.ClaimSeven
namespace Go.Proofs.YtnfnacjadmhclaaDoor
namespace Rows

/-- THE TIED CARD OF 'oxbowlaw12.DocChecks'. -/
def docChecksCard : Claim7 := { stood := { row := docChecksRow, standIns := [], harness := (true, "103bfc61b78de27284283aab2b27cbc3834235da68def8927e9074b738bb9781"), looks := true }, kinds := [], alts := [], laidByText := true, laidKinds := [.data, .pinned], laidTests := true, laidLooks := .later }
def DocChecksCardSaid : Prop := Claim7.holds Tryd.pinned (.plain (OpenSpec.ofChange docChecksSpec)) docChecksCard

/-- THE TIED CARD OF 'oxbowlaw12.DocApplies'. -/
def docAppliesCard : Claim7 := { stood := { row := docAppliesRow, standIns := [], harness := (true, "103bfc61b78de27284283aab2b27cbc3834235da68def8927e9074b738bb9781"), looks := true }, kinds := [], alts := [], laidByText := true, laidKinds := [.data, .pinned], laidTests := true, laidLooks := .later }
def DocAppliesCardSaid : Prop := Claim7.holds Tryd.pinned (.plain (OpenSpec.ofChange docAppliesSpec)) docAppliesCard

/-- THE TIED CARD OF 'oxbowlaw12.DocParts'. -/
def docPartsCard : Claim7 := { stood := { row := docPartsRow, standIns := [], harness := (true, "103bfc61b78de27284283aab2b27cbc3834235da68def8927e9074b738bb9781"), looks := true }, kinds := [], alts := [], laidByText := true, laidKinds := [.data, .pinned], laidTests := true, laidLooks := .later }
def DocPartsCardSaid : Prop := Claim7.holds Tryd.pinned (.plain (OpenSpec.ofChange docPartsSpec)) docPartsCard

/-- THE TIED CARD OF 'oxbowlaw12.DocBack'. -/
def docBackCard : Claim7 := { stood := { row := docBackRow, standIns := [], harness := (true, "103bfc61b78de27284283aab2b27cbc3834235da68def8927e9074b738bb9781"), looks := true }, kinds := [], alts := [], laidByText := true, laidKinds := [.data, .pinned], laidTests := true, laidLooks := .later }
def DocBackCardSaid : Prop := Claim7.holds Tryd.pinned (.plain (OpenSpec.ofChange docBackSpec)) docBackCard

/-- THE TIED CARD OF 'oxbowlaw12.DocTexts'. -/
def docTextsCard : Claim7 := { stood := { row := docTextsRow, standIns := [], harness := (true, "103bfc61b78de27284283aab2b27cbc3834235da68def8927e9074b738bb9781"), looks := true }, kinds := [], alts := [], laidByText := true, laidKinds := [.data, .pinned], laidTests := true, laidLooks := .later }
def DocTextsCardSaid : Prop := Claim7.holds Tryd.pinned (.plain (OpenSpec.ofChange docTextsSpec)) docTextsCard

/-- THE TIED CARD OF 'oxbowlaw12.DocKeeps'. -/
def docKeepsCard : Claim7 := { stood := { row := docKeepsRow, standIns := [], harness := (true, "103bfc61b78de27284283aab2b27cbc3834235da68def8927e9074b738bb9781"), looks := true }, kinds := [], alts := [], laidByText := true, laidKinds := [.data, .pinned], laidTests := true, laidLooks := .later }
def DocKeepsCardSaid : Prop := Claim7.holds Tryd.pinned (.plain (OpenSpec.ofChange docKeepsSpec)) docKeepsCard

/-- THE SECOND FORM's CARD OF 'oxbowlaw12.DocChecks'. -/
def docChecksUptoCard : Claim7 := { stood := { row := docChecksUptoRow, standIns := [], harness := (true, "103bfc61b78de27284283aab2b27cbc3834235da68def8927e9074b738bb9781"), looks := true }, kinds := [], alts := [], laidByText := true, laidKinds := [.data, .pinned], laidTests := true, laidLooks := .later }
def DocChecksUptoCardSaid : Prop := Claim7.holds Tryd.pinned (.plain (OpenSpec.upto docChecksSpec)) docChecksUptoCard

/-- THE SECOND FORM's CARD OF 'oxbowlaw12.DocApplies'. -/
def docAppliesUptoCard : Claim7 := { stood := { row := docAppliesUptoRow, standIns := [], harness := (true, "103bfc61b78de27284283aab2b27cbc3834235da68def8927e9074b738bb9781"), looks := true }, kinds := [], alts := [], laidByText := true, laidKinds := [.data, .pinned], laidTests := true, laidLooks := .later }
def DocAppliesUptoCardSaid : Prop := Claim7.holds Tryd.pinned (.plain (OpenSpec.upto docAppliesSpec)) docAppliesUptoCard

/-- THE SECOND FORM's CARD OF 'oxbowlaw12.DocParts'. -/
def docPartsUptoCard : Claim7 := { stood := { row := docPartsUptoRow, standIns := [], harness := (true, "103bfc61b78de27284283aab2b27cbc3834235da68def8927e9074b738bb9781"), looks := true }, kinds := [], alts := [], laidByText := true, laidKinds := [.data, .pinned], laidTests := true, laidLooks := .later }
def DocPartsUptoCardSaid : Prop := Claim7.holds Tryd.pinned (.plain (OpenSpec.upto docPartsSpec)) docPartsUptoCard

/-- THE SECOND FORM's CARD OF 'oxbowlaw12.DocBack'. -/
def docBackUptoCard : Claim7 := { stood := { row := docBackUptoRow, standIns := [], harness := (true, "103bfc61b78de27284283aab2b27cbc3834235da68def8927e9074b738bb9781"), looks := true }, kinds := [], alts := [], laidByText := true, laidKinds := [.data, .pinned], laidTests := true, laidLooks := .later }
def DocBackUptoCardSaid : Prop := Claim7.holds Tryd.pinned (.plain (OpenSpec.upto docBackSpec)) docBackUptoCard

/-- THE SECOND FORM's CARD OF 'oxbowlaw12.DocTexts'. -/
def docTextsUptoCard : Claim7 := { stood := { row := docTextsUptoRow, standIns := [], harness := (true, "103bfc61b78de27284283aab2b27cbc3834235da68def8927e9074b738bb9781"), looks := true }, kinds := [], alts := [], laidByText := true, laidKinds := [.data, .pinned], laidTests := true, laidLooks := .later }
def DocTextsUptoCardSaid : Prop := Claim7.holds Tryd.pinned (.plain (OpenSpec.upto docTextsSpec)) docTextsUptoCard

/-- THE SECOND FORM's CARD OF 'oxbowlaw12.DocKeeps'. -/
def docKeepsUptoCard : Claim7 := { stood := { row := docKeepsUptoRow, standIns := [], harness := (true, "103bfc61b78de27284283aab2b27cbc3834235da68def8927e9074b738bb9781"), looks := true }, kinds := [], alts := [], laidByText := true, laidKinds := [.data, .pinned], laidTests := true, laidLooks := .later }
def DocKeepsUptoCardSaid : Prop := Claim7.holds Tryd.pinned (.plain (OpenSpec.upto docKeepsSpec)) docKeepsUptoCard
end Rows
end Go.Proofs.YtnfnacjadmhclaaDoor
