/-
  DERIVED. GIVEN WITH THE SEED: THE CARDS: each row of YtfhbkaiioiihjaaDoorRows.lean that lists a variable, with what it lists TIED to the program's text (the seventh form; the later family's looks); each row that meets fmt, with fmt's text TOLD by the authors' own Lean function (tested against real Go, not proved from fmt's source: count such statements apart). THE CARD IS WHAT COUNTS. Prove the row's statement (the work); the ties are given (YtfhbkaiioiihjaaDoorTie.lean); close each card by the builder's one call (the guide's Derived/Test/ToyasCard.lean, 'card_holds'). Laid BY PROGRAM, IN A SANDBOX (cutbox-door.mjs). By AI agents, Wed Nov 11 2026. No macro, syntax, notation, axiom, sorry.
-/
import Derived.Test.YtfhbkaiioiihjaaDoorRows
import GoSem.ClaimSeven
namespace Go.Proofs.YtfhbkaiioiihjaaDoor
namespace Rows

/-- THE TIED CARD OF 'oxbowlaw11.DiffTells'. -/
def diffTellsCard : Claim7 := { stood := { row := diffTellsRow, standIns := [], harness := (true, "3736aa81f79807a57b2279707fe2e7276b2eaa2f6ff931ab63b769bea68d0a4a"), looks := true }, kinds := [], alts := [], laidByText := true, laidKinds := [.data, .pinned], laidTests := true, laidLooks := .later }
def DiffTellsCardSaid : Prop := Claim7.holds Tryd.pinned (.plain (OpenSpec.ofChange diffTellsSpec)) diffTellsCard

/-- THE TIED CARD OF 'oxbowlaw11.DiffGives'. -/
def diffGivesCard : Claim7 := { stood := { row := diffGivesRow, standIns := [], harness := (true, "3736aa81f79807a57b2279707fe2e7276b2eaa2f6ff931ab63b769bea68d0a4a"), looks := true }, kinds := [], alts := [], laidByText := true, laidKinds := [.data, .pinned], laidTests := true, laidLooks := .later }
def DiffGivesCardSaid : Prop := Claim7.holds Tryd.pinned (.plain (OpenSpec.ofChange diffGivesSpec)) diffGivesCard

/-- THE TIED CARD OF 'oxbowlaw11.DiffMost'. -/
def diffMostCard : Claim7 := { stood := { row := diffMostRow, standIns := [], harness := (true, "3736aa81f79807a57b2279707fe2e7276b2eaa2f6ff931ab63b769bea68d0a4a"), looks := true }, kinds := [], alts := [], laidByText := true, laidKinds := [.data, .pinned], laidTests := true, laidLooks := .later }
def DiffMostCardSaid : Prop := Claim7.holds Tryd.pinned (.plain (OpenSpec.ofChange diffMostSpec)) diffMostCard

/-- THE TIED CARD OF 'oxbowlaw11.DiffEnds'. -/
def diffEndsCard : Claim7 := { stood := { row := diffEndsRow, standIns := [], harness := (true, "3736aa81f79807a57b2279707fe2e7276b2eaa2f6ff931ab63b769bea68d0a4a"), looks := true }, kinds := [], alts := [], laidByText := true, laidKinds := [.data, .pinned], laidTests := true, laidLooks := .later }
def DiffEndsCardSaid : Prop := Claim7.holds Tryd.pinned (.plain (OpenSpec.ofChange diffEndsSpec)) diffEndsCard

/-- THE SECOND FORM's CARD OF 'oxbowlaw11.DiffTells'. -/
def diffTellsUptoCard : Claim7 := { stood := { row := diffTellsUptoRow, standIns := [], harness := (true, "3736aa81f79807a57b2279707fe2e7276b2eaa2f6ff931ab63b769bea68d0a4a"), looks := true }, kinds := [], alts := [], laidByText := true, laidKinds := [.data, .pinned], laidTests := true, laidLooks := .later }
def DiffTellsUptoCardSaid : Prop := Claim7.holds Tryd.pinned (.plain (OpenSpec.upto diffTellsSpec)) diffTellsUptoCard

/-- THE SECOND FORM's CARD OF 'oxbowlaw11.DiffGives'. -/
def diffGivesUptoCard : Claim7 := { stood := { row := diffGivesUptoRow, standIns := [], harness := (true, "3736aa81f79807a57b2279707fe2e7276b2eaa2f6ff931ab63b769bea68d0a4a"), looks := true }, kinds := [], alts := [], laidByText := true, laidKinds := [.data, .pinned], laidTests := true, laidLooks := .later }
def DiffGivesUptoCardSaid : Prop := Claim7.holds Tryd.pinned (.plain (OpenSpec.upto diffGivesSpec)) diffGivesUptoCard

/-- THE SECOND FORM's CARD OF 'oxbowlaw11.DiffMost'. -/
def diffMostUptoCard : Claim7 := { stood := { row := diffMostUptoRow, standIns := [], harness := (true, "3736aa81f79807a57b2279707fe2e7276b2eaa2f6ff931ab63b769bea68d0a4a"), looks := true }, kinds := [], alts := [], laidByText := true, laidKinds := [.data, .pinned], laidTests := true, laidLooks := .later }
def DiffMostUptoCardSaid : Prop := Claim7.holds Tryd.pinned (.plain (OpenSpec.upto diffMostSpec)) diffMostUptoCard

/-- THE SECOND FORM's CARD OF 'oxbowlaw11.DiffEnds'. -/
def diffEndsUptoCard : Claim7 := { stood := { row := diffEndsUptoRow, standIns := [], harness := (true, "3736aa81f79807a57b2279707fe2e7276b2eaa2f6ff931ab63b769bea68d0a4a"), looks := true }, kinds := [], alts := [], laidByText := true, laidKinds := [.data, .pinned], laidTests := true, laidLooks := .later }
def DiffEndsUptoCardSaid : Prop := Claim7.holds Tryd.pinned (.plain (OpenSpec.upto diffEndsSpec)) diffEndsUptoCard
end Rows
end Go.Proofs.YtfhbkaiioiihjaaDoor
