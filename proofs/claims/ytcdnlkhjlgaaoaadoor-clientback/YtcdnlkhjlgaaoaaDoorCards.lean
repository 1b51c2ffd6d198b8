/-
  DERIVED. GIVEN WITH THE SEED: THE CARDS: each row of YtcdnlkhjlgaaoaaDoorRows.lean that lists a variable, with what it lists TIED to the program's text (the seventh form; the later family's looks); each row that meets fmt, with fmt's text TOLD by the authors' own Lean function (tested against real Go, not proved from fmt's source: count such statements apart). THE CARD IS WHAT COUNTS. Prove the row's statement (the work); the ties are given (YtcdnlkhjlgaaoaaDoorTie.lean); close each card by the builder's one call (the guide's Derived/Test/ToyasCard.lean, 'card_holds'). Laid BY PROGRAM, IN A SANDBOX (cutbox-door.mjs). By AI agents, Wed Nov 11 2026. No macro, syntax, notation, axiom, sorry.
-/
import Derived.Test.YtcdnlkhjlgaaoaaDoorRows
import GoSem.ClaimSeven
namespace Go.Proofs.YtcdnlkhjlgaaoaaDoor
namespace Rows

/-- THE TIED CARD OF 'oxbowlaw20.ClientBegins'. -/
def clientBeginsCard : Claim7 := { stood := { row := clientBeginsRow, standIns := [], harness := (true, "6c69b3b50af7bef0183c39cec87aa93e93bbad042a633b59ce6b6d348caf7b78"), looks := true }, kinds := [], alts := [], laidByText := true, laidKinds := [.data, .pinned], laidTests := true, laidLooks := .later }
def ClientBeginsCardSaid : Prop := Claim7.holds Tryd.pinned (.plain (OpenSpec.ofChange clientBeginsSpec)) clientBeginsCard

/-- THE TIED CARD OF 'oxbowlaw20.ClientEdits'. -/
def clientEditsCard : Claim7 := { stood := { row := clientEditsRow, standIns := [], harness := (true, "6c69b3b50af7bef0183c39cec87aa93e93bbad042a633b59ce6b6d348caf7b78"), looks := true }, kinds := [], alts := [], laidByText := true, laidKinds := [.data, .pinned], laidTests := true, laidLooks := .later }
def ClientEditsCardSaid : Prop := Claim7.holds Tryd.pinned (.plain (OpenSpec.ofChange clientEditsSpec)) clientEditsCard

/-- THE TIED CARD OF 'oxbowlaw20.ClientNext'. -/
def clientNextCard : Claim7 := { stood := { row := clientNextRow, standIns := [], harness := (true, "6c69b3b50af7bef0183c39cec87aa93e93bbad042a633b59ce6b6d348caf7b78"), looks := true }, kinds := [], alts := [], laidByText := true, laidKinds := [.data, .pinned], laidTests := true, laidLooks := .later }
def ClientNextCardSaid : Prop := Claim7.holds Tryd.pinned (.plain (OpenSpec.ofChange clientNextSpec)) clientNextCard

/-- THE TIED CARD OF 'oxbowlaw20.ClientSays'. -/
def clientSaysCard : Claim7 := { stood := { row := clientSaysRow, standIns := [], harness := (true, "6c69b3b50af7bef0183c39cec87aa93e93bbad042a633b59ce6b6d348caf7b78"), looks := true }, kinds := [], alts := [], laidByText := true, laidKinds := [.data, .pinned], laidTests := true, laidLooks := .later }
def ClientSaysCardSaid : Prop := Claim7.holds Tryd.pinned (.plain (OpenSpec.ofChange clientSaysSpec)) clientSaysCard

/-- THE TIED CARD OF 'oxbowlaw20.ClientBack'. -/
def clientBackCard : Claim7 := { stood := { row := clientBackRow, standIns := [], harness := (true, "6c69b3b50af7bef0183c39cec87aa93e93bbad042a633b59ce6b6d348caf7b78"), looks := true }, kinds := [], alts := [], laidByText := true, laidKinds := [.data, .pinned], laidTests := true, laidLooks := .later }
def ClientBackCardSaid : Prop := Claim7.holds Tryd.pinned (.plain (OpenSpec.ofChange clientBackSpec)) clientBackCard

/-- THE SECOND FORM's CARD OF 'oxbowlaw20.ClientBegins'. -/
def clientBeginsUptoCard : Claim7 := { stood := { row := clientBeginsUptoRow, standIns := [], harness := (true, "6c69b3b50af7bef0183c39cec87aa93e93bbad042a633b59ce6b6d348caf7b78"), looks := true }, kinds := [], alts := [], laidByText := true, laidKinds := [.data, .pinned], laidTests := true, laidLooks := .later }
def ClientBeginsUptoCardSaid : Prop := Claim7.holds Tryd.pinned (.plain (OpenSpec.upto clientBeginsSpec)) clientBeginsUptoCard

/-- THE SECOND FORM's CARD OF 'oxbowlaw20.ClientEdits'. -/
def clientEditsUptoCard : Claim7 := { stood := { row := clientEditsUptoRow, standIns := [], harness := (true, "6c69b3b50af7bef0183c39cec87aa93e93bbad042a633b59ce6b6d348caf7b78"), looks := true }, kinds := [], alts := [], laidByText := true, laidKinds := [.data, .pinned], laidTests := true, laidLooks := .later }
def ClientEditsUptoCardSaid : Prop := Claim7.holds Tryd.pinned (.plain (OpenSpec.upto clientEditsSpec)) clientEditsUptoCard

/-- THE SECOND FORM's CARD OF 'oxbowlaw20.ClientNext'. -/
def clientNextUptoCard : Claim7 := { stood := { row := clientNextUptoRow, standIns := [], harness := (true, "6c69b3b50af7bef0183c39cec87aa93e93bbad042a633b59ce6b6d348caf7b78"), looks := true }, kinds := [], alts := [], laidByText := true, laidKinds := [.data, .pinned], laidTests := true, laidLooks := .later }
def ClientNextUptoCardSaid : Prop := Claim7.holds Tryd.pinned (.plain (OpenSpec.upto clientNextSpec)) clientNextUptoCard

/-- THE SECOND FORM's CARD OF 'oxbowlaw20.ClientSays'. -/
def clientSaysUptoCard : Claim7 := { stood := { row := clientSaysUptoRow, standIns := [], harness := (true, "6c69b3b50af7bef0183c39cec87aa93e93bbad042a633b59ce6b6d348caf7b78"), looks := true }, kinds := [], alts := [], laidByText := true, laidKinds := [.data, .pinned], laidTests := true, laidLooks := .later }
def ClientSaysUptoCardSaid : Prop := Claim7.holds Tryd.pinned (.plain (OpenSpec.upto clientSaysSpec)) clientSaysUptoCard

/-- THE SECOND FORM's CARD OF 'oxbowlaw20.ClientBack'. -/
def clientBackUptoCard : Claim7 := { stood := { row := clientBackUptoRow, standIns := [], harness := (true, "6c69b3b50af7bef0183c39cec87aa93e93bbad042a633b59ce6b6d348caf7b78"), looks := true }, kinds := [], alts := [], laidByText := true, laidKinds := [.data, .pinned], laidTests := true, laidLooks := .later }
def ClientBackUptoCardSaid : Prop := Claim7.holds Tryd.pinned (.plain (OpenSpec.upto clientBackSpec)) clientBackUptoCard
end Rows
end Go.Proofs.YtcdnlkhjlgaaoaaDoor
