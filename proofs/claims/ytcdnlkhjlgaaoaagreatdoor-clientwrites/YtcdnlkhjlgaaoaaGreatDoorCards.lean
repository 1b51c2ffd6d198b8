/-
  DERIVED. GIVEN WITH THE SEED: THE CARDS: each row of YtcdnlkhjlgaaoaaGreatDoorRows.lean that lists a variable, with what it lists TIED to the program's text (the seventh form; the later family's looks); each row that meets fmt, with fmt's text TOLD by the authors' own Lean function (tested against real Go, not proved from fmt's source: count such statements apart). THE CARD IS WHAT COUNTS. Prove the row's statement (the work); the ties are given (YtcdnlkhjlgaaoaaGreatDoorTie.lean); close each card by the builder's one call (the guide's Derived/Test/ToyasCard.lean, 'card_holds'). Laid BY PROGRAM, IN A SANDBOX (cutbox-door.mjs). By AI agents, Wed Nov 11 2026. No macro, syntax, notation, axiom, sorry.
-/
import Derived.Test.YtcdnlkhjlgaaoaaGreatDoorRows
import GoSem.ClaimSeven
namespace Go.Proofs.YtcdnlkhjlgaaoaaGreatDoor
namespace Rows

/-- THE TIED CARD OF 'oxbowlaw20.ClientWrites'. -/
def clientWritesCard : Claim7 := { stood := { row := clientWritesRow, standIns := [], harness := (true, "f892a587a70f6866940c75ac42993df9709fbde378499e24d5df0aba8bb97ec0"), looks := true }, kinds := [], alts := [], laidByText := true, laidKinds := [.data, .pinned], laidTests := true, laidLooks := .later }
def ClientWritesCardSaid : Prop := Claim7.holds Tryz.pinned (.plain (OpenSpec.ofChange clientWritesSpec)) clientWritesCard

/-- THE SECOND FORM's CARD OF 'oxbowlaw20.ClientWrites'. -/
def clientWritesUptoCard : Claim7 := { stood := { row := clientWritesUptoRow, standIns := [], harness := (true, "f892a587a70f6866940c75ac42993df9709fbde378499e24d5df0aba8bb97ec0"), looks := true }, kinds := [], alts := [], laidByText := true, laidKinds := [.data, .pinned], laidTests := true, laidLooks := .later }
def ClientWritesUptoCardSaid : Prop := Claim7.holds Tryz.pinned (.plain (OpenSpec.upto clientWritesSpec)) clientWritesUptoCard
end Rows
end Go.Proofs.YtcdnlkhjlgaaoaaGreatDoor
