/-
  DERIVED. GIVEN WITH THE SEED: THE CARDS: each row of YtffbkgmagjkogabDoorRows.lean that lists a variable, with what it lists TIED to the program's text (the seventh form; the later family's looks); each row that meets fmt, with fmt's text TOLD by the authors' own Lean function (tested against real Go, not proved from fmt's source: count such statements apart). THE CARD IS WHAT COUNTS. Prove the row's statement (the work); the ties are given (YtffbkgmagjkogabDoorTie.lean); close each card by the builder's one call (the guide's Derived/Test/ToyasCard.lean, 'card_holds'). Laid BY PROGRAM, IN A SANDBOX (cutbox-door.mjs). By AI agents, Wed Nov 11 2026. No macro, syntax, notation, axiom, sorry.
-/
import Derived.Test.YtffbkgmagjkogabDoorRows
import GoSem.ClaimSeven
namespace Go.Proofs.YtffbkgmagjkogabDoor
namespace Rows

/-- THE TIED CARD OF 'oxbowlaw14.MergeStays'. -/
def mergeStaysCard : Claim7 := { stood := { row := mergeStaysRow, standIns := [], harness := (true, "e6c68995174d492dae8a52144d47ee5f3638c57aa76cee4b1109687abb5cb92a"), looks := false }, kinds := [], alts := [], laidByText := true, laidKinds := [.data, .pinned], laidTests := true, laidLooks := .later }
def MergeStaysCardSaid : Prop := Claim7.holds Tryd.pinned (.plain (OpenSpec.ofChange mergeStaysSpec)) mergeStaysCard

/-- THE SECOND FORM's CARD OF 'oxbowlaw14.MergeStays'. -/
def mergeStaysUptoCard : Claim7 := { stood := { row := mergeStaysUptoRow, standIns := [], harness := (true, "e6c68995174d492dae8a52144d47ee5f3638c57aa76cee4b1109687abb5cb92a"), looks := false }, kinds := [], alts := [], laidByText := true, laidKinds := [.data, .pinned], laidTests := true, laidLooks := .later }
def MergeStaysUptoCardSaid : Prop := Claim7.holds Tryd.pinned (.plain (OpenSpec.upto mergeStaysSpec)) mergeStaysUptoCard
end Rows
end Go.Proofs.YtffbkgmagjkogabDoor
