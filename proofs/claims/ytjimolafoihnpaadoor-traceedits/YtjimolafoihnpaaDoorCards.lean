/-
  DERIVED. GIVEN WITH THE SEED: THE CARDS: each row of YtjimolafoihnpaaDoorRows.lean that lists a variable, with what it lists TIED to the program's text (the seventh form; the later family's looks); each row that meets fmt, with fmt's text TOLD by the authors' own Lean function (tested against real Go, not proved from fmt's source: count such statements apart). THE CARD IS WHAT COUNTS. Prove the row's statement (the work); the ties are given (YtjimolafoihnpaaDoorTie.lean); close each card by the builder's one call (the guide's Derived/Test/ToyasCard.lean, 'card_holds'). Laid BY PROGRAM, IN A SANDBOX (cutbox-door.mjs). By AI agents, Wed Nov 11 2026. No macro, syntax, notation, axiom, sorry.
-/
import Derived.Test.YtjimolafoihnpaaDoorRows
import GoSem.ClaimSeven
namespace Go.Proofs.YtjimolafoihnpaaDoor
namespace Rows

/-- THE TIED CARD OF 'oxbowlaw24.TraceEdits'. -/
def traceEditsCard : Claim7 := { stood := { row := traceEditsRow, standIns := [], harness := (true, "0bbf514b2ba6c46d1ede3735fd9c360bfbfa8c6778a2d798b6d4cb588c1040ff"), looks := true }, kinds := [], alts := [], laidByText := true, laidKinds := [.data, .pinned], laidTests := true, laidLooks := .later }
def TraceEditsCardSaid : Prop := Claim7.holds Tryd.pinned (.plain (OpenSpec.ofChange traceEditsSpec)) traceEditsCard

/-- THE TIED CARD OF 'oxbowlaw24.TraceMerges'. -/
def traceMergesCard : Claim7 := { stood := { row := traceMergesRow, standIns := [], harness := (true, "0bbf514b2ba6c46d1ede3735fd9c360bfbfa8c6778a2d798b6d4cb588c1040ff"), looks := true }, kinds := [], alts := [], laidByText := true, laidKinds := [.data, .pinned], laidTests := true, laidLooks := .later }
def TraceMergesCardSaid : Prop := Claim7.holds Tryd.pinned (.plain (OpenSpec.ofChange traceMergesSpec)) traceMergesCard

/-- THE SECOND FORM's CARD OF 'oxbowlaw24.TraceEdits'. -/
def traceEditsUptoCard : Claim7 := { stood := { row := traceEditsUptoRow, standIns := [], harness := (true, "0bbf514b2ba6c46d1ede3735fd9c360bfbfa8c6778a2d798b6d4cb588c1040ff"), looks := true }, kinds := [], alts := [], laidByText := true, laidKinds := [.data, .pinned], laidTests := true, laidLooks := .later }
def TraceEditsUptoCardSaid : Prop := Claim7.holds Tryd.pinned (.plain (OpenSpec.upto traceEditsSpec)) traceEditsUptoCard

/-- THE SECOND FORM's CARD OF 'oxbowlaw24.TraceMerges'. -/
def traceMergesUptoCard : Claim7 := { stood := { row := traceMergesUptoRow, standIns := [], harness := (true, "0bbf514b2ba6c46d1ede3735fd9c360bfbfa8c6778a2d798b6d4cb588c1040ff"), looks := true }, kinds := [], alts := [], laidByText := true, laidKinds := [.data, .pinned], laidTests := true, laidLooks := .later }
def TraceMergesUptoCardSaid : Prop := Claim7.holds Tryd.pinned (.plain (OpenSpec.upto traceMergesSpec)) traceMergesUptoCard
end Rows
end Go.Proofs.YtjimolafoihnpaaDoor
