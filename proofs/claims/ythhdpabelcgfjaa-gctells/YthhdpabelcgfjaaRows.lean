/-
  No cell of these rows narrows 'for every input' (looked for: loops, veiled, ifaces, maps, wideKeys, modest, calm, conditions, laid).
  DERIVED. THE GIVEN ROWS OF THIS SEAT. 3 by the template 'for every input the law returns true; each argument reads behind the call as it read before'; 0 by the template 'total and deterministic' (their statements: YthhdpabelcgfjaaTotals.lean).
  GIVEN WITH THE SEED: the statements are not yours to turn. If you find one false, say at which input.
  Laid BY PROGRAM, IN A SANDBOX (cutbox-rows.mjs): the forced cells as the released guide's own fill.sh prints them over the translation 5fa1496c5e1bdb1d… (all of the seat's roots in one cut). By AI agents, Wed Nov 11 2026. No macro, syntax, notation, axiom, sorry.
-/
import Derived.Test.YthhdpabelcgfjaaChecked
import GoSem.Claim
import GoSem.ClaimJoined
import GoSem.ClaimMapViews
import Derived.JoinedTies
import Derived.KernelRfl
namespace Go.Proofs.Ythhdpabelcgfjaa
/- THE CELL 'sum', in the pinned program and in every row, IS THE sha256 OF THE DUMP (.gsa) THAT YthhdpabelcgfjaaProg.lean LOADS. Nothing in Lean hashes anything: it is a label: what it is worth is what the hold of that sum in a sandbox is worth. -/
noncomputable def Try.pinned : Pinned := { name := "ythhdpabelcgfjaa", sum := "5fa1496c5e1bdb1d8eba4c49d7104ad3e6103a10ec431ede4da4a35a1efa11bc", checked := Try.checked }
namespace Rows
def none {H : Type} : Left H := { results := [], args := [] }

/-- 'oxbowlaw21.GcTells': WHATEVER THE INPUT: true; the input reads as it did. -/
def gcTellsSpec : ChangeSpec := { name := "gcTells", fn := fun _ => fun
  | [d] => { results := [.lit (.bool true)], args := [d] }
  | _ => none }
def gcTellsRow : OpenClaim := { program := "ythhdpabelcgfjaa", sum := "5fa1496c5e1bdb1d8eba4c49d7104ad3e6103a10ec431ede4da4a35a1efa11bc", func := "oxbow/oxbowlaw21.GcTells", spec := "gcTells", unfollowed := true, recurses := true, apart := false }
def GcTellsSaid : Prop := gcTellsRow.holds Try.pinned (OpenSpec.ofChange gcTellsSpec)

/-- ITS FALSE NEIGHBOUR: 'it returns false'. Refute it at one input. -/
def gcTellsWrong : ChangeSpec := { name := "gcTells", fn := fun _ => fun
  | [d] => { results := [.lit (.bool false)], args := [d] }
  | _ => none }
def GcTellsWrongFalsely : Prop := gcTellsRow.holds Try.pinned (OpenSpec.ofChange gcTellsWrong)

/-- 'oxbowlaw21.GcAgain': WHATEVER THE INPUT: true; the input reads as it did. -/
def gcAgainSpec : ChangeSpec := { name := "gcAgain", fn := fun _ => fun
  | [d] => { results := [.lit (.bool true)], args := [d] }
  | _ => none }
def gcAgainRow : OpenClaim := { program := "ythhdpabelcgfjaa", sum := "5fa1496c5e1bdb1d8eba4c49d7104ad3e6103a10ec431ede4da4a35a1efa11bc", func := "oxbow/oxbowlaw21.GcAgain", spec := "gcAgain", unfollowed := true, recurses := true, apart := false }
def GcAgainSaid : Prop := gcAgainRow.holds Try.pinned (OpenSpec.ofChange gcAgainSpec)

/-- ITS FALSE NEIGHBOUR: 'it returns false'. Refute it at one input. -/
def gcAgainWrong : ChangeSpec := { name := "gcAgain", fn := fun _ => fun
  | [d] => { results := [.lit (.bool false)], args := [d] }
  | _ => none }
def GcAgainWrongFalsely : Prop := gcAgainRow.holds Try.pinned (OpenSpec.ofChange gcAgainWrong)

/-- 'oxbowlaw21.GcAbove': WHATEVER THE INPUT: true; the input reads as it did. -/
def gcAboveSpec : ChangeSpec := { name := "gcAbove", fn := fun _ => fun
  | [d] => { results := [.lit (.bool true)], args := [d] }
  | _ => none }
def gcAboveRow : OpenClaim := { program := "ythhdpabelcgfjaa", sum := "5fa1496c5e1bdb1d8eba4c49d7104ad3e6103a10ec431ede4da4a35a1efa11bc", func := "oxbow/oxbowlaw21.GcAbove", spec := "gcAbove", unfollowed := true, recurses := true, apart := false }
def GcAboveSaid : Prop := gcAboveRow.holds Try.pinned (OpenSpec.ofChange gcAboveSpec)

/-- ITS FALSE NEIGHBOUR: 'it returns false'. Refute it at one input. -/
def gcAboveWrong : ChangeSpec := { name := "gcAbove", fn := fun _ => fun
  | [d] => { results := [.lit (.bool false)], args := [d] }
  | _ => none }
def GcAboveWrongFalsely : Prop := gcAboveRow.holds Try.pinned (OpenSpec.ofChange gcAboveWrong)

/- THE SECOND FORM. 'bulk': how many values and letters a reading holds, each counted each time it is reached (what is shared counts as often as it is met; a slice's spare places count too). A statement '..UptoSaid' is the law's where the arguments, and the package variables that the reading takes, are together of bulk at most 1048576: NARROWER than '..Said'. Prove '..Said' where nothing that the law and all that it calls make is longer than what came in: it says more and counts as full. Else prove '..UptoSaid'. A law counts once. -/
mutual
def uptoBulk {H : Type} : DataW H → Nat
  | .lit (.string bytes) => bytes.length + 1
  | .lit _ => 1
  | .nil => 1
  | .ptr d => uptoBulk d + 1
  | .slice elems spare => uptoBulkAll elems + uptoBulkAll spare + 1
  | .agg parts => uptoBulkAll parts + 1
  | .iface _ d => uptoBulk d + 1
  | .map entries => uptoBulkEntries entries + 1
  | .held _ => 1
def uptoBulkAll {H : Type} : List (DataW H) → Nat
  | [] => 0
  | d :: r => uptoBulk d + uptoBulkAll r
def uptoBulkEntries {H : Type} : List (Lit × DataW H) → Nat
  | [] => 0
  | x :: r => uptoBulkEntry x + uptoBulkEntries r
def uptoBulkEntry {H : Type} : Lit × DataW H → Nat
  | (.string bytes, d) => bytes.length + uptoBulk d + 1
  | (_, d) => uptoBulk d + 1
 end
def uptoSmall : (H : Type) → List (DataW H) → Bool := fun _ ds => decide (uptoBulkAll ds ≤ 1048576)
def OpenSpec.upto (s : _root_.Go.ChangeSpec) : _root_.Go.OpenSpec := { _root_.Go.OpenSpec.ofChange s with cond := some uptoSmall }

/-- 'oxbowlaw21.GcTells', WHERE WHAT IT READS IS OF BULK AT MOST 1048576: true; the input reads as it did. -/
def gcTellsUptoRow : OpenClaim := { program := "ythhdpabelcgfjaa", sum := "5fa1496c5e1bdb1d8eba4c49d7104ad3e6103a10ec431ede4da4a35a1efa11bc", func := "oxbow/oxbowlaw21.GcTells", spec := "gcTells", unfollowed := true, recurses := true, apart := false, narrowed := true }
def GcTellsUptoSaid : Prop := gcTellsUptoRow.holds Try.pinned (OpenSpec.upto gcTellsSpec)

/-- 'oxbowlaw21.GcAgain', WHERE WHAT IT READS IS OF BULK AT MOST 1048576: true; the input reads as it did. -/
def gcAgainUptoRow : OpenClaim := { program := "ythhdpabelcgfjaa", sum := "5fa1496c5e1bdb1d8eba4c49d7104ad3e6103a10ec431ede4da4a35a1efa11bc", func := "oxbow/oxbowlaw21.GcAgain", spec := "gcAgain", unfollowed := true, recurses := true, apart := false, narrowed := true }
def GcAgainUptoSaid : Prop := gcAgainUptoRow.holds Try.pinned (OpenSpec.upto gcAgainSpec)

/-- 'oxbowlaw21.GcAbove', WHERE WHAT IT READS IS OF BULK AT MOST 1048576: true; the input reads as it did. -/
def gcAboveUptoRow : OpenClaim := { program := "ythhdpabelcgfjaa", sum := "5fa1496c5e1bdb1d8eba4c49d7104ad3e6103a10ec431ede4da4a35a1efa11bc", func := "oxbow/oxbowlaw21.GcAbove", spec := "gcAbove", unfollowed := true, recurses := true, apart := false, narrowed := true }
def GcAboveUptoSaid : Prop := gcAboveUptoRow.holds Try.pinned (OpenSpec.upto gcAboveSpec)

end Rows
end Go.Proofs.Ythhdpabelcgfjaa
