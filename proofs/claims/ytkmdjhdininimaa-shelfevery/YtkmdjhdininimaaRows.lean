/-
  No cell of these rows narrows 'for every input' (looked for: loops, veiled, ifaces, maps, wideKeys, modest, calm, conditions, laid).
  DERIVED. THE GIVEN ROWS OF THIS SEAT. 5 by the template 'for every input the law returns true; each argument reads behind the call as it read before'; 0 by the template 'total and deterministic' (their statements: YtkmdjhdininimaaTotals.lean).
  GIVEN WITH THE SEED: the statements are not yours to turn. If you find one false, say at which input.
  Laid BY PROGRAM, IN A SANDBOX (cutbox-rows.mjs): the forced cells as the released guide's own fill.sh prints them over the translation 05712802d3a650ce… (all of the seat's roots in one cut). By AI agents, Wed Nov 11 2026. No macro, syntax, notation, axiom, sorry.
-/
import Derived.Test.YtkmdjhdininimaaChecked
import GoSem.Claim
import GoSem.ClaimJoined
import GoSem.ClaimMapViews
import Derived.JoinedTies
import Derived.KernelRfl
namespace Go.Proofs.Ytkmdjhdininimaa
/- THE CELL 'sum', in the pinned program and in every row, IS THE sha256 OF THE DUMP (.gsa) THAT YtkmdjhdininimaaProg.lean LOADS. Nothing in Lean hashes anything: it is a label: what it is worth is what the hold of that sum in a sandbox is worth. -/
noncomputable def Try.pinned : Pinned := { name := "ytkmdjhdininimaa", sum := "05712802d3a650ce69da16ecf6af489fbe9fedda2ee61512bd7399a5697445cf", checked := Try.checked }
namespace Rows
def none {H : Type} : Left H := { results := [], args := [] }

/-- 'oxbowlaw18.ShelfMakes': WHATEVER THE INPUT: true; the input reads as it did. -/
def shelfMakesSpec : ChangeSpec := { name := "shelfMakes", fn := fun _ => fun
  | [d1, d2, d3] => { results := [.lit (.bool true)], args := [d1, d2, d3] }
  | _ => none }
def shelfMakesRow : OpenClaim := { program := "ytkmdjhdininimaa", sum := "05712802d3a650ce69da16ecf6af489fbe9fedda2ee61512bd7399a5697445cf", func := "oxbow/oxbowlaw18.ShelfMakes", spec := "shelfMakes", inPlace := ["internal/abi.NoEscape"], unfollowed := true, recurses := true, apart := false }
def ShelfMakesSaid : Prop := shelfMakesRow.holds Try.pinned (OpenSpec.ofChange shelfMakesSpec)

/-- ITS FALSE NEIGHBOUR: 'it returns false'. Refute it at one input. -/
def shelfMakesWrong : ChangeSpec := { name := "shelfMakes", fn := fun _ => fun
  | [d1, d2, d3] => { results := [.lit (.bool false)], args := [d1, d2, d3] }
  | _ => none }
def ShelfMakesWrongFalsely : Prop := shelfMakesRow.holds Try.pinned (OpenSpec.ofChange shelfMakesWrong)

/-- 'oxbowlaw18.ShelfScripts': WHATEVER THE INPUT: true; the input reads as it did. -/
def shelfScriptsSpec : ChangeSpec := { name := "shelfScripts", fn := fun _ => fun
  | [d1, d2] => { results := [.lit (.bool true)], args := [d1, d2] }
  | _ => none }
def shelfScriptsRow : OpenClaim := { program := "ytkmdjhdininimaa", sum := "05712802d3a650ce69da16ecf6af489fbe9fedda2ee61512bd7399a5697445cf", func := "oxbow/oxbowlaw18.ShelfScripts", spec := "shelfScripts", inPlace := ["internal/abi.NoEscape"], unfollowed := true, recurses := true, apart := false }
def ShelfScriptsSaid : Prop := shelfScriptsRow.holds Try.pinned (OpenSpec.ofChange shelfScriptsSpec)

/-- ITS FALSE NEIGHBOUR: 'it returns false'. Refute it at one input. -/
def shelfScriptsWrong : ChangeSpec := { name := "shelfScripts", fn := fun _ => fun
  | [d1, d2] => { results := [.lit (.bool false)], args := [d1, d2] }
  | _ => none }
def ShelfScriptsWrongFalsely : Prop := shelfScriptsRow.holds Try.pinned (OpenSpec.ofChange shelfScriptsWrong)

/-- 'oxbowlaw18.ShelfRoom': WHATEVER THE INPUT: true; the input reads as it did. -/
def shelfRoomSpec : ChangeSpec := { name := "shelfRoom", fn := fun _ => fun
  | [d1, d2] => { results := [.lit (.bool true)], args := [d1, d2] }
  | _ => none }
def shelfRoomRow : OpenClaim := { program := "ytkmdjhdininimaa", sum := "05712802d3a650ce69da16ecf6af489fbe9fedda2ee61512bd7399a5697445cf", func := "oxbow/oxbowlaw18.ShelfRoom", spec := "shelfRoom", inPlace := ["internal/abi.NoEscape"], unfollowed := true, recurses := true, apart := false }
def ShelfRoomSaid : Prop := shelfRoomRow.holds Try.pinned (OpenSpec.ofChange shelfRoomSpec)

/-- ITS FALSE NEIGHBOUR: 'it returns false'. Refute it at one input. -/
def shelfRoomWrong : ChangeSpec := { name := "shelfRoom", fn := fun _ => fun
  | [d1, d2] => { results := [.lit (.bool false)], args := [d1, d2] }
  | _ => none }
def ShelfRoomWrongFalsely : Prop := shelfRoomRow.holds Try.pinned (OpenSpec.ofChange shelfRoomWrong)

/-- 'oxbowlaw18.ShelfTwo': WHATEVER THE INPUT: true; the input reads as it did. -/
def shelfTwoSpec : ChangeSpec := { name := "shelfTwo", fn := fun _ => fun
  | [d1, d2] => { results := [.lit (.bool true)], args := [d1, d2] }
  | _ => none }
def shelfTwoRow : OpenClaim := { program := "ytkmdjhdininimaa", sum := "05712802d3a650ce69da16ecf6af489fbe9fedda2ee61512bd7399a5697445cf", func := "oxbow/oxbowlaw18.ShelfTwo", spec := "shelfTwo", inPlace := ["internal/abi.NoEscape"], unfollowed := true, recurses := true, apart := false }
def ShelfTwoSaid : Prop := shelfTwoRow.holds Try.pinned (OpenSpec.ofChange shelfTwoSpec)

/-- ITS FALSE NEIGHBOUR: 'it returns false'. Refute it at one input. -/
def shelfTwoWrong : ChangeSpec := { name := "shelfTwo", fn := fun _ => fun
  | [d1, d2] => { results := [.lit (.bool false)], args := [d1, d2] }
  | _ => none }
def ShelfTwoWrongFalsely : Prop := shelfTwoRow.holds Try.pinned (OpenSpec.ofChange shelfTwoWrong)

/-- 'oxbowlaw18.ShelfEvery': WHATEVER THE INPUT: true; the input reads as it did. -/
def shelfEverySpec : ChangeSpec := { name := "shelfEvery", fn := fun _ => fun
  | [d1, d2, d3] => { results := [.lit (.bool true)], args := [d1, d2, d3] }
  | _ => none }
def shelfEveryRow : OpenClaim := { program := "ytkmdjhdininimaa", sum := "05712802d3a650ce69da16ecf6af489fbe9fedda2ee61512bd7399a5697445cf", func := "oxbow/oxbowlaw18.ShelfEvery", spec := "shelfEvery", inPlace := ["internal/abi.NoEscape", "maps.clone"], unfollowed := true, recurses := true, apart := false }
def ShelfEverySaid : Prop := shelfEveryRow.holds Try.pinned (OpenSpec.ofChange shelfEverySpec)

/-- ITS FALSE NEIGHBOUR: 'it returns false'. Refute it at one input. -/
def shelfEveryWrong : ChangeSpec := { name := "shelfEvery", fn := fun _ => fun
  | [d1, d2, d3] => { results := [.lit (.bool false)], args := [d1, d2, d3] }
  | _ => none }
def ShelfEveryWrongFalsely : Prop := shelfEveryRow.holds Try.pinned (OpenSpec.ofChange shelfEveryWrong)

/- THE SECOND FORM. 'bulk': how many values and letters a reading holds, each counted each time it is reached (what is shared counts as often as it is met; a slice's spare places count too). A statement '..UptoSaid' is the law's where the arguments, and the package variables that the reading takes, are together of bulk at most 1048576: NARROWER than '..Said'. Prove '..Said' where nothing that the law and all that it calls make is longer than what came in: it says more and counts as full. Else prove '..UptoSaid'. A law counts once. -/
mutual
def uptoBulk {H : Type} : DataW H → Nat
  | .lit (.string bytes) => bytes.length + 1
  | .lit _ => 1
  | .nil => 1
  | .ptr d => uptoBulk d + 1
  | .slice elems spare => uptoBulkAll elems + uptoBulkAll spare + 1
  | .agg parts => uptoBulkAll parts + 1
  | .iface _ d => uptoBulk d + 1
  | .map entries => uptoBulkEntries entries + 1
  | .held _ => 1
def uptoBulkAll {H : Type} : List (DataW H) → Nat
  | [] => 0
  | d :: r => uptoBulk d + uptoBulkAll r
def uptoBulkEntries {H : Type} : List (Lit × DataW H) → Nat
  | [] => 0
  | x :: r => uptoBulkEntry x + uptoBulkEntries r
def uptoBulkEntry {H : Type} : Lit × DataW H → Nat
  | (.string bytes, d) => bytes.length + uptoBulk d + 1
  | (_, d) => uptoBulk d + 1
 end
def uptoSmall : (H : Type) → List (DataW H) → Bool := fun _ ds => decide (uptoBulkAll ds ≤ 1048576)
def OpenSpec.upto (s : _root_.Go.ChangeSpec) : _root_.Go.OpenSpec := { _root_.Go.OpenSpec.ofChange s with cond := some uptoSmall }

/-- 'oxbowlaw18.ShelfMakes', WHERE WHAT IT READS IS OF BULK AT MOST 1048576: true; the input reads as it did. -/
def shelfMakesUptoRow : OpenClaim := { program := "ytkmdjhdininimaa", sum := "05712802d3a650ce69da16ecf6af489fbe9fedda2ee61512bd7399a5697445cf", func := "oxbow/oxbowlaw18.ShelfMakes", spec := "shelfMakes", inPlace := ["internal/abi.NoEscape"], unfollowed := true, recurses := true, apart := false, narrowed := true }
def ShelfMakesUptoSaid : Prop := shelfMakesUptoRow.holds Try.pinned (OpenSpec.upto shelfMakesSpec)

/-- 'oxbowlaw18.ShelfScripts', WHERE WHAT IT READS IS OF BULK AT MOST 1048576: true; the input reads as it did. -/
def shelfScriptsUptoRow : OpenClaim := { program := "ytkmdjhdininimaa", sum := "05712802d3a650ce69da16ecf6af489fbe9fedda2ee61512bd7399a5697445cf", func := "oxbow/oxbowlaw18.ShelfScripts", spec := "shelfScripts", inPlace := ["internal/abi.NoEscape"], unfollowed := true, recurses := true, apart := false, narrowed := true }
def ShelfScriptsUptoSaid : Prop := shelfScriptsUptoRow.holds Try.pinned (OpenSpec.upto shelfScriptsSpec)

/-- 'oxbowlaw18.ShelfRoom', WHERE WHAT IT READS IS OF BULK AT MOST 1048576: true; the input reads as it did. -/
def shelfRoomUptoRow : OpenClaim := { program := "ytkmdjhdininimaa", sum := "05712802d3a650ce69da16ecf6af489fbe9fedda2ee61512bd7399a5697445cf", func := "oxbow/oxbowlaw18.ShelfRoom", spec := "shelfRoom", inPlace := ["internal/abi.NoEscape"], unfollowed := true, recurses := true, apart := false, narrowed := true }
def ShelfRoomUptoSaid : Prop := shelfRoomUptoRow.holds Try.pinned (OpenSpec.upto shelfRoomSpec)

/-- 'oxbowlaw18.ShelfTwo', WHERE WHAT IT READS IS OF BULK AT MOST 1048576: true; the input reads as it did. -/
def shelfTwoUptoRow : OpenClaim := { program := "ytkmdjhdininimaa", sum := "05712802d3a650ce69da16ecf6af489fbe9fedda2ee61512bd7399a5697445cf", func := "oxbow/oxbowlaw18.ShelfTwo", spec := "shelfTwo", inPlace := ["internal/abi.NoEscape"], unfollowed := true, recurses := true, apart := false, narrowed := true }
def ShelfTwoUptoSaid : Prop := shelfTwoUptoRow.holds Try.pinned (OpenSpec.upto shelfTwoSpec)

/-- 'oxbowlaw18.ShelfEvery', WHERE WHAT IT READS IS OF BULK AT MOST 1048576: true; the input reads as it did. -/
def shelfEveryUptoRow : OpenClaim := { program := "ytkmdjhdininimaa", sum := "05712802d3a650ce69da16ecf6af489fbe9fedda2ee61512bd7399a5697445cf", func := "oxbow/oxbowlaw18.ShelfEvery", spec := "shelfEvery", inPlace := ["internal/abi.NoEscape", "maps.clone"], unfollowed := true, recurses := true, apart := false, narrowed := true }
def ShelfEveryUptoSaid : Prop := shelfEveryUptoRow.holds Try.pinned (OpenSpec.upto shelfEverySpec)

end Rows
end Go.Proofs.Ytkmdjhdininimaa
