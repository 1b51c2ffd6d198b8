/-
  No cell of these rows narrows 'for every input' (looked for: loops, veiled, ifaces, maps, wideKeys, modest, calm, conditions, laid).
  DERIVED. THE GIVEN ROWS OF THIS SEAT. 6 by the template 'for every input the law returns true; each argument reads behind the call as it read before'; 0 by the template 'total and deterministic' (their statements: YtblhmfkohbdmeaaTotals.lean).
  GIVEN WITH THE SEED: the statements are not yours to turn. If you find one false, say at which input.
  Laid BY PROGRAM, IN A SANDBOX (cutbox-rows.mjs): the forced cells as the released guide's own fill.sh prints them over the translation 9a12c00e19eddb73… (all of the seat's roots in one cut). By AI agents, Wed Nov 11 2026. No macro, syntax, notation, axiom, sorry.
-/
import Derived.Test.YtblhmfkohbdmeaaChecked
import GoSem.Claim
import GoSem.ClaimJoined
import GoSem.ClaimMapViews
import Derived.JoinedTies
import Derived.KernelRfl
namespace Go.Proofs.Ytblhmfkohbdmeaa
/- THE CELL 'sum', in the pinned program and in every row, IS THE sha256 OF THE DUMP (.gsa) THAT YtblhmfkohbdmeaaProg.lean LOADS. Nothing in Lean hashes anything: it is a label: what it is worth is what the hold of that sum in a sandbox is worth. -/
noncomputable def Try.pinned : Pinned := { name := "ytblhmfkohbdmeaa", sum := "9a12c00e19eddb738c35129585a6d648159d67bb45e7df3e0b03dc8f1586da43", checked := Try.checked }
namespace Rows
def none {H : Type} : Left H := { results := [], args := [] }

/-- 'oxbowlaw04.WalMakes': WHATEVER THE INPUT: true; the input reads as it did. -/
def walMakesSpec : ChangeSpec := { name := "walMakes", fn := fun _ => fun
  | [d1, d2, d3] => { results := [.lit (.bool true)], args := [d1, d2, d3] }
  | _ => none }
def walMakesRow : OpenClaim := { program := "ytblhmfkohbdmeaa", sum := "9a12c00e19eddb738c35129585a6d648159d67bb45e7df3e0b03dc8f1586da43", func := "oxbow/oxbowlaw04.WalMakes", spec := "walMakes", unfollowed := true, recurses := true, apart := false }
def WalMakesSaid : Prop := walMakesRow.holds Try.pinned (OpenSpec.ofChange walMakesSpec)

/-- ITS FALSE NEIGHBOUR: 'it returns false'. Refute it at one input. -/
def walMakesWrong : ChangeSpec := { name := "walMakes", fn := fun _ => fun
  | [d1, d2, d3] => { results := [.lit (.bool false)], args := [d1, d2, d3] }
  | _ => none }
def WalMakesWrongFalsely : Prop := walMakesRow.holds Try.pinned (OpenSpec.ofChange walMakesWrong)

/-- 'oxbowlaw04.WalScripts': WHATEVER THE INPUT: true; the input reads as it did. -/
def walScriptsSpec : ChangeSpec := { name := "walScripts", fn := fun _ => fun
  | [d1, d2] => { results := [.lit (.bool true)], args := [d1, d2] }
  | _ => none }
def walScriptsRow : OpenClaim := { program := "ytblhmfkohbdmeaa", sum := "9a12c00e19eddb738c35129585a6d648159d67bb45e7df3e0b03dc8f1586da43", func := "oxbow/oxbowlaw04.WalScripts", spec := "walScripts", inPlace := ["maps.clone"], unfollowed := true, recurses := true, apart := false }
def WalScriptsSaid : Prop := walScriptsRow.holds Try.pinned (OpenSpec.ofChange walScriptsSpec)

/-- ITS FALSE NEIGHBOUR: 'it returns false'. Refute it at one input. -/
def walScriptsWrong : ChangeSpec := { name := "walScripts", fn := fun _ => fun
  | [d1, d2] => { results := [.lit (.bool false)], args := [d1, d2] }
  | _ => none }
def WalScriptsWrongFalsely : Prop := walScriptsRow.holds Try.pinned (OpenSpec.ofChange walScriptsWrong)

/-- 'oxbowlaw04.WalKept': WHATEVER THE INPUT: true; the input reads as it did. -/
def walKeptSpec : ChangeSpec := { name := "walKept", fn := fun _ => fun
  | [d1, d2, d3, d4, d5] => { results := [.lit (.bool true)], args := [d1, d2, d3, d4, d5] }
  | _ => none }
def walKeptRow : OpenClaim := { program := "ytblhmfkohbdmeaa", sum := "9a12c00e19eddb738c35129585a6d648159d67bb45e7df3e0b03dc8f1586da43", func := "oxbow/oxbowlaw04.WalKept", spec := "walKept", inPlace := ["maps.clone"], unfollowed := true, recurses := true, apart := false }
def WalKeptSaid : Prop := walKeptRow.holds Try.pinned (OpenSpec.ofChange walKeptSpec)

/-- ITS FALSE NEIGHBOUR: 'it returns false'. Refute it at one input. -/
def walKeptWrong : ChangeSpec := { name := "walKept", fn := fun _ => fun
  | [d1, d2, d3, d4, d5] => { results := [.lit (.bool false)], args := [d1, d2, d3, d4, d5] }
  | _ => none }
def WalKeptWrongFalsely : Prop := walKeptRow.holds Try.pinned (OpenSpec.ofChange walKeptWrong)

/-- 'oxbowlaw04.WalApart': WHATEVER THE INPUT: true; the input reads as it did. -/
def walApartSpec : ChangeSpec := { name := "walApart", fn := fun _ => fun
  | [d1, d2] => { results := [.lit (.bool true)], args := [d1, d2] }
  | _ => none }
def walApartRow : OpenClaim := { program := "ytblhmfkohbdmeaa", sum := "9a12c00e19eddb738c35129585a6d648159d67bb45e7df3e0b03dc8f1586da43", func := "oxbow/oxbowlaw04.WalApart", spec := "walApart", inPlace := ["maps.clone"], unfollowed := true, recurses := true, apart := false }
def WalApartSaid : Prop := walApartRow.holds Try.pinned (OpenSpec.ofChange walApartSpec)

/-- ITS FALSE NEIGHBOUR: 'it returns false'. Refute it at one input. -/
def walApartWrong : ChangeSpec := { name := "walApart", fn := fun _ => fun
  | [d1, d2] => { results := [.lit (.bool false)], args := [d1, d2] }
  | _ => none }
def WalApartWrongFalsely : Prop := walApartRow.holds Try.pinned (OpenSpec.ofChange walApartWrong)

/-- 'oxbowlaw04.WalEvery': WHATEVER THE INPUT: true; the input reads as it did. -/
def walEverySpec : ChangeSpec := { name := "walEvery", fn := fun _ => fun
  | [d1, d2, d3, d4] => { results := [.lit (.bool true)], args := [d1, d2, d3, d4] }
  | _ => none }
def walEveryRow : OpenClaim := { program := "ytblhmfkohbdmeaa", sum := "9a12c00e19eddb738c35129585a6d648159d67bb45e7df3e0b03dc8f1586da43", func := "oxbow/oxbowlaw04.WalEvery", spec := "walEvery", inPlace := ["maps.clone"], unfollowed := true, recurses := true, apart := false }
def WalEverySaid : Prop := walEveryRow.holds Try.pinned (OpenSpec.ofChange walEverySpec)

/-- ITS FALSE NEIGHBOUR: 'it returns false'. Refute it at one input. -/
def walEveryWrong : ChangeSpec := { name := "walEvery", fn := fun _ => fun
  | [d1, d2, d3, d4] => { results := [.lit (.bool false)], args := [d1, d2, d3, d4] }
  | _ => none }
def WalEveryWrongFalsely : Prop := walEveryRow.holds Try.pinned (OpenSpec.ofChange walEveryWrong)

/-- 'oxbowlaw04.WalTogether': WHATEVER THE INPUT: true; the input reads as it did. -/
def walTogetherSpec : ChangeSpec := { name := "walTogether", fn := fun _ => fun
  | [d1, d2] => { results := [.lit (.bool true)], args := [d1, d2] }
  | _ => none }
def walTogetherRow : OpenClaim := { program := "ytblhmfkohbdmeaa", sum := "9a12c00e19eddb738c35129585a6d648159d67bb45e7df3e0b03dc8f1586da43", func := "oxbow/oxbowlaw04.WalTogether", spec := "walTogether", unfollowed := true, recurses := true, apart := false }
def WalTogetherSaid : Prop := walTogetherRow.holds Try.pinned (OpenSpec.ofChange walTogetherSpec)

/-- ITS FALSE NEIGHBOUR: 'it returns false'. Refute it at one input. -/
def walTogetherWrong : ChangeSpec := { name := "walTogether", fn := fun _ => fun
  | [d1, d2] => { results := [.lit (.bool false)], args := [d1, d2] }
  | _ => none }
def WalTogetherWrongFalsely : Prop := walTogetherRow.holds Try.pinned (OpenSpec.ofChange walTogetherWrong)

/- THE SECOND FORM. 'bulk': how many values and letters a reading holds, each counted each time it is reached (what is shared counts as often as it is met; a slice's spare places count too). A statement '..UptoSaid' is the law's where the arguments, and the package variables that the reading takes, are together of bulk at most 1048576: NARROWER than '..Said'. Prove '..Said' where nothing that the law and all that it calls make is longer than what came in: it says more and counts as full. Else prove '..UptoSaid'. A law counts once. -/
mutual
def uptoBulk {H : Type} : DataW H → Nat
  | .lit (.string bytes) => bytes.length + 1
  | .lit _ => 1
  | .nil => 1
  | .ptr d => uptoBulk d + 1
  | .slice elems spare => uptoBulkAll elems + uptoBulkAll spare + 1
  | .agg parts => uptoBulkAll parts + 1
  | .iface _ d => uptoBulk d + 1
  | .map entries => uptoBulkEntries entries + 1
  | .held _ => 1
def uptoBulkAll {H : Type} : List (DataW H) → Nat
  | [] => 0
  | d :: r => uptoBulk d + uptoBulkAll r
def uptoBulkEntries {H : Type} : List (Lit × DataW H) → Nat
  | [] => 0
  | x :: r => uptoBulkEntry x + uptoBulkEntries r
def uptoBulkEntry {H : Type} : Lit × DataW H → Nat
  | (.string bytes, d) => bytes.length + uptoBulk d + 1
  | (_, d) => uptoBulk d + 1
 end
def uptoSmall : (H : Type) → List (DataW H) → Bool := fun _ ds => decide (uptoBulkAll ds ≤ 1048576)
def OpenSpec.upto (s : _root_.Go.ChangeSpec) : _root_.Go.OpenSpec := { _root_.Go.OpenSpec.ofChange s with cond := some uptoSmall }

/-- 'oxbowlaw04.WalMakes', WHERE WHAT IT READS IS OF BULK AT MOST 1048576: true; the input reads as it did. -/
def walMakesUptoRow : OpenClaim := { program := "ytblhmfkohbdmeaa", sum := "9a12c00e19eddb738c35129585a6d648159d67bb45e7df3e0b03dc8f1586da43", func := "oxbow/oxbowlaw04.WalMakes", spec := "walMakes", unfollowed := true, recurses := true, apart := false, narrowed := true }
def WalMakesUptoSaid : Prop := walMakesUptoRow.holds Try.pinned (OpenSpec.upto walMakesSpec)

/-- 'oxbowlaw04.WalScripts', WHERE WHAT IT READS IS OF BULK AT MOST 1048576: true; the input reads as it did. -/
def walScriptsUptoRow : OpenClaim := { program := "ytblhmfkohbdmeaa", sum := "9a12c00e19eddb738c35129585a6d648159d67bb45e7df3e0b03dc8f1586da43", func := "oxbow/oxbowlaw04.WalScripts", spec := "walScripts", inPlace := ["maps.clone"], unfollowed := true, recurses := true, apart := false, narrowed := true }
def WalScriptsUptoSaid : Prop := walScriptsUptoRow.holds Try.pinned (OpenSpec.upto walScriptsSpec)

/-- 'oxbowlaw04.WalKept', WHERE WHAT IT READS IS OF BULK AT MOST 1048576: true; the input reads as it did. -/
def walKeptUptoRow : OpenClaim := { program := "ytblhmfkohbdmeaa", sum := "9a12c00e19eddb738c35129585a6d648159d67bb45e7df3e0b03dc8f1586da43", func := "oxbow/oxbowlaw04.WalKept", spec := "walKept", inPlace := ["maps.clone"], unfollowed := true, recurses := true, apart := false, narrowed := true }
def WalKeptUptoSaid : Prop := walKeptUptoRow.holds Try.pinned (OpenSpec.upto walKeptSpec)

/-- 'oxbowlaw04.WalApart', WHERE WHAT IT READS IS OF BULK AT MOST 1048576: true; the input reads as it did. -/
def walApartUptoRow : OpenClaim := { program := "ytblhmfkohbdmeaa", sum := "9a12c00e19eddb738c35129585a6d648159d67bb45e7df3e0b03dc8f1586da43", func := "oxbow/oxbowlaw04.WalApart", spec := "walApart", inPlace := ["maps.clone"], unfollowed := true, recurses := true, apart := false, narrowed := true }
def WalApartUptoSaid : Prop := walApartUptoRow.holds Try.pinned (OpenSpec.upto walApartSpec)

/-- 'oxbowlaw04.WalEvery', WHERE WHAT IT READS IS OF BULK AT MOST 1048576: true; the input reads as it did. -/
def walEveryUptoRow : OpenClaim := { program := "ytblhmfkohbdmeaa", sum := "9a12c00e19eddb738c35129585a6d648159d67bb45e7df3e0b03dc8f1586da43", func := "oxbow/oxbowlaw04.WalEvery", spec := "walEvery", inPlace := ["maps.clone"], unfollowed := true, recurses := true, apart := false, narrowed := true }
def WalEveryUptoSaid : Prop := walEveryUptoRow.holds Try.pinned (OpenSpec.upto walEverySpec)

/-- 'oxbowlaw04.WalTogether', WHERE WHAT IT READS IS OF BULK AT MOST 1048576: true; the input reads as it did. -/
def walTogetherUptoRow : OpenClaim := { program := "ytblhmfkohbdmeaa", sum := "9a12c00e19eddb738c35129585a6d648159d67bb45e7df3e0b03dc8f1586da43", func := "oxbow/oxbowlaw04.WalTogether", spec := "walTogether", unfollowed := true, recurses := true, apart := false, narrowed := true }
def WalTogetherUptoSaid : Prop := walTogetherUptoRow.holds Try.pinned (OpenSpec.upto walTogetherSpec)

end Rows
end Go.Proofs.Ytblhmfkohbdmeaa
