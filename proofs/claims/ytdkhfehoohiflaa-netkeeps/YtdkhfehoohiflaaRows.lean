/-
  No cell of these rows narrows 'for every input' (looked for: loops, veiled, ifaces, maps, wideKeys, modest, calm, conditions, laid).
  DERIVED. THE GIVEN ROWS OF THIS SEAT. 4 by the template 'for every input the law returns true; each argument reads behind the call as it read before'; 0 by the template 'total and deterministic' (their statements: YtdkhfehoohiflaaTotals.lean).
  GIVEN WITH THE SEED: the statements are not yours to turn. If you find one false, say at which input.
  Laid BY PROGRAM, IN A SANDBOX (cutbox-rows.mjs): the forced cells as the released guide's own fill.sh prints them over the translation 6876767adf85a048… (all of the seat's roots in one cut). By AI agents, Wed Nov 11 2026. No macro, syntax, notation, axiom, sorry.
-/
import Derived.Test.YtdkhfehoohiflaaChecked
import GoSem.Claim
import GoSem.ClaimJoined
import GoSem.ClaimMapViews
import Derived.JoinedTies
import Derived.KernelRfl
namespace Go.Proofs.Ytdkhfehoohiflaa
/- THE CELL 'sum', in the pinned program and in every row, IS THE sha256 OF THE DUMP (.gsa) THAT YtdkhfehoohiflaaProg.lean LOADS. Nothing in Lean hashes anything: it is a label: what it is worth is what the hold of that sum in a sandbox is worth. -/
noncomputable def Try.pinned : Pinned := { name := "ytdkhfehoohiflaa", sum := "6876767adf85a048bd4b0ce0406c288fab44ee8a6d8b68b7cda166ae94ad5741", checked := Try.checked }
namespace Rows
def none {H : Type} : Left H := { results := [], args := [] }

/-- 'oxbowlaw17.NetMakes': WHATEVER THE INPUT: true; the input reads as it did. -/
def netMakesSpec : ChangeSpec := { name := "netMakes", fn := fun _ => fun
  | [d] => { results := [.lit (.bool true)], args := [d] }
  | _ => none }
def netMakesRow : OpenClaim := { program := "ytdkhfehoohiflaa", sum := "6876767adf85a048bd4b0ce0406c288fab44ee8a6d8b68b7cda166ae94ad5741", func := "oxbow/oxbowlaw17.NetMakes", spec := "netMakes", plainKeys := false, apart := false }
def NetMakesSaid : Prop := netMakesRow.holds Try.pinned (OpenSpec.ofChange netMakesSpec)

/-- ITS FALSE NEIGHBOUR: 'it returns false'. Refute it at one input. -/
def netMakesWrong : ChangeSpec := { name := "netMakes", fn := fun _ => fun
  | [d] => { results := [.lit (.bool false)], args := [d] }
  | _ => none }
def NetMakesWrongFalsely : Prop := netMakesRow.holds Try.pinned (OpenSpec.ofChange netMakesWrong)

/-- 'oxbowlaw17.NetScripts': WHATEVER THE INPUT: true; the input reads as it did. -/
def netScriptsSpec : ChangeSpec := { name := "netScripts", fn := fun _ => fun
  | [d1, d2] => { results := [.lit (.bool true)], args := [d1, d2] }
  | _ => none }
def netScriptsRow : OpenClaim := { program := "ytdkhfehoohiflaa", sum := "6876767adf85a048bd4b0ce0406c288fab44ee8a6d8b68b7cda166ae94ad5741", func := "oxbow/oxbowlaw17.NetScripts", spec := "netScripts", plainKeys := false, apart := false }
def NetScriptsSaid : Prop := netScriptsRow.holds Try.pinned (OpenSpec.ofChange netScriptsSpec)

/-- ITS FALSE NEIGHBOUR: 'it returns false'. Refute it at one input. -/
def netScriptsWrong : ChangeSpec := { name := "netScripts", fn := fun _ => fun
  | [d1, d2] => { results := [.lit (.bool false)], args := [d1, d2] }
  | _ => none }
def NetScriptsWrongFalsely : Prop := netScriptsRow.holds Try.pinned (OpenSpec.ofChange netScriptsWrong)

/-- 'oxbowlaw17.NetKeeps': WHATEVER THE INPUT: true; the input reads as it did. -/
def netKeepsSpec : ChangeSpec := { name := "netKeeps", fn := fun _ => fun
  | [d1, d2] => { results := [.lit (.bool true)], args := [d1, d2] }
  | _ => none }
def netKeepsRow : OpenClaim := { program := "ytdkhfehoohiflaa", sum := "6876767adf85a048bd4b0ce0406c288fab44ee8a6d8b68b7cda166ae94ad5741", func := "oxbow/oxbowlaw17.NetKeeps", spec := "netKeeps", plainKeys := false, apart := false }
def NetKeepsSaid : Prop := netKeepsRow.holds Try.pinned (OpenSpec.ofChange netKeepsSpec)

/-- ITS FALSE NEIGHBOUR: 'it returns false'. Refute it at one input. -/
def netKeepsWrong : ChangeSpec := { name := "netKeeps", fn := fun _ => fun
  | [d1, d2] => { results := [.lit (.bool false)], args := [d1, d2] }
  | _ => none }
def NetKeepsWrongFalsely : Prop := netKeepsRow.holds Try.pinned (OpenSpec.ofChange netKeepsWrong)

/-- 'oxbowlaw17.NetCarries': WHATEVER THE INPUT: true; the input reads as it did. -/
def netCarriesSpec : ChangeSpec := { name := "netCarries", fn := fun _ => fun
  | [d1, d2] => { results := [.lit (.bool true)], args := [d1, d2] }
  | _ => none }
def netCarriesRow : OpenClaim := { program := "ytdkhfehoohiflaa", sum := "6876767adf85a048bd4b0ce0406c288fab44ee8a6d8b68b7cda166ae94ad5741", func := "oxbow/oxbowlaw17.NetCarries", spec := "netCarries", unfollowed := true, recurses := true, plainKeys := false, apart := false }
def NetCarriesSaid : Prop := netCarriesRow.holds Try.pinned (OpenSpec.ofChange netCarriesSpec)

/-- ITS FALSE NEIGHBOUR: 'it returns false'. Refute it at one input. -/
def netCarriesWrong : ChangeSpec := { name := "netCarries", fn := fun _ => fun
  | [d1, d2] => { results := [.lit (.bool false)], args := [d1, d2] }
  | _ => none }
def NetCarriesWrongFalsely : Prop := netCarriesRow.holds Try.pinned (OpenSpec.ofChange netCarriesWrong)

/- THE SECOND FORM. 'bulk': how many values and letters a reading holds, each counted each time it is reached (what is shared counts as often as it is met; a slice's spare places count too). A statement '..UptoSaid' is the law's where the arguments, and the package variables that the reading takes, are together of bulk at most 1048576: NARROWER than '..Said'. Prove '..Said' where nothing that the law and all that it calls make is longer than what came in: it says more and counts as full. Else prove '..UptoSaid'. A law counts once. -/
mutual
def uptoBulk {H : Type} : DataW H → Nat
  | .lit (.string bytes) => bytes.length + 1
  | .lit _ => 1
  | .nil => 1
  | .ptr d => uptoBulk d + 1
  | .slice elems spare => uptoBulkAll elems + uptoBulkAll spare + 1
  | .agg parts => uptoBulkAll parts + 1
  | .iface _ d => uptoBulk d + 1
  | .map entries => uptoBulkEntries entries + 1
  | .held _ => 1
def uptoBulkAll {H : Type} : List (DataW H) → Nat
  | [] => 0
  | d :: r => uptoBulk d + uptoBulkAll r
def uptoBulkEntries {H : Type} : List (Lit × DataW H) → Nat
  | [] => 0
  | x :: r => uptoBulkEntry x + uptoBulkEntries r
def uptoBulkEntry {H : Type} : Lit × DataW H → Nat
  | (.string bytes, d) => bytes.length + uptoBulk d + 1
  | (_, d) => uptoBulk d + 1
 end
def uptoSmall : (H : Type) → List (DataW H) → Bool := fun _ ds => decide (uptoBulkAll ds ≤ 1048576)
def OpenSpec.upto (s : _root_.Go.ChangeSpec) : _root_.Go.OpenSpec := { _root_.Go.OpenSpec.ofChange s with cond := some uptoSmall }

/-- 'oxbowlaw17.NetMakes', WHERE WHAT IT READS IS OF BULK AT MOST 1048576: true; the input reads as it did. -/
def netMakesUptoRow : OpenClaim := { program := "ytdkhfehoohiflaa", sum := "6876767adf85a048bd4b0ce0406c288fab44ee8a6d8b68b7cda166ae94ad5741", func := "oxbow/oxbowlaw17.NetMakes", spec := "netMakes", plainKeys := false, apart := false, narrowed := true }
def NetMakesUptoSaid : Prop := netMakesUptoRow.holds Try.pinned (OpenSpec.upto netMakesSpec)

/-- 'oxbowlaw17.NetScripts', WHERE WHAT IT READS IS OF BULK AT MOST 1048576: true; the input reads as it did. -/
def netScriptsUptoRow : OpenClaim := { program := "ytdkhfehoohiflaa", sum := "6876767adf85a048bd4b0ce0406c288fab44ee8a6d8b68b7cda166ae94ad5741", func := "oxbow/oxbowlaw17.NetScripts", spec := "netScripts", plainKeys := false, apart := false, narrowed := true }
def NetScriptsUptoSaid : Prop := netScriptsUptoRow.holds Try.pinned (OpenSpec.upto netScriptsSpec)

/-- 'oxbowlaw17.NetKeeps', WHERE WHAT IT READS IS OF BULK AT MOST 1048576: true; the input reads as it did. -/
def netKeepsUptoRow : OpenClaim := { program := "ytdkhfehoohiflaa", sum := "6876767adf85a048bd4b0ce0406c288fab44ee8a6d8b68b7cda166ae94ad5741", func := "oxbow/oxbowlaw17.NetKeeps", spec := "netKeeps", plainKeys := false, apart := false, narrowed := true }
def NetKeepsUptoSaid : Prop := netKeepsUptoRow.holds Try.pinned (OpenSpec.upto netKeepsSpec)

/-- 'oxbowlaw17.NetCarries', WHERE WHAT IT READS IS OF BULK AT MOST 1048576: true; the input reads as it did. -/
def netCarriesUptoRow : OpenClaim := { program := "ytdkhfehoohiflaa", sum := "6876767adf85a048bd4b0ce0406c288fab44ee8a6d8b68b7cda166ae94ad5741", func := "oxbow/oxbowlaw17.NetCarries", spec := "netCarries", unfollowed := true, recurses := true, plainKeys := false, apart := false, narrowed := true }
def NetCarriesUptoSaid : Prop := netCarriesUptoRow.holds Try.pinned (OpenSpec.upto netCarriesSpec)

end Rows
end Go.Proofs.Ytdkhfehoohiflaa
