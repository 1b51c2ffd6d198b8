/-
  No cell of these rows narrows 'for every input' (looked for: loops, veiled, ifaces, maps, wideKeys, modest, calm, conditions, laid).
  DERIVED. THE GIVEN ROWS OF THIS SEAT. 5 by the template 'for every input the law returns true; each argument reads behind the call as it read before'; 0 by the template 'total and deterministic' (their statements: YthgdjgbikljbeaaTotals.lean).
  GIVEN WITH THE SEED: the statements are not yours to turn. If you find one false, say at which input.
  Laid BY PROGRAM, IN A SANDBOX (cutbox-rows.mjs): the forced cells as the released guide's own fill.sh prints them over the translation 794be4f680c0e064… (all of the seat's roots in one cut). By AI agents, Wed Nov 11 2026. No macro, syntax, notation, axiom, sorry.
-/
import Derived.Test.YthgdjgbikljbeaaChecked
import GoSem.Claim
import GoSem.ClaimJoined
import GoSem.ClaimMapViews
import Derived.JoinedTies
import Derived.KernelRfl
namespace Go.Proofs.Ythgdjgbikljbeaa
/- THE CELL 'sum', in the pinned program and in every row, IS THE sha256 OF THE DUMP (.gsa) THAT YthgdjgbikljbeaaProg.lean LOADS. Nothing in Lean hashes anything: it is a label: what it is worth is what the hold of that sum in a sandbox is worth. -/
noncomputable def Try.pinned : Pinned := { name := "ythgdjgbikljbeaa", sum := "794be4f680c0e064d93a97bb0c0cad07cbf5f7d8e0f9125634b5733dbc74211b", checked := Try.checked }
namespace Rows
def none {H : Type} : Left H := { results := [], args := [] }

/-- 'oxbowlaw03.DevMakes': WHATEVER THE INPUT: true; the input reads as it did. -/
def devMakesSpec : ChangeSpec := { name := "devMakes", fn := fun _ => fun
  | [d] => { results := [.lit (.bool true)], args := [d] }
  | _ => none }
def devMakesRow : OpenClaim := { program := "ythgdjgbikljbeaa", sum := "794be4f680c0e064d93a97bb0c0cad07cbf5f7d8e0f9125634b5733dbc74211b", func := "oxbow/oxbowlaw03.DevMakes", spec := "devMakes", unfollowed := true, recurses := true, apart := false }
def DevMakesSaid : Prop := devMakesRow.holds Try.pinned (OpenSpec.ofChange devMakesSpec)

/-- ITS FALSE NEIGHBOUR: 'it returns false'. Refute it at one input. -/
def devMakesWrong : ChangeSpec := { name := "devMakes", fn := fun _ => fun
  | [d] => { results := [.lit (.bool false)], args := [d] }
  | _ => none }
def DevMakesWrongFalsely : Prop := devMakesRow.holds Try.pinned (OpenSpec.ofChange devMakesWrong)

/-- 'oxbowlaw03.DevScripts': WHATEVER THE INPUT: true; the input reads as it did. -/
def devScriptsSpec : ChangeSpec := { name := "devScripts", fn := fun _ => fun
  | [d1, d2] => { results := [.lit (.bool true)], args := [d1, d2] }
  | _ => none }
def devScriptsRow : OpenClaim := { program := "ythgdjgbikljbeaa", sum := "794be4f680c0e064d93a97bb0c0cad07cbf5f7d8e0f9125634b5733dbc74211b", func := "oxbow/oxbowlaw03.DevScripts", spec := "devScripts", inPlace := ["maps.clone"], unfollowed := true, recurses := true, apart := false }
def DevScriptsSaid : Prop := devScriptsRow.holds Try.pinned (OpenSpec.ofChange devScriptsSpec)

/-- ITS FALSE NEIGHBOUR: 'it returns false'. Refute it at one input. -/
def devScriptsWrong : ChangeSpec := { name := "devScripts", fn := fun _ => fun
  | [d1, d2] => { results := [.lit (.bool false)], args := [d1, d2] }
  | _ => none }
def DevScriptsWrongFalsely : Prop := devScriptsRow.holds Try.pinned (OpenSpec.ofChange devScriptsWrong)

/-- 'oxbowlaw03.DevSurvives': WHATEVER THE INPUT: true; the input reads as it did. -/
def devSurvivesSpec : ChangeSpec := { name := "devSurvives", fn := fun _ => fun
  | [d1, d2, d3] => { results := [.lit (.bool true)], args := [d1, d2, d3] }
  | _ => none }
def devSurvivesRow : OpenClaim := { program := "ythgdjgbikljbeaa", sum := "794be4f680c0e064d93a97bb0c0cad07cbf5f7d8e0f9125634b5733dbc74211b", func := "oxbow/oxbowlaw03.DevSurvives", spec := "devSurvives", inPlace := ["maps.clone"], unfollowed := true, recurses := true, apart := false }
def DevSurvivesSaid : Prop := devSurvivesRow.holds Try.pinned (OpenSpec.ofChange devSurvivesSpec)

/-- ITS FALSE NEIGHBOUR: 'it returns false'. Refute it at one input. -/
def devSurvivesWrong : ChangeSpec := { name := "devSurvives", fn := fun _ => fun
  | [d1, d2, d3] => { results := [.lit (.bool false)], args := [d1, d2, d3] }
  | _ => none }
def DevSurvivesWrongFalsely : Prop := devSurvivesRow.holds Try.pinned (OpenSpec.ofChange devSurvivesWrong)

/-- 'oxbowlaw03.DevFuse': WHATEVER THE INPUT: true; the input reads as it did. -/
def devFuseSpec : ChangeSpec := { name := "devFuse", fn := fun _ => fun
  | [d1, d2, d3, d4] => { results := [.lit (.bool true)], args := [d1, d2, d3, d4] }
  | _ => none }
def devFuseRow : OpenClaim := { program := "ythgdjgbikljbeaa", sum := "794be4f680c0e064d93a97bb0c0cad07cbf5f7d8e0f9125634b5733dbc74211b", func := "oxbow/oxbowlaw03.DevFuse", spec := "devFuse", unfollowed := true, recurses := true, apart := false }
def DevFuseSaid : Prop := devFuseRow.holds Try.pinned (OpenSpec.ofChange devFuseSpec)

/-- ITS FALSE NEIGHBOUR: 'it returns false'. Refute it at one input. -/
def devFuseWrong : ChangeSpec := { name := "devFuse", fn := fun _ => fun
  | [d1, d2, d3, d4] => { results := [.lit (.bool false)], args := [d1, d2, d3, d4] }
  | _ => none }
def DevFuseWrongFalsely : Prop := devFuseRow.holds Try.pinned (OpenSpec.ofChange devFuseWrong)

/-- 'oxbowlaw03.DevEither': WHATEVER THE INPUT: true; the input reads as it did. -/
def devEitherSpec : ChangeSpec := { name := "devEither", fn := fun _ => fun
  | [d1, d2, d3, d4] => { results := [.lit (.bool true)], args := [d1, d2, d3, d4] }
  | _ => none }
def devEitherRow : OpenClaim := { program := "ythgdjgbikljbeaa", sum := "794be4f680c0e064d93a97bb0c0cad07cbf5f7d8e0f9125634b5733dbc74211b", func := "oxbow/oxbowlaw03.DevEither", spec := "devEither", inPlace := ["maps.clone"], unfollowed := true, recurses := true, apart := false }
def DevEitherSaid : Prop := devEitherRow.holds Try.pinned (OpenSpec.ofChange devEitherSpec)

/-- ITS FALSE NEIGHBOUR: 'it returns false'. Refute it at one input. -/
def devEitherWrong : ChangeSpec := { name := "devEither", fn := fun _ => fun
  | [d1, d2, d3, d4] => { results := [.lit (.bool false)], args := [d1, d2, d3, d4] }
  | _ => none }
def DevEitherWrongFalsely : Prop := devEitherRow.holds Try.pinned (OpenSpec.ofChange devEitherWrong)

/- THE SECOND FORM. 'bulk': how many values and letters a reading holds, each counted each time it is reached (what is shared counts as often as it is met; a slice's spare places count too). A statement '..UptoSaid' is the law's where the arguments, and the package variables that the reading takes, are together of bulk at most 1048576: NARROWER than '..Said'. Prove '..Said' where nothing that the law and all that it calls make is longer than what came in: it says more and counts as full. Else prove '..UptoSaid'. A law counts once. -/
mutual
def uptoBulk {H : Type} : DataW H → Nat
  | .lit (.string bytes) => bytes.length + 1
  | .lit _ => 1
  | .nil => 1
  | .ptr d => uptoBulk d + 1
  | .slice elems spare => uptoBulkAll elems + uptoBulkAll spare + 1
  | .agg parts => uptoBulkAll parts + 1
  | .iface _ d => uptoBulk d + 1
  | .map entries => uptoBulkEntries entries + 1
  | .held _ => 1
def uptoBulkAll {H : Type} : List (DataW H) → Nat
  | [] => 0
  | d :: r => uptoBulk d + uptoBulkAll r
def uptoBulkEntries {H : Type} : List (Lit × DataW H) → Nat
  | [] => 0
  | x :: r => uptoBulkEntry x + uptoBulkEntries r
def uptoBulkEntry {H : Type} : Lit × DataW H → Nat
  | (.string bytes, d) => bytes.length + uptoBulk d + 1
  | (_, d) => uptoBulk d + 1
 end
def uptoSmall : (H : Type) → List (DataW H) → Bool := fun _ ds => decide (uptoBulkAll ds ≤ 1048576)
def OpenSpec.upto (s : _root_.Go.ChangeSpec) : _root_.Go.OpenSpec := { _root_.Go.OpenSpec.ofChange s with cond := some uptoSmall }

/-- 'oxbowlaw03.DevMakes', WHERE WHAT IT READS IS OF BULK AT MOST 1048576: true; the input reads as it did. -/
def devMakesUptoRow : OpenClaim := { program := "ythgdjgbikljbeaa", sum := "794be4f680c0e064d93a97bb0c0cad07cbf5f7d8e0f9125634b5733dbc74211b", func := "oxbow/oxbowlaw03.DevMakes", spec := "devMakes", unfollowed := true, recurses := true, apart := false, narrowed := true }
def DevMakesUptoSaid : Prop := devMakesUptoRow.holds Try.pinned (OpenSpec.upto devMakesSpec)

/-- 'oxbowlaw03.DevScripts', WHERE WHAT IT READS IS OF BULK AT MOST 1048576: true; the input reads as it did. -/
def devScriptsUptoRow : OpenClaim := { program := "ythgdjgbikljbeaa", sum := "794be4f680c0e064d93a97bb0c0cad07cbf5f7d8e0f9125634b5733dbc74211b", func := "oxbow/oxbowlaw03.DevScripts", spec := "devScripts", inPlace := ["maps.clone"], unfollowed := true, recurses := true, apart := false, narrowed := true }
def DevScriptsUptoSaid : Prop := devScriptsUptoRow.holds Try.pinned (OpenSpec.upto devScriptsSpec)

/-- 'oxbowlaw03.DevSurvives', WHERE WHAT IT READS IS OF BULK AT MOST 1048576: true; the input reads as it did. -/
def devSurvivesUptoRow : OpenClaim := { program := "ythgdjgbikljbeaa", sum := "794be4f680c0e064d93a97bb0c0cad07cbf5f7d8e0f9125634b5733dbc74211b", func := "oxbow/oxbowlaw03.DevSurvives", spec := "devSurvives", inPlace := ["maps.clone"], unfollowed := true, recurses := true, apart := false, narrowed := true }
def DevSurvivesUptoSaid : Prop := devSurvivesUptoRow.holds Try.pinned (OpenSpec.upto devSurvivesSpec)

/-- 'oxbowlaw03.DevFuse', WHERE WHAT IT READS IS OF BULK AT MOST 1048576: true; the input reads as it did. -/
def devFuseUptoRow : OpenClaim := { program := "ythgdjgbikljbeaa", sum := "794be4f680c0e064d93a97bb0c0cad07cbf5f7d8e0f9125634b5733dbc74211b", func := "oxbow/oxbowlaw03.DevFuse", spec := "devFuse", unfollowed := true, recurses := true, apart := false, narrowed := true }
def DevFuseUptoSaid : Prop := devFuseUptoRow.holds Try.pinned (OpenSpec.upto devFuseSpec)

/-- 'oxbowlaw03.DevEither', WHERE WHAT IT READS IS OF BULK AT MOST 1048576: true; the input reads as it did. -/
def devEitherUptoRow : OpenClaim := { program := "ythgdjgbikljbeaa", sum := "794be4f680c0e064d93a97bb0c0cad07cbf5f7d8e0f9125634b5733dbc74211b", func := "oxbow/oxbowlaw03.DevEither", spec := "devEither", inPlace := ["maps.clone"], unfollowed := true, recurses := true, apart := false, narrowed := true }
def DevEitherUptoSaid : Prop := devEitherUptoRow.holds Try.pinned (OpenSpec.upto devEitherSpec)

end Rows
end Go.Proofs.Ythgdjgbikljbeaa
