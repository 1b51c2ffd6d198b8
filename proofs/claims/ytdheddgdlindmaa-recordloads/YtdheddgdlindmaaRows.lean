/-
  No cell of these rows narrows 'for every input' (looked for: loops, veiled, ifaces, maps, wideKeys, modest, calm, conditions, laid).
  DERIVED. THE GIVEN ROWS OF THIS SEAT. 5 by the template 'for every input the law returns true; each argument reads behind the call as it read before'; 0 by the template 'total and deterministic' (their statements: YtdheddgdlindmaaTotals.lean).
  GIVEN WITH THE SEED: the statements are not yours to turn. If you find one false, say at which input.
  Laid BY PROGRAM, IN A SANDBOX (cutbox-rows.mjs): the forced cells as the released guide's own fill.sh prints them over the translation 5aeb5c493b13ffa8… (all of the seat's roots in one cut). By AI agents, Wed Nov 11 2026. No macro, syntax, notation, axiom, sorry.
-/
import Derived.Test.YtdheddgdlindmaaChecked
import GoSem.Claim
import GoSem.ClaimJoined
import GoSem.ClaimMapViews
import Derived.JoinedTies
import Derived.KernelRfl
namespace Go.Proofs.Ytdheddgdlindmaa
/- THE CELL 'sum', in the pinned program and in every row, IS THE sha256 OF THE DUMP (.gsa) THAT YtdheddgdlindmaaProg.lean LOADS. Nothing in Lean hashes anything: it is a label: what it is worth is what the hold of that sum in a sandbox is worth. -/
noncomputable def Try.pinned : Pinned := { name := "ytdheddgdlindmaa", sum := "5aeb5c493b13ffa83be53ac74337dd1e5e1cfc448d6cf68541e4f634801cc88f", checked := Try.checked }
namespace Rows
def none {H : Type} : Left H := { results := [], args := [] }

/-- 'oxbowlaw15.RecordPairs': WHATEVER THE INPUT: true; the input reads as it did. -/
def recordPairsSpec : ChangeSpec := { name := "recordPairs", fn := fun _ => fun
  | [d] => { results := [.lit (.bool true)], args := [d] }
  | _ => none }
def recordPairsRow : OpenClaim := { program := "ytdheddgdlindmaa", sum := "5aeb5c493b13ffa83be53ac74337dd1e5e1cfc448d6cf68541e4f634801cc88f", func := "oxbow/oxbowlaw15.RecordPairs", spec := "recordPairs", inPlace := ["internal/abi.NoEscape"], unfollowed := true, recurses := true, apart := false }
def RecordPairsSaid : Prop := recordPairsRow.holds Try.pinned (OpenSpec.ofChange recordPairsSpec)

/-- ITS FALSE NEIGHBOUR: 'it returns false'. Refute it at one input. -/
def recordPairsWrong : ChangeSpec := { name := "recordPairs", fn := fun _ => fun
  | [d] => { results := [.lit (.bool false)], args := [d] }
  | _ => none }
def RecordPairsWrongFalsely : Prop := recordPairsRow.holds Try.pinned (OpenSpec.ofChange recordPairsWrong)

/-- 'oxbowlaw15.RecordLoads': WHATEVER THE INPUT: true; the input reads as it did. -/
def recordLoadsSpec : ChangeSpec := { name := "recordLoads", fn := fun _ => fun
  | [d] => { results := [.lit (.bool true)], args := [d] }
  | _ => none }
def recordLoadsRow : OpenClaim := { program := "ytdheddgdlindmaa", sum := "5aeb5c493b13ffa83be53ac74337dd1e5e1cfc448d6cf68541e4f634801cc88f", func := "oxbow/oxbowlaw15.RecordLoads", spec := "recordLoads", inPlace := ["internal/abi.NoEscape"], unfollowed := true, recurses := true, apart := false }
def RecordLoadsSaid : Prop := recordLoadsRow.holds Try.pinned (OpenSpec.ofChange recordLoadsSpec)

/-- ITS FALSE NEIGHBOUR: 'it returns false'. Refute it at one input. -/
def recordLoadsWrong : ChangeSpec := { name := "recordLoads", fn := fun _ => fun
  | [d] => { results := [.lit (.bool false)], args := [d] }
  | _ => none }
def RecordLoadsWrongFalsely : Prop := recordLoadsRow.holds Try.pinned (OpenSpec.ofChange recordLoadsWrong)

/-- 'oxbowlaw15.RecordChanges': WHATEVER THE INPUT: true; the input reads as it did. -/
def recordChangesSpec : ChangeSpec := { name := "recordChanges", fn := fun _ => fun
  | [d1, d2] => { results := [.lit (.bool true)], args := [d1, d2] }
  | _ => none }
def recordChangesRow : OpenClaim := { program := "ytdheddgdlindmaa", sum := "5aeb5c493b13ffa83be53ac74337dd1e5e1cfc448d6cf68541e4f634801cc88f", func := "oxbow/oxbowlaw15.RecordChanges", spec := "recordChanges", inPlace := ["internal/abi.NoEscape"], unfollowed := true, recurses := true, apart := false }
def RecordChangesSaid : Prop := recordChangesRow.holds Try.pinned (OpenSpec.ofChange recordChangesSpec)

/-- ITS FALSE NEIGHBOUR: 'it returns false'. Refute it at one input. -/
def recordChangesWrong : ChangeSpec := { name := "recordChanges", fn := fun _ => fun
  | [d1, d2] => { results := [.lit (.bool false)], args := [d1, d2] }
  | _ => none }
def RecordChangesWrongFalsely : Prop := recordChangesRow.holds Try.pinned (OpenSpec.ofChange recordChangesWrong)

/-- 'oxbowlaw15.RecordBack': WHATEVER THE INPUT: true; the input reads as it did. -/
def recordBackSpec : ChangeSpec := { name := "recordBack", fn := fun _ => fun
  | [d] => { results := [.lit (.bool true)], args := [d] }
  | _ => none }
def recordBackRow : OpenClaim := { program := "ytdheddgdlindmaa", sum := "5aeb5c493b13ffa83be53ac74337dd1e5e1cfc448d6cf68541e4f634801cc88f", func := "oxbow/oxbowlaw15.RecordBack", spec := "recordBack", inPlace := ["internal/abi.NoEscape"], unfollowed := true, recurses := true, apart := false }
def RecordBackSaid : Prop := recordBackRow.holds Try.pinned (OpenSpec.ofChange recordBackSpec)

/-- ITS FALSE NEIGHBOUR: 'it returns false'. Refute it at one input. -/
def recordBackWrong : ChangeSpec := { name := "recordBack", fn := fun _ => fun
  | [d] => { results := [.lit (.bool false)], args := [d] }
  | _ => none }
def RecordBackWrongFalsely : Prop := recordBackRow.holds Try.pinned (OpenSpec.ofChange recordBackWrong)

/-- 'oxbowlaw15.RecordLeads': WHATEVER THE INPUT: true; the input reads as it did. -/
def recordLeadsSpec : ChangeSpec := { name := "recordLeads", fn := fun _ => fun
  | [d1, d2] => { results := [.lit (.bool true)], args := [d1, d2] }
  | _ => none }
def recordLeadsRow : OpenClaim := { program := "ytdheddgdlindmaa", sum := "5aeb5c493b13ffa83be53ac74337dd1e5e1cfc448d6cf68541e4f634801cc88f", func := "oxbow/oxbowlaw15.RecordLeads", spec := "recordLeads", inPlace := ["internal/abi.NoEscape"], unfollowed := true, recurses := true, apart := false }
def RecordLeadsSaid : Prop := recordLeadsRow.holds Try.pinned (OpenSpec.ofChange recordLeadsSpec)

/-- ITS FALSE NEIGHBOUR: 'it returns false'. Refute it at one input. -/
def recordLeadsWrong : ChangeSpec := { name := "recordLeads", fn := fun _ => fun
  | [d1, d2] => { results := [.lit (.bool false)], args := [d1, d2] }
  | _ => none }
def RecordLeadsWrongFalsely : Prop := recordLeadsRow.holds Try.pinned (OpenSpec.ofChange recordLeadsWrong)

/- THE SECOND FORM. 'bulk': how many values and letters a reading holds, each counted each time it is reached (what is shared counts as often as it is met; a slice's spare places count too). A statement '..UptoSaid' is the law's where the arguments, and the package variables that the reading takes, are together of bulk at most 1048576: NARROWER than '..Said'. Prove '..Said' where nothing that the law and all that it calls make is longer than what came in: it says more and counts as full. Else prove '..UptoSaid'. A law counts once. -/
mutual
def uptoBulk {H : Type} : DataW H → Nat
  | .lit (.string bytes) => bytes.length + 1
  | .lit _ => 1
  | .nil => 1
  | .ptr d => uptoBulk d + 1
  | .slice elems spare => uptoBulkAll elems + uptoBulkAll spare + 1
  | .agg parts => uptoBulkAll parts + 1
  | .iface _ d => uptoBulk d + 1
  | .map entries => uptoBulkEntries entries + 1
  | .held _ => 1
def uptoBulkAll {H : Type} : List (DataW H) → Nat
  | [] => 0
  | d :: r => uptoBulk d + uptoBulkAll r
def uptoBulkEntries {H : Type} : List (Lit × DataW H) → Nat
  | [] => 0
  | x :: r => uptoBulkEntry x + uptoBulkEntries r
def uptoBulkEntry {H : Type} : Lit × DataW H → Nat
  | (.string bytes, d) => bytes.length + uptoBulk d + 1
  | (_, d) => uptoBulk d + 1
 end
def uptoSmall : (H : Type) → List (DataW H) → Bool := fun _ ds => decide (uptoBulkAll ds ≤ 1048576)
def OpenSpec.upto (s : _root_.Go.ChangeSpec) : _root_.Go.OpenSpec := { _root_.Go.OpenSpec.ofChange s with cond := some uptoSmall }

/-- 'oxbowlaw15.RecordPairs', WHERE WHAT IT READS IS OF BULK AT MOST 1048576: true; the input reads as it did. -/
def recordPairsUptoRow : OpenClaim := { program := "ytdheddgdlindmaa", sum := "5aeb5c493b13ffa83be53ac74337dd1e5e1cfc448d6cf68541e4f634801cc88f", func := "oxbow/oxbowlaw15.RecordPairs", spec := "recordPairs", inPlace := ["internal/abi.NoEscape"], unfollowed := true, recurses := true, apart := false, narrowed := true }
def RecordPairsUptoSaid : Prop := recordPairsUptoRow.holds Try.pinned (OpenSpec.upto recordPairsSpec)

/-- 'oxbowlaw15.RecordLoads', WHERE WHAT IT READS IS OF BULK AT MOST 1048576: true; the input reads as it did. -/
def recordLoadsUptoRow : OpenClaim := { program := "ytdheddgdlindmaa", sum := "5aeb5c493b13ffa83be53ac74337dd1e5e1cfc448d6cf68541e4f634801cc88f", func := "oxbow/oxbowlaw15.RecordLoads", spec := "recordLoads", inPlace := ["internal/abi.NoEscape"], unfollowed := true, recurses := true, apart := false, narrowed := true }
def RecordLoadsUptoSaid : Prop := recordLoadsUptoRow.holds Try.pinned (OpenSpec.upto recordLoadsSpec)

/-- 'oxbowlaw15.RecordChanges', WHERE WHAT IT READS IS OF BULK AT MOST 1048576: true; the input reads as it did. -/
def recordChangesUptoRow : OpenClaim := { program := "ytdheddgdlindmaa", sum := "5aeb5c493b13ffa83be53ac74337dd1e5e1cfc448d6cf68541e4f634801cc88f", func := "oxbow/oxbowlaw15.RecordChanges", spec := "recordChanges", inPlace := ["internal/abi.NoEscape"], unfollowed := true, recurses := true, apart := false, narrowed := true }
def RecordChangesUptoSaid : Prop := recordChangesUptoRow.holds Try.pinned (OpenSpec.upto recordChangesSpec)

/-- 'oxbowlaw15.RecordBack', WHERE WHAT IT READS IS OF BULK AT MOST 1048576: true; the input reads as it did. -/
def recordBackUptoRow : OpenClaim := { program := "ytdheddgdlindmaa", sum := "5aeb5c493b13ffa83be53ac74337dd1e5e1cfc448d6cf68541e4f634801cc88f", func := "oxbow/oxbowlaw15.RecordBack", spec := "recordBack", inPlace := ["internal/abi.NoEscape"], unfollowed := true, recurses := true, apart := false, narrowed := true }
def RecordBackUptoSaid : Prop := recordBackUptoRow.holds Try.pinned (OpenSpec.upto recordBackSpec)

/-- 'oxbowlaw15.RecordLeads', WHERE WHAT IT READS IS OF BULK AT MOST 1048576: true; the input reads as it did. -/
def recordLeadsUptoRow : OpenClaim := { program := "ytdheddgdlindmaa", sum := "5aeb5c493b13ffa83be53ac74337dd1e5e1cfc448d6cf68541e4f634801cc88f", func := "oxbow/oxbowlaw15.RecordLeads", spec := "recordLeads", inPlace := ["internal/abi.NoEscape"], unfollowed := true, recurses := true, apart := false, narrowed := true }
def RecordLeadsUptoSaid : Prop := recordLeadsUptoRow.holds Try.pinned (OpenSpec.upto recordLeadsSpec)

end Rows
end Go.Proofs.Ytdheddgdlindmaa
