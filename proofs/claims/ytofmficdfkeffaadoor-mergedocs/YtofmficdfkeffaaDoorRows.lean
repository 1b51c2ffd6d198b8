/-
  NARROWER THAN 'FOR EVERY INPUT', by the rows' own cells (each row's printed sentence says how): MergeDocs: laid · MergeDeltas: laid · MergeEven: laid · MergeAlone: laid · MergeAtoms: laid · MergeLeads: laid.
  DERIVED. THE GIVEN ROWS OF THIS SEAT. 6 by the template 'for every input the law returns true; each argument reads behind the call as it read before'; 0 by the template 'total and deterministic' (their statements: YtofmficdfkeffaaDoorTotals.lean).
  GIVEN WITH THE SEED: the statements are not yours to turn. If you find one false, say at which input.
  Laid BY PROGRAM, IN A SANDBOX (cutbox-rows.mjs): the forced cells as the released guide's own fill.sh prints them over the translation 3a200cb1436d6671… (all of the seat's roots in one cut). By AI agents, Wed Nov 11 2026. No macro, syntax, notation, axiom, sorry.
-/
import Derived.Test.YtofmficdfkeffaaDoorChecked
import GoSem.PinnedTables
import GoSem.Claim
import GoSem.ClaimJoined
import GoSem.ClaimMapViews
import Derived.JoinedTies
import Derived.KernelRfl
namespace Go.Proofs.YtofmficdfkeffaaDoor
/- THE CELL 'sum', in the pinned program and in every row, IS THE sha256 OF THE DUMP (.gsa) THAT YtofmficdfkeffaaDoorProg.lean LOADS. Nothing in Lean hashes anything: it is a label: what it is worth is what the hold of that sum in a sandbox is worth. -/
noncomputable def Tryd.pinned : Pinned := { name := "ytofmficdfkeffaadoor", sum := "3a200cb1436d667155a4f51f9f57c9bca40fd2a046a5f8cf90ccb99b376469f7", checked := Tryd.checked }
namespace Rows
def none {H : Type} : Left H := { results := [], args := [] }

/- WHAT THE LISTED PACKAGE-LEVEL VARIABLES READ AS WHEN THE CALL BEGINS. Each datum BY PROGRAM (the guide's laid-datum.mjs) off the statement by which the dump's own 'gosem.cut.vars' lays the variable. In a bare row this is a premise. The card (YtofmficdfkeffaaDoorCards.lean) ties it to the program's text. -/
def laid_unicode_utf8_acceptRanges {H : Type} : DataW H := .agg [.agg [.lit (.int .u8 128), .lit (.int .u8 191)], .agg [.lit (.int .u8 160), .lit (.int .u8 191)], .agg [.lit (.int .u8 128), .lit (.int .u8 159)], .agg [.lit (.int .u8 144), .lit (.int .u8 191)], .agg [.lit (.int .u8 128), .lit (.int .u8 143)], .agg [.lit (.int .u8 0), .lit (.int .u8 0)], .agg [.lit (.int .u8 0), .lit (.int .u8 0)], .agg [.lit (.int .u8 0), .lit (.int .u8 0)], .agg [.lit (.int .u8 0), .lit (.int .u8 0)], .agg [.lit (.int .u8 0), .lit (.int .u8 0)], .agg [.lit (.int .u8 0), .lit (.int .u8 0)], .agg [.lit (.int .u8 0), .lit (.int .u8 0)], .agg [.lit (.int .u8 0), .lit (.int .u8 0)], .agg [.lit (.int .u8 0), .lit (.int .u8 0)], .agg [.lit (.int .u8 0), .lit (.int .u8 0)], .agg [.lit (.int .u8 0), .lit (.int .u8 0)]]
/-- One of Go's own tables, pinned by name: the form's constant. -/
def laid_unicode_utf8_first : DataW Unit := Go.Pinned.utf8First

/-- 'oxbowlaw14.MergeDocs': WHATEVER THE INPUT: true; the input reads as it did. -/
def mergeDocsSpec : ChangeSpec := { name := "mergeDocs", fn := fun _ => fun
  | [d] => { results := [.lit (.bool true)], args := [d] }
  | _ => none }
def mergeDocsRow : OpenClaim := { program := "ytofmficdfkeffaadoor", sum := "3a200cb1436d667155a4f51f9f57c9bca40fd2a046a5f8cf90ccb99b376469f7", func := "oxbow/oxbowlaw14.MergeDocs", spec := "mergeDocs", inPlace := ["internal/abi.NoEscape", "internal/bytealg.abigen_runtime_cmpstring"], unfollowed := true, recurses := true, named := ["unicode/utf8.first", "unicode/utf8.acceptRanges"], plainKeys := false, apart := false, laid := [("unicode/utf8.acceptRanges", laid_unicode_utf8_acceptRanges), ("unicode/utf8.first", laid_unicode_utf8_first)] }
def MergeDocsSaid : Prop := mergeDocsRow.holds Tryd.pinned (OpenSpec.ofChange mergeDocsSpec)

/-- ITS FALSE NEIGHBOUR: 'it returns false'. Refute it at one input. -/
def mergeDocsWrong : ChangeSpec := { name := "mergeDocs", fn := fun _ => fun
  | [d] => { results := [.lit (.bool false)], args := [d] }
  | _ => none }
def MergeDocsWrongFalsely : Prop := mergeDocsRow.holds Tryd.pinned (OpenSpec.ofChange mergeDocsWrong)

/-- 'oxbowlaw14.MergeDeltas': WHATEVER THE INPUT: true; the input reads as it did. -/
def mergeDeltasSpec : ChangeSpec := { name := "mergeDeltas", fn := fun _ => fun
  | [d1, d2] => { results := [.lit (.bool true)], args := [d1, d2] }
  | _ => none }
def mergeDeltasRow : OpenClaim := { program := "ytofmficdfkeffaadoor", sum := "3a200cb1436d667155a4f51f9f57c9bca40fd2a046a5f8cf90ccb99b376469f7", func := "oxbow/oxbowlaw14.MergeDeltas", spec := "mergeDeltas", inPlace := ["internal/abi.NoEscape", "internal/bytealg.abigen_runtime_cmpstring"], unfollowed := true, recurses := true, named := ["unicode/utf8.first", "unicode/utf8.acceptRanges"], plainKeys := false, apart := false, laid := [("unicode/utf8.acceptRanges", laid_unicode_utf8_acceptRanges), ("unicode/utf8.first", laid_unicode_utf8_first)] }
def MergeDeltasSaid : Prop := mergeDeltasRow.holds Tryd.pinned (OpenSpec.ofChange mergeDeltasSpec)

/-- ITS FALSE NEIGHBOUR: 'it returns false'. Refute it at one input. -/
def mergeDeltasWrong : ChangeSpec := { name := "mergeDeltas", fn := fun _ => fun
  | [d1, d2] => { results := [.lit (.bool false)], args := [d1, d2] }
  | _ => none }
def MergeDeltasWrongFalsely : Prop := mergeDeltasRow.holds Tryd.pinned (OpenSpec.ofChange mergeDeltasWrong)

/-- 'oxbowlaw14.MergeEven': WHATEVER THE INPUT: true; the input reads as it did. -/
def mergeEvenSpec : ChangeSpec := { name := "mergeEven", fn := fun _ => fun
  | [d] => { results := [.lit (.bool true)], args := [d] }
  | _ => none }
def mergeEvenRow : OpenClaim := { program := "ytofmficdfkeffaadoor", sum := "3a200cb1436d667155a4f51f9f57c9bca40fd2a046a5f8cf90ccb99b376469f7", func := "oxbow/oxbowlaw14.MergeEven", spec := "mergeEven", inPlace := ["internal/abi.NoEscape", "internal/bytealg.abigen_runtime_cmpstring"], unfollowed := true, recurses := true, named := ["unicode/utf8.first", "unicode/utf8.acceptRanges"], plainKeys := false, apart := false, laid := [("unicode/utf8.acceptRanges", laid_unicode_utf8_acceptRanges), ("unicode/utf8.first", laid_unicode_utf8_first)] }
def MergeEvenSaid : Prop := mergeEvenRow.holds Tryd.pinned (OpenSpec.ofChange mergeEvenSpec)

/-- ITS FALSE NEIGHBOUR: 'it returns false'. Refute it at one input. -/
def mergeEvenWrong : ChangeSpec := { name := "mergeEven", fn := fun _ => fun
  | [d] => { results := [.lit (.bool false)], args := [d] }
  | _ => none }
def MergeEvenWrongFalsely : Prop := mergeEvenRow.holds Tryd.pinned (OpenSpec.ofChange mergeEvenWrong)

/-- 'oxbowlaw14.MergeAlone': WHATEVER THE INPUT: true; the input reads as it did. -/
def mergeAloneSpec : ChangeSpec := { name := "mergeAlone", fn := fun _ => fun
  | [d] => { results := [.lit (.bool true)], args := [d] }
  | _ => none }
def mergeAloneRow : OpenClaim := { program := "ytofmficdfkeffaadoor", sum := "3a200cb1436d667155a4f51f9f57c9bca40fd2a046a5f8cf90ccb99b376469f7", func := "oxbow/oxbowlaw14.MergeAlone", spec := "mergeAlone", inPlace := ["internal/abi.NoEscape", "internal/bytealg.abigen_runtime_cmpstring"], unfollowed := true, recurses := true, named := ["unicode/utf8.first", "unicode/utf8.acceptRanges"], plainKeys := false, apart := false, laid := [("unicode/utf8.acceptRanges", laid_unicode_utf8_acceptRanges), ("unicode/utf8.first", laid_unicode_utf8_first)] }
def MergeAloneSaid : Prop := mergeAloneRow.holds Tryd.pinned (OpenSpec.ofChange mergeAloneSpec)

/-- ITS FALSE NEIGHBOUR: 'it returns false'. Refute it at one input. -/
def mergeAloneWrong : ChangeSpec := { name := "mergeAlone", fn := fun _ => fun
  | [d] => { results := [.lit (.bool false)], args := [d] }
  | _ => none }
def MergeAloneWrongFalsely : Prop := mergeAloneRow.holds Tryd.pinned (OpenSpec.ofChange mergeAloneWrong)

/-- 'oxbowlaw14.MergeAtoms': WHATEVER THE INPUT: true; the input reads as it did. -/
def mergeAtomsSpec : ChangeSpec := { name := "mergeAtoms", fn := fun _ => fun
  | [d] => { results := [.lit (.bool true)], args := [d] }
  | _ => none }
def mergeAtomsRow : OpenClaim := { program := "ytofmficdfkeffaadoor", sum := "3a200cb1436d667155a4f51f9f57c9bca40fd2a046a5f8cf90ccb99b376469f7", func := "oxbow/oxbowlaw14.MergeAtoms", spec := "mergeAtoms", inPlace := ["internal/abi.NoEscape", "internal/bytealg.abigen_runtime_cmpstring"], unfollowed := true, recurses := true, named := ["unicode/utf8.first", "unicode/utf8.acceptRanges"], plainKeys := false, apart := false, laid := [("unicode/utf8.acceptRanges", laid_unicode_utf8_acceptRanges), ("unicode/utf8.first", laid_unicode_utf8_first)] }
def MergeAtomsSaid : Prop := mergeAtomsRow.holds Tryd.pinned (OpenSpec.ofChange mergeAtomsSpec)

/-- ITS FALSE NEIGHBOUR: 'it returns false'. Refute it at one input. -/
def mergeAtomsWrong : ChangeSpec := { name := "mergeAtoms", fn := fun _ => fun
  | [d] => { results := [.lit (.bool false)], args := [d] }
  | _ => none }
def MergeAtomsWrongFalsely : Prop := mergeAtomsRow.holds Tryd.pinned (OpenSpec.ofChange mergeAtomsWrong)

/-- 'oxbowlaw14.MergeLeads': WHATEVER THE INPUT: true; the input reads as it did. -/
def mergeLeadsSpec : ChangeSpec := { name := "mergeLeads", fn := fun _ => fun
  | [d] => { results := [.lit (.bool true)], args := [d] }
  | _ => none }
def mergeLeadsRow : OpenClaim := { program := "ytofmficdfkeffaadoor", sum := "3a200cb1436d667155a4f51f9f57c9bca40fd2a046a5f8cf90ccb99b376469f7", func := "oxbow/oxbowlaw14.MergeLeads", spec := "mergeLeads", inPlace := ["internal/abi.NoEscape", "internal/bytealg.abigen_runtime_cmpstring"], unfollowed := true, recurses := true, named := ["unicode/utf8.first", "unicode/utf8.acceptRanges"], plainKeys := false, apart := false, laid := [("unicode/utf8.acceptRanges", laid_unicode_utf8_acceptRanges), ("unicode/utf8.first", laid_unicode_utf8_first)] }
def MergeLeadsSaid : Prop := mergeLeadsRow.holds Tryd.pinned (OpenSpec.ofChange mergeLeadsSpec)

/-- ITS FALSE NEIGHBOUR: 'it returns false'. Refute it at one input. -/
def mergeLeadsWrong : ChangeSpec := { name := "mergeLeads", fn := fun _ => fun
  | [d] => { results := [.lit (.bool false)], args := [d] }
  | _ => none }
def MergeLeadsWrongFalsely : Prop := mergeLeadsRow.holds Tryd.pinned (OpenSpec.ofChange mergeLeadsWrong)

/- THE SECOND FORM. 'bulk': how many values and letters a reading holds, each counted each time it is reached (what is shared counts as often as it is met; a slice's spare places count too). A statement '..UptoSaid' is the law's where the arguments, and the package variables that the reading takes, are together of bulk at most 1048576: NARROWER than '..Said'. Prove '..Said' where nothing that the law and all that it calls make is longer than what came in: it says more and counts as full. Else prove '..UptoSaid'. A law counts once. -/
mutual
def uptoBulk {H : Type} : DataW H → Nat
  | .lit (.string bytes) => bytes.length + 1
  | .lit _ => 1
  | .nil => 1
  | .ptr d => uptoBulk d + 1
  | .slice elems spare => uptoBulkAll elems + uptoBulkAll spare + 1
  | .agg parts => uptoBulkAll parts + 1
  | .iface _ d => uptoBulk d + 1
  | .map entries => uptoBulkEntries entries + 1
  | .held _ => 1
def uptoBulkAll {H : Type} : List (DataW H) → Nat
  | [] => 0
  | d :: r => uptoBulk d + uptoBulkAll r
def uptoBulkEntries {H : Type} : List (Lit × DataW H) → Nat
  | [] => 0
  | x :: r => uptoBulkEntry x + uptoBulkEntries r
def uptoBulkEntry {H : Type} : Lit × DataW H → Nat
  | (.string bytes, d) => bytes.length + uptoBulk d + 1
  | (_, d) => uptoBulk d + 1
 end
def uptoSmall : (H : Type) → List (DataW H) → Bool := fun _ ds => decide (uptoBulkAll ds ≤ 1048576)
def OpenSpec.upto (s : _root_.Go.ChangeSpec) : _root_.Go.OpenSpec := { _root_.Go.OpenSpec.ofChange s with cond := some uptoSmall }

/-- 'oxbowlaw14.MergeDocs', WHERE WHAT IT READS IS OF BULK AT MOST 1048576: true; the input reads as it did. -/
def mergeDocsUptoRow : OpenClaim := { program := "ytofmficdfkeffaadoor", sum := "3a200cb1436d667155a4f51f9f57c9bca40fd2a046a5f8cf90ccb99b376469f7", func := "oxbow/oxbowlaw14.MergeDocs", spec := "mergeDocs", inPlace := ["internal/abi.NoEscape", "internal/bytealg.abigen_runtime_cmpstring"], unfollowed := true, recurses := true, named := ["unicode/utf8.first", "unicode/utf8.acceptRanges"], plainKeys := false, apart := false, laid := [("unicode/utf8.acceptRanges", laid_unicode_utf8_acceptRanges), ("unicode/utf8.first", laid_unicode_utf8_first)], narrowed := true }
def MergeDocsUptoSaid : Prop := mergeDocsUptoRow.holds Tryd.pinned (OpenSpec.upto mergeDocsSpec)

/-- 'oxbowlaw14.MergeDeltas', WHERE WHAT IT READS IS OF BULK AT MOST 1048576: true; the input reads as it did. -/
def mergeDeltasUptoRow : OpenClaim := { program := "ytofmficdfkeffaadoor", sum := "3a200cb1436d667155a4f51f9f57c9bca40fd2a046a5f8cf90ccb99b376469f7", func := "oxbow/oxbowlaw14.MergeDeltas", spec := "mergeDeltas", inPlace := ["internal/abi.NoEscape", "internal/bytealg.abigen_runtime_cmpstring"], unfollowed := true, recurses := true, named := ["unicode/utf8.first", "unicode/utf8.acceptRanges"], plainKeys := false, apart := false, laid := [("unicode/utf8.acceptRanges", laid_unicode_utf8_acceptRanges), ("unicode/utf8.first", laid_unicode_utf8_first)], narrowed := true }
def MergeDeltasUptoSaid : Prop := mergeDeltasUptoRow.holds Tryd.pinned (OpenSpec.upto mergeDeltasSpec)

/-- 'oxbowlaw14.MergeEven', WHERE WHAT IT READS IS OF BULK AT MOST 1048576: true; the input reads as it did. -/
def mergeEvenUptoRow : OpenClaim := { program := "ytofmficdfkeffaadoor", sum := "3a200cb1436d667155a4f51f9f57c9bca40fd2a046a5f8cf90ccb99b376469f7", func := "oxbow/oxbowlaw14.MergeEven", spec := "mergeEven", inPlace := ["internal/abi.NoEscape", "internal/bytealg.abigen_runtime_cmpstring"], unfollowed := true, recurses := true, named := ["unicode/utf8.first", "unicode/utf8.acceptRanges"], plainKeys := false, apart := false, laid := [("unicode/utf8.acceptRanges", laid_unicode_utf8_acceptRanges), ("unicode/utf8.first", laid_unicode_utf8_first)], narrowed := true }
def MergeEvenUptoSaid : Prop := mergeEvenUptoRow.holds Tryd.pinned (OpenSpec.upto mergeEvenSpec)

/-- 'oxbowlaw14.MergeAlone', WHERE WHAT IT READS IS OF BULK AT MOST 1048576: true; the input reads as it did. -/
def mergeAloneUptoRow : OpenClaim := { program := "ytofmficdfkeffaadoor", sum := "3a200cb1436d667155a4f51f9f57c9bca40fd2a046a5f8cf90ccb99b376469f7", func := "oxbow/oxbowlaw14.MergeAlone", spec := "mergeAlone", inPlace := ["internal/abi.NoEscape", "internal/bytealg.abigen_runtime_cmpstring"], unfollowed := true, recurses := true, named := ["unicode/utf8.first", "unicode/utf8.acceptRanges"], plainKeys := false, apart := false, laid := [("unicode/utf8.acceptRanges", laid_unicode_utf8_acceptRanges), ("unicode/utf8.first", laid_unicode_utf8_first)], narrowed := true }
def MergeAloneUptoSaid : Prop := mergeAloneUptoRow.holds Tryd.pinned (OpenSpec.upto mergeAloneSpec)

/-- 'oxbowlaw14.MergeAtoms', WHERE WHAT IT READS IS OF BULK AT MOST 1048576: true; the input reads as it did. -/
def mergeAtomsUptoRow : OpenClaim := { program := "ytofmficdfkeffaadoor", sum := "3a200cb1436d667155a4f51f9f57c9bca40fd2a046a5f8cf90ccb99b376469f7", func := "oxbow/oxbowlaw14.MergeAtoms", spec := "mergeAtoms", inPlace := ["internal/abi.NoEscape", "internal/bytealg.abigen_runtime_cmpstring"], unfollowed := true, recurses := true, named := ["unicode/utf8.first", "unicode/utf8.acceptRanges"], plainKeys := false, apart := false, laid := [("unicode/utf8.acceptRanges", laid_unicode_utf8_acceptRanges), ("unicode/utf8.first", laid_unicode_utf8_first)], narrowed := true }
def MergeAtomsUptoSaid : Prop := mergeAtomsUptoRow.holds Tryd.pinned (OpenSpec.upto mergeAtomsSpec)

/-- 'oxbowlaw14.MergeLeads', WHERE WHAT IT READS IS OF BULK AT MOST 1048576: true; the input reads as it did. -/
def mergeLeadsUptoRow : OpenClaim := { program := "ytofmficdfkeffaadoor", sum := "3a200cb1436d667155a4f51f9f57c9bca40fd2a046a5f8cf90ccb99b376469f7", func := "oxbow/oxbowlaw14.MergeLeads", spec := "mergeLeads", inPlace := ["internal/abi.NoEscape", "internal/bytealg.abigen_runtime_cmpstring"], unfollowed := true, recurses := true, named := ["unicode/utf8.first", "unicode/utf8.acceptRanges"], plainKeys := false, apart := false, laid := [("unicode/utf8.acceptRanges", laid_unicode_utf8_acceptRanges), ("unicode/utf8.first", laid_unicode_utf8_first)], narrowed := true }
def MergeLeadsUptoSaid : Prop := mergeLeadsUptoRow.holds Tryd.pinned (OpenSpec.upto mergeLeadsSpec)

end Rows
end Go.Proofs.YtofmficdfkeffaaDoor
