/-
  NARROWER THAN 'FOR EVERY INPUT', by the rows' own cells (each row's printed sentence says how): DocChecks: laid · DocApplies: laid · DocParts: laid · DocBack: laid · DocTexts: laid · DocKeeps: laid.
  DERIVED. THE GIVEN ROWS OF THIS SEAT. 6 by the template 'for every input the law returns true; each argument reads behind the call as it read before'; 0 by the template 'total and deterministic' (their statements: YtnfnacjadmhclaaDoorTotals.lean).
  GIVEN WITH THE SEED: the statements are not yours to turn. If you find one false, say at which input.
  Laid BY PROGRAM, IN A SANDBOX (cutbox-rows.mjs): the forced cells as the released guide's own fill.sh prints them over the translation 1e7a957ca412e005… (all of the seat's roots in one cut). By AI agents, Wed Nov 11 2026. No macro, syntax, notation, axiom, sorry.
-/
import Derived.Test.YtnfnacjadmhclaaDoorChecked
import GoSem.PinnedTables
import GoSem.Claim
import GoSem.ClaimJoined
import GoSem.ClaimMapViews
import Derived.JoinedTies
import Derived.KernelRfl
namespace Go.Proofs.YtnfnacjadmhclaaDoor
/- THE CELL 'sum', in the pinned program and in every row, IS THE sha256 OF THE DUMP (.gsa) THAT YtnfnacjadmhclaaDoorProg.lean LOADS. Nothing in Lean hashes anything: it is a label: what it is worth is what the hold of that sum in a sandbox is worth. -/
noncomputable def Tryd.pinned : Pinned := { name := "ytnfnacjadmhclaadoor", sum := "1e7a957ca412e0051a6c20e13f93b46885c784ad18db45b2ecfde6e40777145f", checked := Tryd.checked }
namespace Rows
def none {H : Type} : Left H := { results := [], args := [] }

/- WHAT THE LISTED PACKAGE-LEVEL VARIABLES READ AS WHEN THE CALL BEGINS. Each datum BY PROGRAM (the guide's laid-datum.mjs) off the statement by which the dump's own 'gosem.cut.vars' lays the variable. In a bare row this is a premise. The card (YtnfnacjadmhclaaDoorCards.lean) ties it to the program's text. -/
def laid_unicode_utf8_acceptRanges {H : Type} : DataW H := .agg [.agg [.lit (.int .u8 128), .lit (.int .u8 191)], .agg [.lit (.int .u8 160), .lit (.int .u8 191)], .agg [.lit (.int .u8 128), .lit (.int .u8 159)], .agg [.lit (.int .u8 144), .lit (.int .u8 191)], .agg [.lit (.int .u8 128), .lit (.int .u8 143)], .agg [.lit (.int .u8 0), .lit (.int .u8 0)], .agg [.lit (.int .u8 0), .lit (.int .u8 0)], .agg [.lit (.int .u8 0), .lit (.int .u8 0)], .agg [.lit (.int .u8 0), .lit (.int .u8 0)], .agg [.lit (.int .u8 0), .lit (.int .u8 0)], .agg [.lit (.int .u8 0), .lit (.int .u8 0)], .agg [.lit (.int .u8 0), .lit (.int .u8 0)], .agg [.lit (.int .u8 0), .lit (.int .u8 0)], .agg [.lit (.int .u8 0), .lit (.int .u8 0)], .agg [.lit (.int .u8 0), .lit (.int .u8 0)], .agg [.lit (.int .u8 0), .lit (.int .u8 0)]]
/-- One of Go's own tables, pinned by name: the form's constant. -/
def laid_unicode_utf8_first : DataW Unit := Go.Pinned.utf8First

/-- 'oxbowlaw12.DocChecks': WHATEVER THE INPUT: true; the input reads as it did. -/
def docChecksSpec : ChangeSpec := { name := "docChecks", fn := fun _ => fun
  | [d1, d2] => { results := [.lit (.bool true)], args := [d1, d2] }
  | _ => none }
def docChecksRow : OpenClaim := { program := "ytnfnacjadmhclaadoor", sum := "1e7a957ca412e0051a6c20e13f93b46885c784ad18db45b2ecfde6e40777145f", func := "oxbow/oxbowlaw12.DocChecks", spec := "docChecks", inPlace := ["internal/abi.NoEscape"], unfollowed := true, recurses := true, named := ["unicode/utf8.first", "unicode/utf8.acceptRanges"], plainKeys := false, apart := false, laid := [("unicode/utf8.acceptRanges", laid_unicode_utf8_acceptRanges), ("unicode/utf8.first", laid_unicode_utf8_first)] }
def DocChecksSaid : Prop := docChecksRow.holds Tryd.pinned (OpenSpec.ofChange docChecksSpec)

/-- ITS FALSE NEIGHBOUR: 'it returns false'. Refute it at one input. -/
def docChecksWrong : ChangeSpec := { name := "docChecks", fn := fun _ => fun
  | [d1, d2] => { results := [.lit (.bool false)], args := [d1, d2] }
  | _ => none }
def DocChecksWrongFalsely : Prop := docChecksRow.holds Tryd.pinned (OpenSpec.ofChange docChecksWrong)

/-- 'oxbowlaw12.DocApplies': WHATEVER THE INPUT: true; the input reads as it did. -/
def docAppliesSpec : ChangeSpec := { name := "docApplies", fn := fun _ => fun
  | [d1, d2, d3] => { results := [.lit (.bool true)], args := [d1, d2, d3] }
  | _ => none }
def docAppliesRow : OpenClaim := { program := "ytnfnacjadmhclaadoor", sum := "1e7a957ca412e0051a6c20e13f93b46885c784ad18db45b2ecfde6e40777145f", func := "oxbow/oxbowlaw12.DocApplies", spec := "docApplies", inPlace := ["internal/abi.NoEscape"], unfollowed := true, recurses := true, named := ["unicode/utf8.first", "unicode/utf8.acceptRanges"], plainKeys := false, apart := false, laid := [("unicode/utf8.acceptRanges", laid_unicode_utf8_acceptRanges), ("unicode/utf8.first", laid_unicode_utf8_first)] }
def DocAppliesSaid : Prop := docAppliesRow.holds Tryd.pinned (OpenSpec.ofChange docAppliesSpec)

/-- ITS FALSE NEIGHBOUR: 'it returns false'. Refute it at one input. -/
def docAppliesWrong : ChangeSpec := { name := "docApplies", fn := fun _ => fun
  | [d1, d2, d3] => { results := [.lit (.bool false)], args := [d1, d2, d3] }
  | _ => none }
def DocAppliesWrongFalsely : Prop := docAppliesRow.holds Tryd.pinned (OpenSpec.ofChange docAppliesWrong)

/-- 'oxbowlaw12.DocParts': WHATEVER THE INPUT: true; the input reads as it did. -/
def docPartsSpec : ChangeSpec := { name := "docParts", fn := fun _ => fun
  | [d1, d2, d3] => { results := [.lit (.bool true)], args := [d1, d2, d3] }
  | _ => none }
def docPartsRow : OpenClaim := { program := "ytnfnacjadmhclaadoor", sum := "1e7a957ca412e0051a6c20e13f93b46885c784ad18db45b2ecfde6e40777145f", func := "oxbow/oxbowlaw12.DocParts", spec := "docParts", inPlace := ["internal/abi.NoEscape"], unfollowed := true, recurses := true, named := ["unicode/utf8.first", "unicode/utf8.acceptRanges"], plainKeys := false, apart := false, laid := [("unicode/utf8.acceptRanges", laid_unicode_utf8_acceptRanges), ("unicode/utf8.first", laid_unicode_utf8_first)] }
def DocPartsSaid : Prop := docPartsRow.holds Tryd.pinned (OpenSpec.ofChange docPartsSpec)

/-- ITS FALSE NEIGHBOUR: 'it returns false'. Refute it at one input. -/
def docPartsWrong : ChangeSpec := { name := "docParts", fn := fun _ => fun
  | [d1, d2, d3] => { results := [.lit (.bool false)], args := [d1, d2, d3] }
  | _ => none }
def DocPartsWrongFalsely : Prop := docPartsRow.holds Tryd.pinned (OpenSpec.ofChange docPartsWrong)

/-- 'oxbowlaw12.DocBack': WHATEVER THE INPUT: true; the input reads as it did. -/
def docBackSpec : ChangeSpec := { name := "docBack", fn := fun _ => fun
  | [d1, d2] => { results := [.lit (.bool true)], args := [d1, d2] }
  | _ => none }
def docBackRow : OpenClaim := { program := "ytnfnacjadmhclaadoor", sum := "1e7a957ca412e0051a6c20e13f93b46885c784ad18db45b2ecfde6e40777145f", func := "oxbow/oxbowlaw12.DocBack", spec := "docBack", inPlace := ["internal/abi.NoEscape"], unfollowed := true, recurses := true, named := ["unicode/utf8.first", "unicode/utf8.acceptRanges"], plainKeys := false, apart := false, laid := [("unicode/utf8.acceptRanges", laid_unicode_utf8_acceptRanges), ("unicode/utf8.first", laid_unicode_utf8_first)] }
def DocBackSaid : Prop := docBackRow.holds Tryd.pinned (OpenSpec.ofChange docBackSpec)

/-- ITS FALSE NEIGHBOUR: 'it returns false'. Refute it at one input. -/
def docBackWrong : ChangeSpec := { name := "docBack", fn := fun _ => fun
  | [d1, d2] => { results := [.lit (.bool false)], args := [d1, d2] }
  | _ => none }
def DocBackWrongFalsely : Prop := docBackRow.holds Tryd.pinned (OpenSpec.ofChange docBackWrong)

/-- 'oxbowlaw12.DocTexts': WHATEVER THE INPUT: true; the input reads as it did. -/
def docTextsSpec : ChangeSpec := { name := "docTexts", fn := fun _ => fun
  | [d1, d2, d3] => { results := [.lit (.bool true)], args := [d1, d2, d3] }
  | _ => none }
def docTextsRow : OpenClaim := { program := "ytnfnacjadmhclaadoor", sum := "1e7a957ca412e0051a6c20e13f93b46885c784ad18db45b2ecfde6e40777145f", func := "oxbow/oxbowlaw12.DocTexts", spec := "docTexts", inPlace := ["internal/abi.NoEscape"], unfollowed := true, recurses := true, named := ["unicode/utf8.first", "unicode/utf8.acceptRanges"], plainKeys := false, apart := false, laid := [("unicode/utf8.acceptRanges", laid_unicode_utf8_acceptRanges), ("unicode/utf8.first", laid_unicode_utf8_first)] }
def DocTextsSaid : Prop := docTextsRow.holds Tryd.pinned (OpenSpec.ofChange docTextsSpec)

/-- ITS FALSE NEIGHBOUR: 'it returns false'. Refute it at one input. -/
def docTextsWrong : ChangeSpec := { name := "docTexts", fn := fun _ => fun
  | [d1, d2, d3] => { results := [.lit (.bool false)], args := [d1, d2, d3] }
  | _ => none }
def DocTextsWrongFalsely : Prop := docTextsRow.holds Tryd.pinned (OpenSpec.ofChange docTextsWrong)

/-- 'oxbowlaw12.DocKeeps': WHATEVER THE INPUT: true; the input reads as it did. -/
def docKeepsSpec : ChangeSpec := { name := "docKeeps", fn := fun _ => fun
  | [d1, d2, d3] => { results := [.lit (.bool true)], args := [d1, d2, d3] }
  | _ => none }
def docKeepsRow : OpenClaim := { program := "ytnfnacjadmhclaadoor", sum := "1e7a957ca412e0051a6c20e13f93b46885c784ad18db45b2ecfde6e40777145f", func := "oxbow/oxbowlaw12.DocKeeps", spec := "docKeeps", inPlace := ["internal/abi.NoEscape"], unfollowed := true, recurses := true, named := ["unicode/utf8.first", "unicode/utf8.acceptRanges"], plainKeys := false, apart := false, laid := [("unicode/utf8.acceptRanges", laid_unicode_utf8_acceptRanges), ("unicode/utf8.first", laid_unicode_utf8_first)] }
def DocKeepsSaid : Prop := docKeepsRow.holds Tryd.pinned (OpenSpec.ofChange docKeepsSpec)

/-- ITS FALSE NEIGHBOUR: 'it returns false'. Refute it at one input. -/
def docKeepsWrong : ChangeSpec := { name := "docKeeps", fn := fun _ => fun
  | [d1, d2, d3] => { results := [.lit (.bool false)], args := [d1, d2, d3] }
  | _ => none }
def DocKeepsWrongFalsely : Prop := docKeepsRow.holds Tryd.pinned (OpenSpec.ofChange docKeepsWrong)

/- THE SECOND FORM. 'bulk': how many values and letters a reading holds, each counted each time it is reached (what is shared counts as often as it is met; a slice's spare places count too). A statement '..UptoSaid' is the law's where the arguments, and the package variables that the reading takes, are together of bulk at most 1048576: NARROWER than '..Said'. Prove '..Said' where nothing that the law and all that it calls make is longer than what came in: it says more and counts as full. Else prove '..UptoSaid'. A law counts once. -/
mutual
def uptoBulk {H : Type} : DataW H → Nat
  | .lit (.string bytes) => bytes.length + 1
  | .lit _ => 1
  | .nil => 1
  | .ptr d => uptoBulk d + 1
  | .slice elems spare => uptoBulkAll elems + uptoBulkAll spare + 1
  | .agg parts => uptoBulkAll parts + 1
  | .iface _ d => uptoBulk d + 1
  | .map entries => uptoBulkEntries entries + 1
  | .held _ => 1
def uptoBulkAll {H : Type} : List (DataW H) → Nat
  | [] => 0
  | d :: r => uptoBulk d + uptoBulkAll r
def uptoBulkEntries {H : Type} : List (Lit × DataW H) → Nat
  | [] => 0
  | x :: r => uptoBulkEntry x + uptoBulkEntries r
def uptoBulkEntry {H : Type} : Lit × DataW H → Nat
  | (.string bytes, d) => bytes.length + uptoBulk d + 1
  | (_, d) => uptoBulk d + 1
 end
def uptoSmall : (H : Type) → List (DataW H) → Bool := fun _ ds => decide (uptoBulkAll ds ≤ 1048576)
def OpenSpec.upto (s : _root_.Go.ChangeSpec) : _root_.Go.OpenSpec := { _root_.Go.OpenSpec.ofChange s with cond := some uptoSmall }

/-- 'oxbowlaw12.DocChecks', WHERE WHAT IT READS IS OF BULK AT MOST 1048576: true; the input reads as it did. -/
def docChecksUptoRow : OpenClaim := { program := "ytnfnacjadmhclaadoor", sum := "1e7a957ca412e0051a6c20e13f93b46885c784ad18db45b2ecfde6e40777145f", func := "oxbow/oxbowlaw12.DocChecks", spec := "docChecks", inPlace := ["internal/abi.NoEscape"], unfollowed := true, recurses := true, named := ["unicode/utf8.first", "unicode/utf8.acceptRanges"], plainKeys := false, apart := false, laid := [("unicode/utf8.acceptRanges", laid_unicode_utf8_acceptRanges), ("unicode/utf8.first", laid_unicode_utf8_first)], narrowed := true }
def DocChecksUptoSaid : Prop := docChecksUptoRow.holds Tryd.pinned (OpenSpec.upto docChecksSpec)

/-- 'oxbowlaw12.DocApplies', WHERE WHAT IT READS IS OF BULK AT MOST 1048576: true; the input reads as it did. -/
def docAppliesUptoRow : OpenClaim := { program := "ytnfnacjadmhclaadoor", sum := "1e7a957ca412e0051a6c20e13f93b46885c784ad18db45b2ecfde6e40777145f", func := "oxbow/oxbowlaw12.DocApplies", spec := "docApplies", inPlace := ["internal/abi.NoEscape"], unfollowed := true, recurses := true, named := ["unicode/utf8.first", "unicode/utf8.acceptRanges"], plainKeys := false, apart := false, laid := [("unicode/utf8.acceptRanges", laid_unicode_utf8_acceptRanges), ("unicode/utf8.first", laid_unicode_utf8_first)], narrowed := true }
def DocAppliesUptoSaid : Prop := docAppliesUptoRow.holds Tryd.pinned (OpenSpec.upto docAppliesSpec)

/-- 'oxbowlaw12.DocParts', WHERE WHAT IT READS IS OF BULK AT MOST 1048576: true; the input reads as it did. -/
def docPartsUptoRow : OpenClaim := { program := "ytnfnacjadmhclaadoor", sum := "1e7a957ca412e0051a6c20e13f93b46885c784ad18db45b2ecfde6e40777145f", func := "oxbow/oxbowlaw12.DocParts", spec := "docParts", inPlace := ["internal/abi.NoEscape"], unfollowed := true, recurses := true, named := ["unicode/utf8.first", "unicode/utf8.acceptRanges"], plainKeys := false, apart := false, laid := [("unicode/utf8.acceptRanges", laid_unicode_utf8_acceptRanges), ("unicode/utf8.first", laid_unicode_utf8_first)], narrowed := true }
def DocPartsUptoSaid : Prop := docPartsUptoRow.holds Tryd.pinned (OpenSpec.upto docPartsSpec)

/-- 'oxbowlaw12.DocBack', WHERE WHAT IT READS IS OF BULK AT MOST 1048576: true; the input reads as it did. -/
def docBackUptoRow : OpenClaim := { program := "ytnfnacjadmhclaadoor", sum := "1e7a957ca412e0051a6c20e13f93b46885c784ad18db45b2ecfde6e40777145f", func := "oxbow/oxbowlaw12.DocBack", spec := "docBack", inPlace := ["internal/abi.NoEscape"], unfollowed := true, recurses := true, named := ["unicode/utf8.first", "unicode/utf8.acceptRanges"], plainKeys := false, apart := false, laid := [("unicode/utf8.acceptRanges", laid_unicode_utf8_acceptRanges), ("unicode/utf8.first", laid_unicode_utf8_first)], narrowed := true }
def DocBackUptoSaid : Prop := docBackUptoRow.holds Tryd.pinned (OpenSpec.upto docBackSpec)

/-- 'oxbowlaw12.DocTexts', WHERE WHAT IT READS IS OF BULK AT MOST 1048576: true; the input reads as it did. -/
def docTextsUptoRow : OpenClaim := { program := "ytnfnacjadmhclaadoor", sum := "1e7a957ca412e0051a6c20e13f93b46885c784ad18db45b2ecfde6e40777145f", func := "oxbow/oxbowlaw12.DocTexts", spec := "docTexts", inPlace := ["internal/abi.NoEscape"], unfollowed := true, recurses := true, named := ["unicode/utf8.first", "unicode/utf8.acceptRanges"], plainKeys := false, apart := false, laid := [("unicode/utf8.acceptRanges", laid_unicode_utf8_acceptRanges), ("unicode/utf8.first", laid_unicode_utf8_first)], narrowed := true }
def DocTextsUptoSaid : Prop := docTextsUptoRow.holds Tryd.pinned (OpenSpec.upto docTextsSpec)

/-- 'oxbowlaw12.DocKeeps', WHERE WHAT IT READS IS OF BULK AT MOST 1048576: true; the input reads as it did. -/
def docKeepsUptoRow : OpenClaim := { program := "ytnfnacjadmhclaadoor", sum := "1e7a957ca412e0051a6c20e13f93b46885c784ad18db45b2ecfde6e40777145f", func := "oxbow/oxbowlaw12.DocKeeps", spec := "docKeeps", inPlace := ["internal/abi.NoEscape"], unfollowed := true, recurses := true, named := ["unicode/utf8.first", "unicode/utf8.acceptRanges"], plainKeys := false, apart := false, laid := [("unicode/utf8.acceptRanges", laid_unicode_utf8_acceptRanges), ("unicode/utf8.first", laid_unicode_utf8_first)], narrowed := true }
def DocKeepsUptoSaid : Prop := docKeepsUptoRow.holds Tryd.pinned (OpenSpec.upto docKeepsSpec)

end Rows
end Go.Proofs.YtnfnacjadmhclaaDoor
