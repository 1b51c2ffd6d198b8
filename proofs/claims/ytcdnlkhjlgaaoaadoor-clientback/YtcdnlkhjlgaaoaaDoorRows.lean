/-
  NARROWER THAN 'FOR EVERY INPUT', by the rows' own cells (each row's printed sentence says how): ClientBegins: laid · ClientEdits: laid · ClientNext: laid · ClientSays: laid · ClientBack: laid.
  DERIVED. THE GIVEN ROWS OF THIS SEAT. 5 by the template 'for every input the law returns true; each argument reads behind the call as it read before'; 0 by the template 'total and deterministic' (their statements: YtcdnlkhjlgaaoaaDoorTotals.lean).
  GIVEN WITH THE SEED: the statements are not yours to turn. If you find one false, say at which input.
  Laid BY PROGRAM, IN A SANDBOX (cutbox-rows.mjs): the forced cells as the released guide's own fill.sh prints them over the translation 6867b7cc9ad34f25… (all of the seat's roots in one cut). By AI agents, Wed Nov 11 2026. No macro, syntax, notation, axiom, sorry.
-/
import Derived.Test.YtcdnlkhjlgaaoaaDoorChecked
import GoSem.PinnedTables
import GoSem.Claim
import GoSem.ClaimJoined
import GoSem.ClaimMapViews
import Derived.JoinedTies
import Derived.KernelRfl
namespace Go.Proofs.YtcdnlkhjlgaaoaaDoor
/- THE CELL 'sum', in the pinned program and in every row, IS THE sha256 OF THE DUMP (.gsa) THAT YtcdnlkhjlgaaoaaDoorProg.lean LOADS. Nothing in Lean hashes anything: it is a label: what it is worth is what the hold of that sum in a sandbox is worth. -/
noncomputable def Tryd.pinned : Pinned := { name := "ytcdnlkhjlgaaoaadoor", sum := "6867b7cc9ad34f2592b695c807f37eebe36cf5f03e1468f705d2b2358d5737f6", checked := Tryd.checked }
namespace Rows
def none {H : Type} : Left H := { results := [], args := [] }

/- WHAT THE LISTED PACKAGE-LEVEL VARIABLES READ AS WHEN THE CALL BEGINS. Each datum BY PROGRAM (the guide's laid-datum.mjs) off the statement by which the dump's own 'gosem.cut.vars' lays the variable. In a bare row this is a premise. The card (YtcdnlkhjlgaaoaaDoorCards.lean) ties it to the program's text. -/
def laid_unicode_utf8_acceptRanges {H : Type} : DataW H := .agg [.agg [.lit (.int .u8 128), .lit (.int .u8 191)], .agg [.lit (.int .u8 160), .lit (.int .u8 191)], .agg [.lit (.int .u8 128), .lit (.int .u8 159)], .agg [.lit (.int .u8 144), .lit (.int .u8 191)], .agg [.lit (.int .u8 128), .lit (.int .u8 143)], .agg [.lit (.int .u8 0), .lit (.int .u8 0)], .agg [.lit (.int .u8 0), .lit (.int .u8 0)], .agg [.lit (.int .u8 0), .lit (.int .u8 0)], .agg [.lit (.int .u8 0), .lit (.int .u8 0)], .agg [.lit (.int .u8 0), .lit (.int .u8 0)], .agg [.lit (.int .u8 0), .lit (.int .u8 0)], .agg [.lit (.int .u8 0), .lit (.int .u8 0)], .agg [.lit (.int .u8 0), .lit (.int .u8 0)], .agg [.lit (.int .u8 0), .lit (.int .u8 0)], .agg [.lit (.int .u8 0), .lit (.int .u8 0)], .agg [.lit (.int .u8 0), .lit (.int .u8 0)]]
/-- One of Go's own tables, pinned by name: the form's constant. -/
def laid_unicode_utf8_first : DataW Unit := Go.Pinned.utf8First

/-- 'oxbowlaw20.ClientBegins': WHATEVER THE INPUT: true; the input reads as it did. -/
def clientBeginsSpec : ChangeSpec := { name := "clientBegins", fn := fun _ => fun
  | [d] => { results := [.lit (.bool true)], args := [d] }
  | _ => none }
def clientBeginsRow : OpenClaim := { program := "ytcdnlkhjlgaaoaadoor", sum := "6867b7cc9ad34f2592b695c807f37eebe36cf5f03e1468f705d2b2358d5737f6", func := "oxbow/oxbowlaw20.ClientBegins", spec := "clientBegins", inPlace := ["internal/abi.NoEscape"], unfollowed := true, recurses := true, named := ["unicode/utf8.first", "unicode/utf8.acceptRanges"], apart := false, laid := [("unicode/utf8.acceptRanges", laid_unicode_utf8_acceptRanges), ("unicode/utf8.first", laid_unicode_utf8_first)] }
def ClientBeginsSaid : Prop := clientBeginsRow.holds Tryd.pinned (OpenSpec.ofChange clientBeginsSpec)

/-- ITS FALSE NEIGHBOUR: 'it returns false'. Refute it at one input. -/
def clientBeginsWrong : ChangeSpec := { name := "clientBegins", fn := fun _ => fun
  | [d] => { results := [.lit (.bool false)], args := [d] }
  | _ => none }
def ClientBeginsWrongFalsely : Prop := clientBeginsRow.holds Tryd.pinned (OpenSpec.ofChange clientBeginsWrong)

/-- 'oxbowlaw20.ClientEdits': WHATEVER THE INPUT: true; the input reads as it did. -/
def clientEditsSpec : ChangeSpec := { name := "clientEdits", fn := fun _ => fun
  | [d1, d2] => { results := [.lit (.bool true)], args := [d1, d2] }
  | _ => none }
def clientEditsRow : OpenClaim := { program := "ytcdnlkhjlgaaoaadoor", sum := "6867b7cc9ad34f2592b695c807f37eebe36cf5f03e1468f705d2b2358d5737f6", func := "oxbow/oxbowlaw20.ClientEdits", spec := "clientEdits", inPlace := ["internal/abi.NoEscape"], unfollowed := true, recurses := true, named := ["unicode/utf8.first", "unicode/utf8.acceptRanges"], apart := false, laid := [("unicode/utf8.acceptRanges", laid_unicode_utf8_acceptRanges), ("unicode/utf8.first", laid_unicode_utf8_first)] }
def ClientEditsSaid : Prop := clientEditsRow.holds Tryd.pinned (OpenSpec.ofChange clientEditsSpec)

/-- ITS FALSE NEIGHBOUR: 'it returns false'. Refute it at one input. -/
def clientEditsWrong : ChangeSpec := { name := "clientEdits", fn := fun _ => fun
  | [d1, d2] => { results := [.lit (.bool false)], args := [d1, d2] }
  | _ => none }
def ClientEditsWrongFalsely : Prop := clientEditsRow.holds Tryd.pinned (OpenSpec.ofChange clientEditsWrong)

/-- 'oxbowlaw20.ClientNext': WHATEVER THE INPUT: true; the input reads as it did. -/
def clientNextSpec : ChangeSpec := { name := "clientNext", fn := fun _ => fun
  | [d1, d2] => { results := [.lit (.bool true)], args := [d1, d2] }
  | _ => none }
def clientNextRow : OpenClaim := { program := "ytcdnlkhjlgaaoaadoor", sum := "6867b7cc9ad34f2592b695c807f37eebe36cf5f03e1468f705d2b2358d5737f6", func := "oxbow/oxbowlaw20.ClientNext", spec := "clientNext", inPlace := ["internal/abi.NoEscape"], unfollowed := true, recurses := true, named := ["unicode/utf8.first", "unicode/utf8.acceptRanges"], apart := false, laid := [("unicode/utf8.acceptRanges", laid_unicode_utf8_acceptRanges), ("unicode/utf8.first", laid_unicode_utf8_first)] }
def ClientNextSaid : Prop := clientNextRow.holds Tryd.pinned (OpenSpec.ofChange clientNextSpec)

/-- ITS FALSE NEIGHBOUR: 'it returns false'. Refute it at one input. -/
def clientNextWrong : ChangeSpec := { name := "clientNext", fn := fun _ => fun
  | [d1, d2] => { results := [.lit (.bool false)], args := [d1, d2] }
  | _ => none }
def ClientNextWrongFalsely : Prop := clientNextRow.holds Tryd.pinned (OpenSpec.ofChange clientNextWrong)

/-- 'oxbowlaw20.ClientSays': WHATEVER THE INPUT: true; the input reads as it did. -/
def clientSaysSpec : ChangeSpec := { name := "clientSays", fn := fun _ => fun
  | [d] => { results := [.lit (.bool true)], args := [d] }
  | _ => none }
def clientSaysRow : OpenClaim := { program := "ytcdnlkhjlgaaoaadoor", sum := "6867b7cc9ad34f2592b695c807f37eebe36cf5f03e1468f705d2b2358d5737f6", func := "oxbow/oxbowlaw20.ClientSays", spec := "clientSays", inPlace := ["internal/abi.NoEscape"], unfollowed := true, recurses := true, named := ["unicode/utf8.first", "unicode/utf8.acceptRanges"], apart := false, laid := [("unicode/utf8.acceptRanges", laid_unicode_utf8_acceptRanges), ("unicode/utf8.first", laid_unicode_utf8_first)] }
def ClientSaysSaid : Prop := clientSaysRow.holds Tryd.pinned (OpenSpec.ofChange clientSaysSpec)

/-- ITS FALSE NEIGHBOUR: 'it returns false'. Refute it at one input. -/
def clientSaysWrong : ChangeSpec := { name := "clientSays", fn := fun _ => fun
  | [d] => { results := [.lit (.bool false)], args := [d] }
  | _ => none }
def ClientSaysWrongFalsely : Prop := clientSaysRow.holds Tryd.pinned (OpenSpec.ofChange clientSaysWrong)

/-- 'oxbowlaw20.ClientBack': WHATEVER THE INPUT: true; the input reads as it did. -/
def clientBackSpec : ChangeSpec := { name := "clientBack", fn := fun _ => fun
  | [d1, d2] => { results := [.lit (.bool true)], args := [d1, d2] }
  | _ => none }
def clientBackRow : OpenClaim := { program := "ytcdnlkhjlgaaoaadoor", sum := "6867b7cc9ad34f2592b695c807f37eebe36cf5f03e1468f705d2b2358d5737f6", func := "oxbow/oxbowlaw20.ClientBack", spec := "clientBack", inPlace := ["internal/abi.NoEscape"], unfollowed := true, recurses := true, named := ["unicode/utf8.first", "unicode/utf8.acceptRanges"], apart := false, laid := [("unicode/utf8.acceptRanges", laid_unicode_utf8_acceptRanges), ("unicode/utf8.first", laid_unicode_utf8_first)] }
def ClientBackSaid : Prop := clientBackRow.holds Tryd.pinned (OpenSpec.ofChange clientBackSpec)

/-- ITS FALSE NEIGHBOUR: 'it returns false'. Refute it at one input. -/
def clientBackWrong : ChangeSpec := { name := "clientBack", fn := fun _ => fun
  | [d1, d2] => { results := [.lit (.bool false)], args := [d1, d2] }
  | _ => none }
def ClientBackWrongFalsely : Prop := clientBackRow.holds Tryd.pinned (OpenSpec.ofChange clientBackWrong)

/- THE SECOND FORM. 'bulk': how many values and letters a reading holds, each counted each time it is reached (what is shared counts as often as it is met; a slice's spare places count too). A statement '..UptoSaid' is the law's where the arguments, and the package variables that the reading takes, are together of bulk at most 1048576: NARROWER than '..Said'. Prove '..Said' where nothing that the law and all that it calls make is longer than what came in: it says more and counts as full. Else prove '..UptoSaid'. A law counts once. -/
mutual
def uptoBulk {H : Type} : DataW H → Nat
  | .lit (.string bytes) => bytes.length + 1
  | .lit _ => 1
  | .nil => 1
  | .ptr d => uptoBulk d + 1
  | .slice elems spare => uptoBulkAll elems + uptoBulkAll spare + 1
  | .agg parts => uptoBulkAll parts + 1
  | .iface _ d => uptoBulk d + 1
  | .map entries => uptoBulkEntries entries + 1
  | .held _ => 1
def uptoBulkAll {H : Type} : List (DataW H) → Nat
  | [] => 0
  | d :: r => uptoBulk d + uptoBulkAll r
def uptoBulkEntries {H : Type} : List (Lit × DataW H) → Nat
  | [] => 0
  | x :: r => uptoBulkEntry x + uptoBulkEntries r
def uptoBulkEntry {H : Type} : Lit × DataW H → Nat
  | (.string bytes, d) => bytes.length + uptoBulk d + 1
  | (_, d) => uptoBulk d + 1
 end
def uptoSmall : (H : Type) → List (DataW H) → Bool := fun _ ds => decide (uptoBulkAll ds ≤ 1048576)
def OpenSpec.upto (s : _root_.Go.ChangeSpec) : _root_.Go.OpenSpec := { _root_.Go.OpenSpec.ofChange s with cond := some uptoSmall }

/-- 'oxbowlaw20.ClientBegins', WHERE WHAT IT READS IS OF BULK AT MOST 1048576: true; the input reads as it did. -/
def clientBeginsUptoRow : OpenClaim := { program := "ytcdnlkhjlgaaoaadoor", sum := "6867b7cc9ad34f2592b695c807f37eebe36cf5f03e1468f705d2b2358d5737f6", func := "oxbow/oxbowlaw20.ClientBegins", spec := "clientBegins", inPlace := ["internal/abi.NoEscape"], unfollowed := true, recurses := true, named := ["unicode/utf8.first", "unicode/utf8.acceptRanges"], apart := false, laid := [("unicode/utf8.acceptRanges", laid_unicode_utf8_acceptRanges), ("unicode/utf8.first", laid_unicode_utf8_first)], narrowed := true }
def ClientBeginsUptoSaid : Prop := clientBeginsUptoRow.holds Tryd.pinned (OpenSpec.upto clientBeginsSpec)

/-- 'oxbowlaw20.ClientEdits', WHERE WHAT IT READS IS OF BULK AT MOST 1048576: true; the input reads as it did. -/
def clientEditsUptoRow : OpenClaim := { program := "ytcdnlkhjlgaaoaadoor", sum := "6867b7cc9ad34f2592b695c807f37eebe36cf5f03e1468f705d2b2358d5737f6", func := "oxbow/oxbowlaw20.ClientEdits", spec := "clientEdits", inPlace := ["internal/abi.NoEscape"], unfollowed := true, recurses := true, named := ["unicode/utf8.first", "unicode/utf8.acceptRanges"], apart := false, laid := [("unicode/utf8.acceptRanges", laid_unicode_utf8_acceptRanges), ("unicode/utf8.first", laid_unicode_utf8_first)], narrowed := true }
def ClientEditsUptoSaid : Prop := clientEditsUptoRow.holds Tryd.pinned (OpenSpec.upto clientEditsSpec)

/-- 'oxbowlaw20.ClientNext', WHERE WHAT IT READS IS OF BULK AT MOST 1048576: true; the input reads as it did. -/
def clientNextUptoRow : OpenClaim := { program := "ytcdnlkhjlgaaoaadoor", sum := "6867b7cc9ad34f2592b695c807f37eebe36cf5f03e1468f705d2b2358d5737f6", func := "oxbow/oxbowlaw20.ClientNext", spec := "clientNext", inPlace := ["internal/abi.NoEscape"], unfollowed := true, recurses := true, named := ["unicode/utf8.first", "unicode/utf8.acceptRanges"], apart := false, laid := [("unicode/utf8.acceptRanges", laid_unicode_utf8_acceptRanges), ("unicode/utf8.first", laid_unicode_utf8_first)], narrowed := true }
def ClientNextUptoSaid : Prop := clientNextUptoRow.holds Tryd.pinned (OpenSpec.upto clientNextSpec)

/-- 'oxbowlaw20.ClientSays', WHERE WHAT IT READS IS OF BULK AT MOST 1048576: true; the input reads as it did. -/
def clientSaysUptoRow : OpenClaim := { program := "ytcdnlkhjlgaaoaadoor", sum := "6867b7cc9ad34f2592b695c807f37eebe36cf5f03e1468f705d2b2358d5737f6", func := "oxbow/oxbowlaw20.ClientSays", spec := "clientSays", inPlace := ["internal/abi.NoEscape"], unfollowed := true, recurses := true, named := ["unicode/utf8.first", "unicode/utf8.acceptRanges"], apart := false, laid := [("unicode/utf8.acceptRanges", laid_unicode_utf8_acceptRanges), ("unicode/utf8.first", laid_unicode_utf8_first)], narrowed := true }
def ClientSaysUptoSaid : Prop := clientSaysUptoRow.holds Tryd.pinned (OpenSpec.upto clientSaysSpec)

/-- 'oxbowlaw20.ClientBack', WHERE WHAT IT READS IS OF BULK AT MOST 1048576: true; the input reads as it did. -/
def clientBackUptoRow : OpenClaim := { program := "ytcdnlkhjlgaaoaadoor", sum := "6867b7cc9ad34f2592b695c807f37eebe36cf5f03e1468f705d2b2358d5737f6", func := "oxbow/oxbowlaw20.ClientBack", spec := "clientBack", inPlace := ["internal/abi.NoEscape"], unfollowed := true, recurses := true, named := ["unicode/utf8.first", "unicode/utf8.acceptRanges"], apart := false, laid := [("unicode/utf8.acceptRanges", laid_unicode_utf8_acceptRanges), ("unicode/utf8.first", laid_unicode_utf8_first)], narrowed := true }
def ClientBackUptoSaid : Prop := clientBackUptoRow.holds Tryd.pinned (OpenSpec.upto clientBackSpec)

end Rows
end Go.Proofs.YtcdnlkhjlgaaoaaDoor
