/-
  No cell of these rows narrows 'for every input' (looked for: loops, veiled, ifaces, maps, wideKeys, modest, calm, conditions, laid).
  DERIVED. THE GIVEN ROWS OF THIS SEAT. 6 by the template 'for every input the law returns true; each argument reads behind the call as it read before'; 0 by the template 'total and deterministic' (their statements: YtphbjbigjpfjfaaTotals.lean).
  GIVEN WITH THE SEED: the statements are not yours to turn. If you find one false, say at which input.
  Laid BY PROGRAM, IN A SANDBOX (cutbox-rows.mjs): the forced cells as the released guide's own fill.sh prints them over the translation 57c3f2816c7eb84f… (all of the seat's roots in one cut). By AI agents, Wed Nov 11 2026. No macro, syntax, notation, axiom, sorry.
-/
import Derived.Test.YtphbjbigjpfjfaaChecked
import GoSem.Claim
import GoSem.ClaimJoined
import GoSem.ClaimMapViews
import Derived.JoinedTies
import Derived.KernelRfl
namespace Go.Proofs.Ytphbjbigjpfjfaa
/- THE CELL 'sum', in the pinned program and in every row, IS THE sha256 OF THE DUMP (.gsa) THAT YtphbjbigjpfjfaaProg.lean LOADS. Nothing in Lean hashes anything: it is a label: what it is worth is what the hold of that sum in a sandbox is worth. -/
noncomputable def Try.pinned : Pinned := { name := "ytphbjbigjpfjfaa", sum := "57c3f2816c7eb84f9e178a876665054005f05ce5498c2aeecb6da00dc04e5b46", checked := Try.checked }
namespace Rows
def none {H : Type} : Left H := { results := [], args := [] }

/-- 'oxbowlaw10.OtComposes': WHATEVER THE INPUT: true; the input reads as it did. -/
def otComposesSpec : ChangeSpec := { name := "otComposes", fn := fun _ => fun
  | [d1, d2] => { results := [.lit (.bool true)], args := [d1, d2] }
  | _ => none }
def otComposesRow : OpenClaim := { program := "ytphbjbigjpfjfaa", sum := "57c3f2816c7eb84f9e178a876665054005f05ce5498c2aeecb6da00dc04e5b46", func := "oxbow/oxbowlaw10.OtComposes", spec := "otComposes", unfollowed := true, recurses := true, apart := false }
def OtComposesSaid : Prop := otComposesRow.holds Try.pinned (OpenSpec.ofChange otComposesSpec)

/-- ITS FALSE NEIGHBOUR: 'it returns false'. Refute it at one input. -/
def otComposesWrong : ChangeSpec := { name := "otComposes", fn := fun _ => fun
  | [d1, d2] => { results := [.lit (.bool false)], args := [d1, d2] }
  | _ => none }
def OtComposesWrongFalsely : Prop := otComposesRow.holds Try.pinned (OpenSpec.ofChange otComposesWrong)

/-- 'oxbowlaw10.OtTransforms': WHATEVER THE INPUT: true; the input reads as it did. -/
def otTransformsSpec : ChangeSpec := { name := "otTransforms", fn := fun _ => fun
  | [d1, d2, d3] => { results := [.lit (.bool true)], args := [d1, d2, d3] }
  | _ => none }
def otTransformsRow : OpenClaim := { program := "ytphbjbigjpfjfaa", sum := "57c3f2816c7eb84f9e178a876665054005f05ce5498c2aeecb6da00dc04e5b46", func := "oxbow/oxbowlaw10.OtTransforms", spec := "otTransforms", unfollowed := true, recurses := true, apart := false }
def OtTransformsSaid : Prop := otTransformsRow.holds Try.pinned (OpenSpec.ofChange otTransformsSpec)

/-- ITS FALSE NEIGHBOUR: 'it returns false'. Refute it at one input. -/
def otTransformsWrong : ChangeSpec := { name := "otTransforms", fn := fun _ => fun
  | [d1, d2, d3] => { results := [.lit (.bool false)], args := [d1, d2, d3] }
  | _ => none }
def OtTransformsWrongFalsely : Prop := otTransformsRow.holds Try.pinned (OpenSpec.ofChange otTransformsWrong)

/-- 'oxbowlaw10.OtInverts': WHATEVER THE INPUT: true; the input reads as it did. -/
def otInvertsSpec : ChangeSpec := { name := "otInverts", fn := fun _ => fun
  | [d1, d2] => { results := [.lit (.bool true)], args := [d1, d2] }
  | _ => none }
def otInvertsRow : OpenClaim := { program := "ytphbjbigjpfjfaa", sum := "57c3f2816c7eb84f9e178a876665054005f05ce5498c2aeecb6da00dc04e5b46", func := "oxbow/oxbowlaw10.OtInverts", spec := "otInverts", unfollowed := true, recurses := true, apart := false }
def OtInvertsSaid : Prop := otInvertsRow.holds Try.pinned (OpenSpec.ofChange otInvertsSpec)

/-- ITS FALSE NEIGHBOUR: 'it returns false'. Refute it at one input. -/
def otInvertsWrong : ChangeSpec := { name := "otInverts", fn := fun _ => fun
  | [d1, d2] => { results := [.lit (.bool false)], args := [d1, d2] }
  | _ => none }
def OtInvertsWrongFalsely : Prop := otInvertsRow.holds Try.pinned (OpenSpec.ofChange otInvertsWrong)

/-- 'oxbowlaw10.OtMeets': WHATEVER THE INPUT: true; the input reads as it did. -/
def otMeetsSpec : ChangeSpec := { name := "otMeets", fn := fun _ => fun
  | [d1, d2, d3] => { results := [.lit (.bool true)], args := [d1, d2, d3] }
  | _ => none }
def otMeetsRow : OpenClaim := { program := "ytphbjbigjpfjfaa", sum := "57c3f2816c7eb84f9e178a876665054005f05ce5498c2aeecb6da00dc04e5b46", func := "oxbow/oxbowlaw10.OtMeets", spec := "otMeets", unfollowed := true, recurses := true, apart := false }
def OtMeetsSaid : Prop := otMeetsRow.holds Try.pinned (OpenSpec.ofChange otMeetsSpec)

/-- ITS FALSE NEIGHBOUR: 'it returns false'. Refute it at one input. -/
def otMeetsWrong : ChangeSpec := { name := "otMeets", fn := fun _ => fun
  | [d1, d2, d3] => { results := [.lit (.bool false)], args := [d1, d2, d3] }
  | _ => none }
def OtMeetsWrongFalsely : Prop := otMeetsRow.holds Try.pinned (OpenSpec.ofChange otMeetsWrong)

/-- 'oxbowlaw10.OtJoins': WHATEVER THE INPUT: true; the input reads as it did. -/
def otJoinsSpec : ChangeSpec := { name := "otJoins", fn := fun _ => fun
  | [d1, d2, d3] => { results := [.lit (.bool true)], args := [d1, d2, d3] }
  | _ => none }
def otJoinsRow : OpenClaim := { program := "ytphbjbigjpfjfaa", sum := "57c3f2816c7eb84f9e178a876665054005f05ce5498c2aeecb6da00dc04e5b46", func := "oxbow/oxbowlaw10.OtJoins", spec := "otJoins", unfollowed := true, recurses := true, apart := false }
def OtJoinsSaid : Prop := otJoinsRow.holds Try.pinned (OpenSpec.ofChange otJoinsSpec)

/-- ITS FALSE NEIGHBOUR: 'it returns false'. Refute it at one input. -/
def otJoinsWrong : ChangeSpec := { name := "otJoins", fn := fun _ => fun
  | [d1, d2, d3] => { results := [.lit (.bool false)], args := [d1, d2, d3] }
  | _ => none }
def OtJoinsWrongFalsely : Prop := otJoinsRow.holds Try.pinned (OpenSpec.ofChange otJoinsWrong)

/-- 'oxbowlaw10.OtDoes': WHATEVER THE INPUT: true; the input reads as it did. -/
def otDoesSpec : ChangeSpec := { name := "otDoes", fn := fun _ => fun
  | [d1, d2, d3] => { results := [.lit (.bool true)], args := [d1, d2, d3] }
  | _ => none }
def otDoesRow : OpenClaim := { program := "ytphbjbigjpfjfaa", sum := "57c3f2816c7eb84f9e178a876665054005f05ce5498c2aeecb6da00dc04e5b46", func := "oxbow/oxbowlaw10.OtDoes", spec := "otDoes", unfollowed := true, recurses := true, apart := false }
def OtDoesSaid : Prop := otDoesRow.holds Try.pinned (OpenSpec.ofChange otDoesSpec)

/-- ITS FALSE NEIGHBOUR: 'it returns false'. Refute it at one input. -/
def otDoesWrong : ChangeSpec := { name := "otDoes", fn := fun _ => fun
  | [d1, d2, d3] => { results := [.lit (.bool false)], args := [d1, d2, d3] }
  | _ => none }
def OtDoesWrongFalsely : Prop := otDoesRow.holds Try.pinned (OpenSpec.ofChange otDoesWrong)

/- THE SECOND FORM. 'bulk': how many values and letters a reading holds, each counted each time it is reached (what is shared counts as often as it is met; a slice's spare places count too). A statement '..UptoSaid' is the law's where the arguments, and the package variables that the reading takes, are together of bulk at most 1048576: NARROWER than '..Said'. Prove '..Said' where nothing that the law and all that it calls make is longer than what came in: it says more and counts as full. Else prove '..UptoSaid'. A law counts once. -/
mutual
def uptoBulk {H : Type} : DataW H → Nat
  | .lit (.string bytes) => bytes.length + 1
  | .lit _ => 1
  | .nil => 1
  | .ptr d => uptoBulk d + 1
  | .slice elems spare => uptoBulkAll elems + uptoBulkAll spare + 1
  | .agg parts => uptoBulkAll parts + 1
  | .iface _ d => uptoBulk d + 1
  | .map entries => uptoBulkEntries entries + 1
  | .held _ => 1
def uptoBulkAll {H : Type} : List (DataW H) → Nat
  | [] => 0
  | d :: r => uptoBulk d + uptoBulkAll r
def uptoBulkEntries {H : Type} : List (Lit × DataW H) → Nat
  | [] => 0
  | x :: r => uptoBulkEntry x + uptoBulkEntries r
def uptoBulkEntry {H : Type} : Lit × DataW H → Nat
  | (.string bytes, d) => bytes.length + uptoBulk d + 1
  | (_, d) => uptoBulk d + 1
 end
def uptoSmall : (H : Type) → List (DataW H) → Bool := fun _ ds => decide (uptoBulkAll ds ≤ 1048576)
def OpenSpec.upto (s : _root_.Go.ChangeSpec) : _root_.Go.OpenSpec := { _root_.Go.OpenSpec.ofChange s with cond := some uptoSmall }

/-- 'oxbowlaw10.OtComposes', WHERE WHAT IT READS IS OF BULK AT MOST 1048576: true; the input reads as it did. -/
def otComposesUptoRow : OpenClaim := { program := "ytphbjbigjpfjfaa", sum := "57c3f2816c7eb84f9e178a876665054005f05ce5498c2aeecb6da00dc04e5b46", func := "oxbow/oxbowlaw10.OtComposes", spec := "otComposes", unfollowed := true, recurses := true, apart := false, narrowed := true }
def OtComposesUptoSaid : Prop := otComposesUptoRow.holds Try.pinned (OpenSpec.upto otComposesSpec)

/-- 'oxbowlaw10.OtTransforms', WHERE WHAT IT READS IS OF BULK AT MOST 1048576: true; the input reads as it did. -/
def otTransformsUptoRow : OpenClaim := { program := "ytphbjbigjpfjfaa", sum := "57c3f2816c7eb84f9e178a876665054005f05ce5498c2aeecb6da00dc04e5b46", func := "oxbow/oxbowlaw10.OtTransforms", spec := "otTransforms", unfollowed := true, recurses := true, apart := false, narrowed := true }
def OtTransformsUptoSaid : Prop := otTransformsUptoRow.holds Try.pinned (OpenSpec.upto otTransformsSpec)

/-- 'oxbowlaw10.OtInverts', WHERE WHAT IT READS IS OF BULK AT MOST 1048576: true; the input reads as it did. -/
def otInvertsUptoRow : OpenClaim := { program := "ytphbjbigjpfjfaa", sum := "57c3f2816c7eb84f9e178a876665054005f05ce5498c2aeecb6da00dc04e5b46", func := "oxbow/oxbowlaw10.OtInverts", spec := "otInverts", unfollowed := true, recurses := true, apart := false, narrowed := true }
def OtInvertsUptoSaid : Prop := otInvertsUptoRow.holds Try.pinned (OpenSpec.upto otInvertsSpec)

/-- 'oxbowlaw10.OtMeets', WHERE WHAT IT READS IS OF BULK AT MOST 1048576: true; the input reads as it did. -/
def otMeetsUptoRow : OpenClaim := { program := "ytphbjbigjpfjfaa", sum := "57c3f2816c7eb84f9e178a876665054005f05ce5498c2aeecb6da00dc04e5b46", func := "oxbow/oxbowlaw10.OtMeets", spec := "otMeets", unfollowed := true, recurses := true, apart := false, narrowed := true }
def OtMeetsUptoSaid : Prop := otMeetsUptoRow.holds Try.pinned (OpenSpec.upto otMeetsSpec)

/-- 'oxbowlaw10.OtJoins', WHERE WHAT IT READS IS OF BULK AT MOST 1048576: true; the input reads as it did. -/
def otJoinsUptoRow : OpenClaim := { program := "ytphbjbigjpfjfaa", sum := "57c3f2816c7eb84f9e178a876665054005f05ce5498c2aeecb6da00dc04e5b46", func := "oxbow/oxbowlaw10.OtJoins", spec := "otJoins", unfollowed := true, recurses := true, apart := false, narrowed := true }
def OtJoinsUptoSaid : Prop := otJoinsUptoRow.holds Try.pinned (OpenSpec.upto otJoinsSpec)

/-- 'oxbowlaw10.OtDoes', WHERE WHAT IT READS IS OF BULK AT MOST 1048576: true; the input reads as it did. -/
def otDoesUptoRow : OpenClaim := { program := "ytphbjbigjpfjfaa", sum := "57c3f2816c7eb84f9e178a876665054005f05ce5498c2aeecb6da00dc04e5b46", func := "oxbow/oxbowlaw10.OtDoes", spec := "otDoes", unfollowed := true, recurses := true, apart := false, narrowed := true }
def OtDoesUptoSaid : Prop := otDoesUptoRow.holds Try.pinned (OpenSpec.upto otDoesSpec)

end Rows
end Go.Proofs.Ytphbjbigjpfjfaa
