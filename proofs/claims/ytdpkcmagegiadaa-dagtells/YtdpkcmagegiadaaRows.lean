/-
  No cell of these rows narrows 'for every input' (looked for: loops, veiled, ifaces, maps, wideKeys, modest, calm, conditions, laid).
  DERIVED. THE GIVEN ROWS OF THIS SEAT. 4 by the template 'for every input the law returns true; each argument reads behind the call as it read before'; 0 by the template 'total and deterministic' (their statements: YtdpkcmagegiadaaTotals.lean).
  GIVEN WITH THE SEED: the statements are not yours to turn. If you find one false, say at which input.
  Laid BY PROGRAM, IN A SANDBOX (cutbox-rows.mjs): the forced cells as the released guide's own fill.sh prints them over the translation bf56e7af7a83debf… (all of the seat's roots in one cut). By AI agents, Wed Nov 11 2026. No macro, syntax, notation, axiom, sorry.
-/
import Derived.Test.YtdpkcmagegiadaaChecked
import GoSem.Claim
import GoSem.ClaimJoined
import GoSem.ClaimMapViews
import Derived.JoinedTies
import Derived.KernelRfl
namespace Go.Proofs.Ytdpkcmagegiadaa
/- THE CELL 'sum', in the pinned program and in every row, IS THE sha256 OF THE DUMP (.gsa) THAT YtdpkcmagegiadaaProg.lean LOADS. Nothing in Lean hashes anything: it is a label: what it is worth is what the hold of that sum in a sandbox is worth. -/
noncomputable def Try.pinned : Pinned := { name := "ytdpkcmagegiadaa", sum := "bf56e7af7a83debf5005c817eecc3d6a657709938044b7fc5fccf64c160bba68", checked := Try.checked }
namespace Rows
def none {H : Type} : Left H := { results := [], args := [] }

/-- 'oxbowlaw13.DagTells': WHATEVER THE INPUT: true; the input reads as it did. -/
def dagTellsSpec : ChangeSpec := { name := "dagTells", fn := fun _ => fun
  | [d1, d2, d3] => { results := [.lit (.bool true)], args := [d1, d2, d3] }
  | _ => none }
def dagTellsRow : OpenClaim := { program := "ytdpkcmagegiadaa", sum := "bf56e7af7a83debf5005c817eecc3d6a657709938044b7fc5fccf64c160bba68", func := "oxbow/oxbowlaw13.DagTells", spec := "dagTells", unfollowed := true, recurses := true, apart := false }
def DagTellsSaid : Prop := dagTellsRow.holds Try.pinned (OpenSpec.ofChange dagTellsSpec)

/-- ITS FALSE NEIGHBOUR: 'it returns false'. Refute it at one input. -/
def dagTellsWrong : ChangeSpec := { name := "dagTells", fn := fun _ => fun
  | [d1, d2, d3] => { results := [.lit (.bool false)], args := [d1, d2, d3] }
  | _ => none }
def DagTellsWrongFalsely : Prop := dagTellsRow.holds Try.pinned (OpenSpec.ofChange dagTellsWrong)

/-- 'oxbowlaw13.DagEven': WHATEVER THE INPUT: true; the input reads as it did. -/
def dagEvenSpec : ChangeSpec := { name := "dagEven", fn := fun _ => fun
  | [d1, d2, d3] => { results := [.lit (.bool true)], args := [d1, d2, d3] }
  | _ => none }
def dagEvenRow : OpenClaim := { program := "ytdpkcmagegiadaa", sum := "bf56e7af7a83debf5005c817eecc3d6a657709938044b7fc5fccf64c160bba68", func := "oxbow/oxbowlaw13.DagEven", spec := "dagEven", unfollowed := true, recurses := true, apart := false }
def DagEvenSaid : Prop := dagEvenRow.holds Try.pinned (OpenSpec.ofChange dagEvenSpec)

/-- ITS FALSE NEIGHBOUR: 'it returns false'. Refute it at one input. -/
def dagEvenWrong : ChangeSpec := { name := "dagEven", fn := fun _ => fun
  | [d1, d2, d3] => { results := [.lit (.bool false)], args := [d1, d2, d3] }
  | _ => none }
def DagEvenWrongFalsely : Prop := dagEvenRow.holds Try.pinned (OpenSpec.ofChange dagEvenWrong)

/-- 'oxbowlaw13.DagCovers': WHATEVER THE INPUT: true; the input reads as it did. -/
def dagCoversSpec : ChangeSpec := { name := "dagCovers", fn := fun _ => fun
  | [d1, d2, d3] => { results := [.lit (.bool true)], args := [d1, d2, d3] }
  | _ => none }
def dagCoversRow : OpenClaim := { program := "ytdpkcmagegiadaa", sum := "bf56e7af7a83debf5005c817eecc3d6a657709938044b7fc5fccf64c160bba68", func := "oxbow/oxbowlaw13.DagCovers", spec := "dagCovers", unfollowed := true, recurses := true, apart := false }
def DagCoversSaid : Prop := dagCoversRow.holds Try.pinned (OpenSpec.ofChange dagCoversSpec)

/-- ITS FALSE NEIGHBOUR: 'it returns false'. Refute it at one input. -/
def dagCoversWrong : ChangeSpec := { name := "dagCovers", fn := fun _ => fun
  | [d1, d2, d3] => { results := [.lit (.bool false)], args := [d1, d2, d3] }
  | _ => none }
def DagCoversWrongFalsely : Prop := dagCoversRow.holds Try.pinned (OpenSpec.ofChange dagCoversWrong)

/-- 'oxbowlaw13.DagGrows': WHATEVER THE INPUT: true; the input reads as it did. -/
def dagGrowsSpec : ChangeSpec := { name := "dagGrows", fn := fun _ => fun
  | [d1, d2, d3] => { results := [.lit (.bool true)], args := [d1, d2, d3] }
  | _ => none }
def dagGrowsRow : OpenClaim := { program := "ytdpkcmagegiadaa", sum := "bf56e7af7a83debf5005c817eecc3d6a657709938044b7fc5fccf64c160bba68", func := "oxbow/oxbowlaw13.DagGrows", spec := "dagGrows", unfollowed := true, recurses := true, apart := false }
def DagGrowsSaid : Prop := dagGrowsRow.holds Try.pinned (OpenSpec.ofChange dagGrowsSpec)

/-- ITS FALSE NEIGHBOUR: 'it returns false'. Refute it at one input. -/
def dagGrowsWrong : ChangeSpec := { name := "dagGrows", fn := fun _ => fun
  | [d1, d2, d3] => { results := [.lit (.bool false)], args := [d1, d2, d3] }
  | _ => none }
def DagGrowsWrongFalsely : Prop := dagGrowsRow.holds Try.pinned (OpenSpec.ofChange dagGrowsWrong)

/- THE SECOND FORM. 'bulk': how many values and letters a reading holds, each counted each time it is reached (what is shared counts as often as it is met; a slice's spare places count too). A statement '..UptoSaid' is the law's where the arguments, and the package variables that the reading takes, are together of bulk at most 1048576: NARROWER than '..Said'. Prove '..Said' where nothing that the law and all that it calls make is longer than what came in: it says more and counts as full. Else prove '..UptoSaid'. A law counts once. -/
mutual
def uptoBulk {H : Type} : DataW H → Nat
  | .lit (.string bytes) => bytes.length + 1
  | .lit _ => 1
  | .nil => 1
  | .ptr d => uptoBulk d + 1
  | .slice elems spare => uptoBulkAll elems + uptoBulkAll spare + 1
  | .agg parts => uptoBulkAll parts + 1
  | .iface _ d => uptoBulk d + 1
  | .map entries => uptoBulkEntries entries + 1
  | .held _ => 1
def uptoBulkAll {H : Type} : List (DataW H) → Nat
  | [] => 0
  | d :: r => uptoBulk d + uptoBulkAll r
def uptoBulkEntries {H : Type} : List (Lit × DataW H) → Nat
  | [] => 0
  | x :: r => uptoBulkEntry x + uptoBulkEntries r
def uptoBulkEntry {H : Type} : Lit × DataW H → Nat
  | (.string bytes, d) => bytes.length + uptoBulk d + 1
  | (_, d) => uptoBulk d + 1
 end
def uptoSmall : (H : Type) → List (DataW H) → Bool := fun _ ds => decide (uptoBulkAll ds ≤ 1048576)
def OpenSpec.upto (s : _root_.Go.ChangeSpec) : _root_.Go.OpenSpec := { _root_.Go.OpenSpec.ofChange s with cond := some uptoSmall }

/-- 'oxbowlaw13.DagTells', WHERE WHAT IT READS IS OF BULK AT MOST 1048576: true; the input reads as it did. -/
def dagTellsUptoRow : OpenClaim := { program := "ytdpkcmagegiadaa", sum := "bf56e7af7a83debf5005c817eecc3d6a657709938044b7fc5fccf64c160bba68", func := "oxbow/oxbowlaw13.DagTells", spec := "dagTells", unfollowed := true, recurses := true, apart := false, narrowed := true }
def DagTellsUptoSaid : Prop := dagTellsUptoRow.holds Try.pinned (OpenSpec.upto dagTellsSpec)

/-- 'oxbowlaw13.DagEven', WHERE WHAT IT READS IS OF BULK AT MOST 1048576: true; the input reads as it did. -/
def dagEvenUptoRow : OpenClaim := { program := "ytdpkcmagegiadaa", sum := "bf56e7af7a83debf5005c817eecc3d6a657709938044b7fc5fccf64c160bba68", func := "oxbow/oxbowlaw13.DagEven", spec := "dagEven", unfollowed := true, recurses := true, apart := false, narrowed := true }
def DagEvenUptoSaid : Prop := dagEvenUptoRow.holds Try.pinned (OpenSpec.upto dagEvenSpec)

/-- 'oxbowlaw13.DagCovers', WHERE WHAT IT READS IS OF BULK AT MOST 1048576: true; the input reads as it did. -/
def dagCoversUptoRow : OpenClaim := { program := "ytdpkcmagegiadaa", sum := "bf56e7af7a83debf5005c817eecc3d6a657709938044b7fc5fccf64c160bba68", func := "oxbow/oxbowlaw13.DagCovers", spec := "dagCovers", unfollowed := true, recurses := true, apart := false, narrowed := true }
def DagCoversUptoSaid : Prop := dagCoversUptoRow.holds Try.pinned (OpenSpec.upto dagCoversSpec)

/-- 'oxbowlaw13.DagGrows', WHERE WHAT IT READS IS OF BULK AT MOST 1048576: true; the input reads as it did. -/
def dagGrowsUptoRow : OpenClaim := { program := "ytdpkcmagegiadaa", sum := "bf56e7af7a83debf5005c817eecc3d6a657709938044b7fc5fccf64c160bba68", func := "oxbow/oxbowlaw13.DagGrows", spec := "dagGrows", unfollowed := true, recurses := true, apart := false, narrowed := true }
def DagGrowsUptoSaid : Prop := dagGrowsUptoRow.holds Try.pinned (OpenSpec.upto dagGrowsSpec)

end Rows
end Go.Proofs.Ytdpkcmagegiadaa
