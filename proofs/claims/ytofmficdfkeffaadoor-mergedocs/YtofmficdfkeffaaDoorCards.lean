/-
  DERIVED. GIVEN WITH THE SEED: THE CARDS: each row of YtofmficdfkeffaaDoorRows.lean that lists a variable, with what it lists TIED to the program's text (the seventh form; the later family's looks); each row that meets fmt, with fmt's text TOLD by the authors' own Lean function (tested against real Go, not proved from fmt's source: count such statements apart). THE CARD IS WHAT COUNTS. Prove the row's statement (the work); the ties are given (YtofmficdfkeffaaDoorTie.lean); close each card by the builder's one call (the guide's Derived/Test/ToyasCard.lean, 'card_holds'). Laid BY PROGRAM, IN A SANDBOX (cutbox-door.mjs). By AI agents, Wed Nov 11 2026. No macro, syntax, notation, axiom, sorry.
-/
import Derived.Test.YtofmficdfkeffaaDoorRows
import GoSem.ClaimSeven
namespace Go.Proofs.YtofmficdfkeffaaDoor
namespace Rows

/-- THE TIED CARD OF 'oxbowlaw14.MergeDocs'. -/
def mergeDocsCard : Claim7 := { stood := { row := mergeDocsRow, standIns := [], harness := (true, "27b0cdc5e06f0389f5b8e9cd76f19f350f039caea5d4000cdd610be508da9578"), looks := true }, kinds := [], alts := [], laidByText := true, laidKinds := [.data, .pinned], laidTests := true, laidLooks := .later }
def MergeDocsCardSaid : Prop := Claim7.holds Tryd.pinned (.plain (OpenSpec.ofChange mergeDocsSpec)) mergeDocsCard

/-- THE TIED CARD OF 'oxbowlaw14.MergeDeltas'. -/
def mergeDeltasCard : Claim7 := { stood := { row := mergeDeltasRow, standIns := [], harness := (true, "27b0cdc5e06f0389f5b8e9cd76f19f350f039caea5d4000cdd610be508da9578"), looks := true }, kinds := [], alts := [], laidByText := true, laidKinds := [.data, .pinned], laidTests := true, laidLooks := .later }
def MergeDeltasCardSaid : Prop := Claim7.holds Tryd.pinned (.plain (OpenSpec.ofChange mergeDeltasSpec)) mergeDeltasCard

/-- THE TIED CARD OF 'oxbowlaw14.MergeEven'. -/
def mergeEvenCard : Claim7 := { stood := { row := mergeEvenRow, standIns := [], harness := (true, "27b0cdc5e06f0389f5b8e9cd76f19f350f039caea5d4000cdd610be508da9578"), looks := true }, kinds := [], alts := [], laidByText := true, laidKinds := [.data, .pinned], laidTests := true, laidLooks := .later }
def MergeEvenCardSaid : Prop := Claim7.holds Tryd.pinned (.plain (OpenSpec.ofChange mergeEvenSpec)) mergeEvenCard

/-- THE TIED CARD OF 'oxbowlaw14.MergeAlone'. -/
def mergeAloneCard : Claim7 := { stood := { row := mergeAloneRow, standIns := [], harness := (true, "27b0cdc5e06f0389f5b8e9cd76f19f350f039caea5d4000cdd610be508da9578"), looks := true }, kinds := [], alts := [], laidByText := true, laidKinds := [.data, .pinned], laidTests := true, laidLooks := .later }
def MergeAloneCardSaid : Prop := Claim7.holds Tryd.pinned (.plain (OpenSpec.ofChange mergeAloneSpec)) mergeAloneCard

/-- THE TIED CARD OF 'oxbowlaw14.MergeAtoms'. -/
def mergeAtomsCard : Claim7 := { stood := { row := mergeAtomsRow, standIns := [], harness := (true, "27b0cdc5e06f0389f5b8e9cd76f19f350f039caea5d4000cdd610be508da9578"), looks := true }, kinds := [], alts := [], laidByText := true, laidKinds := [.data, .pinned], laidTests := true, laidLooks := .later }
def MergeAtomsCardSaid : Prop := Claim7.holds Tryd.pinned (.plain (OpenSpec.ofChange mergeAtomsSpec)) mergeAtomsCard

/-- THE TIED CARD OF 'oxbowlaw14.MergeLeads'. -/
def mergeLeadsCard : Claim7 := { stood := { row := mergeLeadsRow, standIns := [], harness := (true, "27b0cdc5e06f0389f5b8e9cd76f19f350f039caea5d4000cdd610be508da9578"), looks := true }, kinds := [], alts := [], laidByText := true, laidKinds := [.data, .pinned], laidTests := true, laidLooks := .later }
def MergeLeadsCardSaid : Prop := Claim7.holds Tryd.pinned (.plain (OpenSpec.ofChange mergeLeadsSpec)) mergeLeadsCard

/-- THE SECOND FORM's CARD OF 'oxbowlaw14.MergeDocs'. -/
def mergeDocsUptoCard : Claim7 := { stood := { row := mergeDocsUptoRow, standIns := [], harness := (true, "27b0cdc5e06f0389f5b8e9cd76f19f350f039caea5d4000cdd610be508da9578"), looks := true }, kinds := [], alts := [], laidByText := true, laidKinds := [.data, .pinned], laidTests := true, laidLooks := .later }
def MergeDocsUptoCardSaid : Prop := Claim7.holds Tryd.pinned (.plain (OpenSpec.upto mergeDocsSpec)) mergeDocsUptoCard

/-- THE SECOND FORM's CARD OF 'oxbowlaw14.MergeDeltas'. -/
def mergeDeltasUptoCard : Claim7 := { stood := { row := mergeDeltasUptoRow, standIns := [], harness := (true, "27b0cdc5e06f0389f5b8e9cd76f19f350f039caea5d4000cdd610be508da9578"), looks := true }, kinds := [], alts := [], laidByText := true, laidKinds := [.data, .pinned], laidTests := true, laidLooks := .later }
def MergeDeltasUptoCardSaid : Prop := Claim7.holds Tryd.pinned (.plain (OpenSpec.upto mergeDeltasSpec)) mergeDeltasUptoCard

/-- THE SECOND FORM's CARD OF 'oxbowlaw14.MergeEven'. -/
def mergeEvenUptoCard : Claim7 := { stood := { row := mergeEvenUptoRow, standIns := [], harness := (true, "27b0cdc5e06f0389f5b8e9cd76f19f350f039caea5d4000cdd610be508da9578"), looks := true }, kinds := [], alts := [], laidByText := true, laidKinds := [.data, .pinned], laidTests := true, laidLooks := .later }
def MergeEvenUptoCardSaid : Prop := Claim7.holds Tryd.pinned (.plain (OpenSpec.upto mergeEvenSpec)) mergeEvenUptoCard

/-- THE SECOND FORM's CARD OF 'oxbowlaw14.MergeAlone'. -/
def mergeAloneUptoCard : Claim7 := { stood := { row := mergeAloneUptoRow, standIns := [], harness := (true, "27b0cdc5e06f0389f5b8e9cd76f19f350f039caea5d4000cdd610be508da9578"), looks := true }, kinds := [], alts := [], laidByText := true, laidKinds := [.data, .pinned], laidTests := true, laidLooks := .later }
def MergeAloneUptoCardSaid : Prop := Claim7.holds Tryd.pinned (.plain (OpenSpec.upto mergeAloneSpec)) mergeAloneUptoCard

/-- THE SECOND FORM's CARD OF 'oxbowlaw14.MergeAtoms'. -/
def mergeAtomsUptoCard : Claim7 := { stood := { row := mergeAtomsUptoRow, standIns := [], harness := (true, "27b0cdc5e06f0389f5b8e9cd76f19f350f039caea5d4000cdd610be508da9578"), looks := true }, kinds := [], alts := [], laidByText := true, laidKinds := [.data, .pinned], laidTests := true, laidLooks := .later }
def MergeAtomsUptoCardSaid : Prop := Claim7.holds Tryd.pinned (.plain (OpenSpec.upto mergeAtomsSpec)) mergeAtomsUptoCard

/-- THE SECOND FORM's CARD OF 'oxbowlaw14.MergeLeads'. -/
def mergeLeadsUptoCard : Claim7 := { stood := { row := mergeLeadsUptoRow, standIns := [], harness := (true, "27b0cdc5e06f0389f5b8e9cd76f19f350f039caea5d4000cdd610be508da9578"), looks := true }, kinds := [], alts := [], laidByText := true, laidKinds := [.data, .pinned], laidTests := true, laidLooks := .later }
def MergeLeadsUptoCardSaid : Prop := Claim7.holds Tryd.pinned (.plain (OpenSpec.upto mergeLeadsSpec)) mergeLeadsUptoCard
end Rows
end Go.Proofs.YtofmficdfkeffaaDoor
