/-
  The contract of live, layer 12.
-/
import Derived.Test.YtjimolafoihnpaaDoorDpG
import Derived.Test.YtjimolafoihnpaaDoorLayV
import Derived.Shelf.Unicode.ValidAny
import Derived.Test.YtjimolafoihnpaaDoorCards
import Derived.Test.YtjimolafoihnpaaDoorTie
import Derived.Lib.LaidIn
import Derived.Lib.LaidU8T
import Derived.Deep.DeepHandedRow
import Derived.Deep.DeepWitnessRowRef
import Derived.ProofKit
import Derived.SizedLaws
namespace Go.Proofs.YtjimolafoihnpaaDoor
open Go.ChangeShapes Go.WideShapes Go.ChangeAt Go.RowKit Go.PlainAid

def lA : List OpD := [⟨2, 0, ⟨#[97, 98, 99]⟩⟩]
def dA : List RunD := [⟨0, 2, 0, ⟨#[97, 98, 99]⟩⟩]
def lB : List OpD := [⟨1, 1, ⟨#[]⟩⟩, ⟨2, 0, ⟨#[120]⟩⟩, ⟨3, 1, ⟨#[]⟩⟩, ⟨1, 1, ⟨#[]⟩⟩]
def dB : List RunD := [⟨0, 2, 0, ⟨#[97]⟩⟩, ⟨1, 1, 0, ⟨#[120]⟩⟩, ⟨0, 2, 2, ⟨#[99]⟩⟩]
theorem ck0 : ckG [] none [] = true := by decide
theorem ckA : ckG [] none dA = true := by decide
theorem ckB : ckG [] none dB = true := by decide
theorem chA : chk lA = 0 := by decide
theorem chB : chk lB = 0 := by decide
theorem stA : stR lA = [.ins ⟨#[97, 98, 99]⟩] := by rw [stR, if_pos chA]; rfl
theorem stB : stR lB = [.keep 1, .ins ⟨#[120]⟩, .rem 1, .keep 1] := by rw [stR, if_pos chB]; rfl
theorem lvA : dcE [] lA 0 2 = 0 ∧ dcL [] lA 0 2 = dA := by
  have h1 : bsum (stR lA) = num [] := by rw [stA]; decide
  have h2 : orM 0 2 = true ∧ ([] : List RunD).any (orQ 0 2) = false := ⟨by decide, rfl⟩
  refine ⟨by unfold dcE; rw [if_pos ck0, if_pos chA, if_pos h1, if_pos h2], ?_⟩
  unfold dcL
  rw [if_pos ck0, if_pos chA, if_pos h1, if_pos h2, stA]
  rfl
theorem lvB : dcE dA lB 1 1 = 0 ∧ dcL dA lB 1 1 = dB := by
  have h1 : bsum (stR lB) = num dA := by rw [stB]; decide
  have h2 : orM 1 1 = true ∧ dA.any (orQ 1 1) = false := ⟨by decide, by decide⟩
  refine ⟨by unfold dcE; rw [if_pos ckA, if_pos chB, if_pos h1, if_pos h2], ?_⟩
  unfold dcL
  rw [if_pos ckA, if_pos chB, if_pos h1, if_pos h2, stB]
  rfl
theorem lvAt : atR dB 2 = (0, 2, 2, true) := by
  have h : ckG [] none dB = true ∧ (0 : Int) ≤ 2 := ⟨ckB, by decide⟩
  unfold atR
  rw [if_pos h]
  decide
theorem lvT : mk (txB dB) = ⟨#[97, 120, 99]⟩ := by decide
theorem lvC : cpl ⟨#[97, 120, 99]⟩ = 3 := by decide
theorem inA : ∀ o ∈ lA, o.In := by
  intro o ho
  simp only [lA, List.mem_cons, List.not_mem_nil, or_false] at ho
  subst ho
  show ByteArray.size _ ≤ _
  decide
theorem inB : ∀ o ∈ lB, o.In := by
  intro o ho
  simp only [lB, List.mem_cons, List.not_mem_nil, or_false] at ho
  rcases ho with rfl | rfl | rfl | rfl <;> (show ByteArray.size _ ≤ _; decide)
theorem idA : ∀ r ∈ dA, r.In := by
  intro o ho
  simp only [dA, List.mem_cons, List.not_mem_nil, or_false] at ho
  subst ho
  show ByteArray.size _ ≤ _
  decide
theorem idB : ∀ r ∈ dB, r.In := by
  intro o ho
  simp only [dB, List.mem_cons, List.not_mem_nil, or_false] at ho
  rcases ho with rfl | rfl | rfl <;> (show ByteArray.size _ ≤ _; decide)

end Go.Proofs.YtjimolafoihnpaaDoor

/-
  The tables of unicode/utf8, laid; a world that holds them. No walk.
-/
namespace Go.Proofs.YtjimolafoihnpaaDoor
open Go.ChangeShapes Go.WideShapes Go.ChangeAt Go.RowKit Go.PlainAid Go.Lib Go.Shelf

def Tabs (w : World) : Prop := Lib.Utf8Tabs (Tryd.laysValid_ren.g 3) (Tryd.laysValid_ren.g 4) w
theorem vs_of {w : World} (h : Tabs w) : VS w := fun t W ht hb => Any.utf8_ValidString Tryd.laysValid t W (by omega) (Utf8Tabs_below h hb)

theorem first_eq : Rows.laid_unicode_utf8_first = Lib.firstData := by kernel_rfl
theorem accept_eq : (Rows.laid_unicode_utf8_acceptRanges : DataW Unit) = Lib.acceptData := by kernel_rfl
theorem tabs_of {W : World} (hL : laidMetH Tryd.prog [("unicode/utf8.acceptRanges", Rows.laid_unicode_utf8_acceptRanges), ("unicode/utf8.first", Rows.laid_unicode_utf8_first)] W) : Tabs W := by
  rw [first_eq, accept_eq] at hL
  exact utf8Tabs_of_readsT (U8Types.of196 Tryd.laysValid) ⟨by kernel_rfl, by kernel_rfl, by kernel_rfl, by kernel_rfl, by kernel_rfl, by kernel_rfl, by kernel_rfl⟩ (Lib.laidMet.reads hL (.tail _ (.head _))) (Lib.laidMet.reads hL (.head _))

/-- A world for the witness: the settled one, the two tables holding what is laid. -/
noncomputable def laidWorld (os : Os) : World :=
  let w0 := World.holding Tryd.prog os ⟨#[], #[], []⟩
  let put (h : Array Obj) (g : Nat) (cs : Array Value) : Array Obj := h.modify g fun
    | .cells _ t frozen => .cells cs t frozen
    | o => o
  let h1 := put w0.heap (Tryd.laysValid_ren.g 3) (Lib.firstTab.map fun z => Value.int .u8 z).toArray
  let h2 := put h1 (Tryd.laysValid_ren.g 4) ((List.range 16).flatMap fun i => [Value.int .u8 (Lib.accLo i), Value.int .u8 (Lib.accHi i)]).toArray
  { w0 with heap := h2 }
end Go.Proofs.YtjimolafoihnpaaDoor
