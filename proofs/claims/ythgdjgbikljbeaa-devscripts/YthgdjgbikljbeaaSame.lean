/-
  same: two lists that hold the same are told to be.
-/
import Derived.Test.YthgdjgbikljbeaaLawA
import Derived.Deep.QuietTactic
import Derived.BigQuiet
namespace Go.Proofs.Ythgdjgbikljbeaa
open Go.RowKit Go.Maps

/-- At v lie the numbers l. -/
def RdN (w : World) (v : Value) (l : List Nat) : Prop :=
  ∃ ao cp, v = .slice ao l.length cp ∧ ∀ (i x : Nat), l[i]? = some x → ∃ g, ao = some ⟨g, 0, none⟩ ∧ g < w.heap.size ∧ w.cell? ⟨g, i, none⟩ = some (.int .i64 (x : Int))

theorem rdN_own {w : World} {base : Nat} {v : Value} {l : List Nat} (h : w.ownsRow base 3 1 v l.length (iv l)) : RdN w v l := by
  obtain ⟨ao, cp, rfl, hao⟩ := own_shape h
  refine ⟨ao, cp, rfl, fun i x hx => ?_⟩
  have hi := (List.getElem?_eq_some_iff.1 hx).1
  obtain ⟨g, rfl, _, hg, _, hc⟩ := hao (by omega)
  exact ⟨g, rfl, hg, by rw [hc i hi]; simp [iv, hx]⟩

theorem RdN.below {w w' : World} {v : Value} {l : List Nat} (h : RdN w v l) (hb : Below w.heap.size w w') : RdN w' v l := by
  obtain ⟨ao, cp, rfl, h⟩ := h
  refine ⟨ao, cp, rfl, fun i x hx => ?_⟩
  obtain ⟨g, rfl, hg, hc⟩ := h i x hx
  exact ⟨g, rfl, by have := hb.size; omega, by rw [hb.cell (p := ⟨g, i, none⟩) hg]; exact hc⟩

set_option maxRecDepth 20000 in
set_option maxHeartbeats 1000000 in
theorem same_true (v1 v2 : Value) (l : List Nat) (w : World) (h1 : RdN w v1 l) (h2 : RdN w v2 l) (hl : l.length ≤ 8192) :
    Calls Try.prog 28 #[v1, v2] w fun e w' => e = .returned (.bool true) ∧ Below w.heap.size w w' := by
  obtain ⟨ao1, cp1, rfl, h1⟩ := h1
  obtain ⟨ao2, cp2, rfl, h2⟩ := h2
  go_enter Try.func28, Try.ntmps28
  go_wp2_with fail
  go_loopw [5] (fun i wr => ∃ k : Nat, k ≤ l.length ∧ i = .int .i64 (k : Int) ∧ Below w.heap.size w wr) (fun i _ => l.length - (intOf i).toNat)
  case atStart => exact ⟨0, Nat.zero_le _, rfl, Below.refl _ _⟩
  case round =>
    obtain ⟨k, hk, rfl, hB⟩ := hrel
    by_cases hlt : k < l.length
    · have hlt' : (k : Int) < (l.length : Int) := by omega
      obtain ⟨g1, rfl, hg1, hc1⟩ := h1 k l[k] (by simp [hlt])
      obtain ⟨g2, rfl, hg2, hc2⟩ := h2 k l[k] (by simp [hlt])
      rw [← hB.cell (p := ⟨g1, k, none⟩) hg1] at hc1
      rw [← hB.cell (p := ⟨g2, k, none⟩) hg2] at hc2
      clear h1 h2
      generalize l[k] = y at hc1 hc2
      go_wp2_with fail
      go_quiet (fail)
      go_wp2_with fail
      go_roundw
      case rel => exact ⟨k + 1, by omega, by go_num, hB.trans ⟨rfl, rfl, rfl, Nat.le_refl _, fun _ _ => rfl⟩⟩
      case measure => simp [intOf]; omega
    · have hlt' : ¬ (k : Int) < (l.length : Int) := by omega
      clear h1 h2
      go_wp2_with fail
      go_ret
      exact ⟨rfl, hB⟩
end Go.Proofs.Ythgdjgbikljbeaa
