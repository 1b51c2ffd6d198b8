/-
  The longest common length; a table of numbers in the world.
-/
import Derived.Test.YtfhbkaiioiihjaaDoorDlK
import Derived.Laws.CopyRow
namespace Go.Proofs.YtfhbkaiioiihjaaDoor
open Go.ChangeShapes Go.WideShapes Go.ChangeAt Go.RowKit Go.PlainAid

/-- How many code points two rows have in common. -/
def lc : List Int → List Int → Nat
  | [], _ => 0
  | _ :: _, [] => 0
  | x :: a, y :: b => if x = y then lc a b + 1 else max (lc a (y :: b)) (lc (x :: a) b)
termination_by a b => a.length + b.length
theorem lc_nil (a : List Int) : lc a [] = 0 := by cases a <;> simp [lc]
theorem lc_nil' (b : List Int) : lc [] b = 0 := by simp [lc]
theorem lc_eq (x : Int) (a b : List Int) : lc (x :: a) (x :: b) = lc a b + 1 := by rw [lc]; simp
theorem lc_ne {x y : Int} (h : y ≠ x) (a b : List Int) : lc (x :: a) (y :: b) = max (lc a (y :: b)) (lc (x :: a) b) := by rw [lc, if_neg (fun e => h e.symm)]
theorem lc_le (a b : List Int) : lc a b ≤ b.length := by
  induction a, b using lc.induct with
  | case1 b => simp [lc]
  | case2 x a => simp [lc]
  | case3 a x b ih => rw [lc_eq]; simp; omega
  | case4 x a y b h ih1 ih2 => rw [lc_ne (fun e => h e.symm)]; simp at ih1 ⊢; omega

/-- A table's cells. -/
def tabC (N : Nat) (F : Nat → Nat) : Array Value := ((List.range N).map fun k => Value.int .u16 (F k : Int)).toArray
def Tab (W : World) (g N : Nat) (F : Nat → Nat) : Prop := W.heap[g]? = some (.cells (tabC N F) 46 (0, 0))
theorem tabC_size (N : Nat) (F : Nat → Nat) : (tabC N F).size = N := by simp [tabC]
theorem tabC_at (N : Nat) (F : Nat → Nat) (k : Nat) (h : k < N) : (tabC N F)[k]? = some (.int .u16 (F k : Int)) := by simp [tabC, h]
theorem tabC_get (N : Nat) (F : Nat → Nat) (k : Nat) : (tabC N F)[k]? = if k < N then some (.int .u16 (F k : Int)) else none := by
  by_cases h : k < N
  · rw [if_pos h, tabC_at N F k h]
  · rw [if_neg h]; simp [tabC]; omega
theorem Tab.cell {W : World} {g N : Nat} {F : Nat → Nat} (h : Tab W g N F) (k : Nat) (hk : k < N) : W.cell? ⟨g, k, none⟩ = some (.int .u16 (F k : Int)) := by
  rw [cell_of_row _ _ k _ _ (0, 0) h, tabC_at N F k hk]
theorem Tab.frz {W : World} {g N : Nat} {F : Nat → Nat} (h : Tab W g N F) (k : Nat) : W.frozen? ⟨g, k, none⟩ = false := YtfhbkaiioiihjaaDoor.frz h k
def putT (F : Nat → Nat) (j v : Nat) : Nat → Nat := fun k => if k = j then v else F k
theorem Tab.put {W : World} {g N : Nat} {F : Nat → Nat} (h : Tab W g N F) (j v : Nat) : Tab (W.setCell ⟨g, j, none⟩ (.int .u16 (v : Int))) g N (putT F j v) := by
  unfold Tab
  rw [heap_setCell h]
  congr 2
  apply Array.ext_getElem?
  intro k
  rw [Array.getElem?_setIfInBounds, tabC_get, tabC_get, tabC_size]
  unfold putT
  by_cases e : j = k
  · subst e; simp
  · simp [e, show ¬ k = j from fun q => e q.symm]
theorem Tab.drew {W : World} {g N : Nat} {F : Nat → Nat} (h : Tab W g N F) : Tab W.drew g N F := h
/-- A piece of the table is copied. -/
def cpT (F : Nat → Nat) (o s m : Nat) : Nat → Nat := fun k => if o ≤ k ∧ k < o + m then F (k - o + s) else F k
theorem Tab.copy {W : World} {g N : Nat} {F : Nat → Nat} (h : Tab W g N F) (o s m : Nat) (h1 : o + m ≤ N) :
    Tab (W.setRow g ((tabC N F).toList.take o ++ ((List.range m).map fun k => Value.int .u16 (F (s + k) : Int)) ++ (tabC N F).toList.drop (o + m)).toArray) g N (cpT F o s m) := by
  unfold Tab
  rw [setRow_heap W g _ _ 46 (0, 0) h]
  congr 2
  apply Array.ext_getElem?
  intro k
  rw [tabC_get]
  unfold cpT
  simp only [List.getElem?_toArray]
  have hl : ((tabC N F).toList.take o).length = o := by rw [List.length_take, Array.length_toList, tabC_size]; omega
  by_cases c1 : k < o
  · rw [List.append_assoc, List.getElem?_append_left (by omega), List.getElem?_take_of_lt c1, Array.getElem?_toList, tabC_get]
    simp [show ¬ o ≤ k by omega]
  · by_cases c2 : k < o + m
    · rw [List.append_assoc, List.getElem?_append_right (by omega), hl, List.getElem?_append_left (by simp; omega)]
      simp [show k - o < m by omega, show o ≤ k by omega, c2, show k < N by omega, Nat.add_comm s (k - o)]
    · rw [List.getElem?_append_right (by simp [hl]; omega), List.length_append, hl, List.length_map, List.length_range, List.getElem?_drop, Array.getElem?_toList, tabC_get, show o + m + (k - (o + m)) = k by omega]
      simp [c2]
theorem Tryd.info16 : (Tryd.prog.info? 44).map (·.size) = some 1 := by kernel_rfl
theorem Tab.run {W : World} {g N : Nat} {F : Nat → Nat} (h : Tab W g N F) (ty : TypeId) (o s m c : Nat) (h1 : o + m ≤ N) (h2 : s + m ≤ N) (hm : m ≤ 1001) :
    (Builtin.copy_ #[96, 96] ty #[.slice (some ⟨g, o, none⟩) 1001 1001, .slice (some ⟨g, s, none⟩) m c]).run Tryd.prog W =
      .ok (goInt m) (W.setRow g ((tabC N F).toList.take o ++ ((List.range m).map fun k => Value.int .u16 (F (s + k) : Int)) ++ (tabC N F).toList.drop (o + m)).toArray) := by
  have := run_copy_row (P := Tryd.prog) W 96 96 ty 44 g o 1001 1001 ⟨g, s, none⟩ m c (tabC N F) 46 ((List.range m).map fun k => Value.int .u16 (F (s + k) : Int)) Tryd.underlying96 Tryd.info16 h (by rw [List.length_map, List.length_range]; exact (Nat.min_eq_left hm).symm) (fun j v hv => by
    have hj : j < m := by have := (List.getElem?_eq_some_iff.1 hv).1; simpa using this
    simp [hj] at hv
    subst hv
    rw [show (⟨g, s, none⟩ : Addr).add j = ⟨g, s + j, none⟩ by unfold Addr.add; split <;> simp_all]
    exact h.cell (s + j) (by omega)) (by simp [tabC_size]; omega) (fun v hv => by
    obtain ⟨k, _, rfl⟩ := List.mem_map.1 hv
    rfl)
  rw [this]
  simp
theorem below_row {base : Nat} {w W : World} {g : Nat} {c : Array Value} (h : Below base w W) (hg : base ≤ g) : Below base w (W.setRow g c) :=
  h.trans ⟨rfl, rfl, rfl, by simp, fun k hk => setRow_other _ _ _ _ (by omega)⟩
end Go.Proofs.YtfhbkaiioiihjaaDoor
