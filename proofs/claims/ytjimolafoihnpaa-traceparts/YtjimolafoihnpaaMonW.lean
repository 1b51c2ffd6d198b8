/-
  Mono's rule where each world that there is hangs only on which of three operations are done (a row made, appended, stored): one duty an operation.
-/
import Derived.Test.YtjimolafoihnpaaMono
import Derived.Deep.AppendLies
namespace Go.Proofs.Ytjimolafoihnpaa.mono
open Go.RowKit

/-- e3 waits for all ahead of it, e2 for e1. -/
def OkL (e1 e2 e3 : Nat) (L : Nat → Bool) : Prop := (L e3 = true → ∀ j, j < e3 → L j = true) ∧ (L e2 = true → L e1 = true)
/-- The world that there is. -/
def BxW (e1 e2 e3 : Nat) (W0 W1 W2 W3 : World) (L : Nat → Bool) (W : World) : Prop :=
  OkL e1 e2 e3 L ∧ W = if L e3 = true then W3 else if L e2 = true then W2 else if L e1 = true then W1 else W0
section
variable {e1 e2 e3 : Nat} {W0 W1 W2 W3 W : World} {L : Nat → Bool}
theorem BxW.begin : BxW e1 e2 e3 W0 W1 W2 W3 (fun _ => false) W0 := ⟨⟨by simp, by simp⟩, by simp⟩
theorem BxW.pure (h : BxW e1 e2 e3 W0 W1 W2 W3 L W) (i : Nat) (hi : L i = false) (h3 : i < e3) (h1 : i ≠ e1) (h2 : i ≠ e2) :
    BxW e1 e2 e3 W0 W1 W2 W3 (fun j => if j = i then true else L j) W ∧ (W = W0 ∨ W = W1 ∨ W = W2) := by
  obtain ⟨⟨o1, o2⟩, hw⟩ := h
  have n3 : L e3 = false := by
    cases h : L e3 with
    | false => rfl
    | true => have := o1 h i h3; rw [hi] at this; cases this
  have d3 : ¬ e3 = i := by omega
  have d2 : ¬ e2 = i := fun q => h2 q.symm
  have d1 : ¬ e1 = i := fun q => h1 q.symm
  refine ⟨⟨⟨fun h => ?_, fun h => ?_⟩, ?_⟩, ?_⟩
  · simp only [if_neg d3, n3] at h; cases h
  · simp only [if_neg d2] at h
    simp only [if_neg d1]
    exact o2 h
  · simp only [if_neg d3, if_neg d2, if_neg d1]
    exact hw
  · rw [hw, n3]
    simp only [Bool.false_eq_true, if_false]
    split
    · exact .inr (.inr rfl)
    · split
      · exact .inr (.inl rfl)
      · exact .inl rfl
theorem BxW.one (h : BxW e1 e2 e3 W0 W1 W2 W3 L W) (hi : L e1 = false) (h12 : e1 < e2) (h23 : e2 < e3) : W = W0 ∧ BxW e1 e2 e3 W0 W1 W2 W3 (fun j => if j = e1 then true else L j) W1 := by
  obtain ⟨⟨o1, o2⟩, hw⟩ := h
  have n2 : L e2 = false := by
    cases h : L e2 with
    | false => rfl
    | true => have := o2 h; rw [hi] at this; cases this
  have n3 : L e3 = false := by
    cases h : L e3 with
    | false => rfl
    | true => have := o1 h e1 (by omega); rw [hi] at this; cases this
  have d3 : ¬ e3 = e1 := by omega
  have d2 : ¬ e2 = e1 := by omega
  refine ⟨by rw [hw, n3, n2, hi]; simp, ⟨fun h => ?_, fun h => ?_⟩, ?_⟩
  · simp only [if_neg d3, n3] at h; cases h
  · simp
  · simp [d3, d2, n3, n2]
theorem BxW.two (h : BxW e1 e2 e3 W0 W1 W2 W3 L W) (h1 : L e1 = true) (hi : L e2 = false) (h12 : e1 < e2) (h23 : e2 < e3) : W = W1 ∧ BxW e1 e2 e3 W0 W1 W2 W3 (fun j => if j = e2 then true else L j) W2 := by
  obtain ⟨⟨o1, o2⟩, hw⟩ := h
  have n3 : L e3 = false := by
    cases h : L e3 with
    | false => rfl
    | true => have := o1 h e2 h23; rw [hi] at this; cases this
  have d3 : ¬ e3 = e2 := by omega
  have d1 : ¬ e1 = e2 := by omega
  refine ⟨by rw [hw, n3, hi, h1]; simp, ⟨fun h => ?_, fun h => ?_⟩, ?_⟩
  · simp only [if_neg d3, n3] at h; cases h
  · simp only [if_neg d1]; exact h1
  · simp [d3, n3]
theorem BxW.three (h : BxW e1 e2 e3 W0 W1 W2 W3 L W) (hi : L e3 = false) (ha : ∀ j, j < e3 → L j = true) (h12 : e1 < e2) (h23 : e2 < e3) : W = W2 ∧ BxW e1 e2 e3 W0 W1 W2 W3 (fun j => if j = e3 then true else L j) W3 := by
  obtain ⟨⟨o1, o2⟩, hw⟩ := h
  refine ⟨by rw [hw, hi, ha e2 h23]; simp, ⟨fun _ j hj => ?_, fun _ => ?_⟩, by simp⟩
  · have : ¬ j = e3 := by omega
    simp only [if_neg this]
    exact ha j hj
  · have : ¬ e1 = e3 := by omega
    simp only [if_neg this]
    exact ha e1 (by omega)
theorem BxW.fin2 (h : BxW e1 e2 e3 W0 W1 W2 W2 L W) (h2 : L e2 = true) : W = W2 := by
  rw [h.2, h2]
  simp
theorem BxW.fin {n : Nat} (h : BxW e1 e2 e3 W0 W1 W2 W3 L W) (ha : ∀ j, j < n → L j = true) (h3 : e3 < n) : W = W3 := by
  rw [h.2, ha e3 h3]
  simp
end
/-- An append whose run is known. -/
theorem wp_append_run {P : Program} {w w' : World} {o : Oper} {a : Act} {K : Act → World → Prop} {Q : Exit → Act → World → Prop} (s x : Operand) (t : TypeId) (ho : o.op = .call { callee := .builtin .append, args := #[s, x], argTypes := #[t, t] }) {v u r : Value} (hs : a.eval s = v) (hx : a.eval x = u)
    (hr : (Builtin.append_ #[t, t] o.type #[v, u]).run P w = .ok r w') (h : K (a.put o.dst r) w') : o.wp P a w K Q := by
  unfold Oper.wp execOp
  simp only [ho, resolve, invoke, builtin, Sem.run_bind, Sem.run_pure, Result.andThen_ok, List.map_toArray, List.map_cons, List.map_nil, hs, hx, hr]
  exact h
end Go.Proofs.Ytjimolafoihnpaa.mono
