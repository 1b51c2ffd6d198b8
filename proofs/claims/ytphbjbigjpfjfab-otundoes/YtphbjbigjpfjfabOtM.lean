/-
  The marks of a and then b are b's, with a's in the places of those that b keeps. No walk.
-/
import Derived.Test.YtphbjbigjpfjfabOtH
namespace Go.Proofs.Ytphbjbigjpfjfab
open Go.RowKit Go.PlainAid

/-- What b makes of a row of marks. -/
def sb : List (Nat ⊕ Int) → List U → List (Nat ⊕ Int)
  | _, [] => []
  | ma, .I z :: b => .inr z :: sb ma b
  | m :: ma, .K :: b => m :: sb ma b
  | _ :: ma, .R :: b => sb ma b
  | [], .K :: _ => []
  | [], .R :: _ => []

theorem tgt_marks : ∀ (l : List U) (i : Nat), (mkU i l).length = tgtU l
  | [], _ => rfl
  | .K :: l, i => by rw [mkU, List.length_cons, tgt_marks l]; rfl
  | .R :: l, i => by rw [mkU, tgt_marks l]; rfl
  | .I z :: l, i => by rw [mkU, List.length_cons, tgt_marks l]; rfl

theorem both_nil {x y : List U} (e1 : ∀ a, ¬ x = U.R :: a) (e2 : ∀ z b, x = [] → ¬ y = U.I z :: b) (e3 : ∀ a z b, x = U.K :: a → ¬ y = U.I z :: b) (e4 : ∀ w a z b, x = U.I w :: a → ¬ y = U.I z :: b)
    (e5 : ∀ a b, x = U.K :: a → ¬ y = U.K :: b) (e6 : ∀ z a b, x = U.I z :: a → ¬ y = U.K :: b) (e7 : ∀ a b, x = U.K :: a → ¬ y = U.R :: b) (e8 : ∀ z a b, x = U.I z :: a → ¬ y = U.R :: b) (h : tgtU x = baseU y) : x = [] ∧ y = [] := by
  rcases x with _ | ⟨u, a⟩
  · rcases y with _ | ⟨v, b⟩
    · exact ⟨rfl, rfl⟩
    · cases v with
      | K => simp only [tgtU, baseU] at h; omega
      | R => simp only [tgtU, baseU] at h; omega
      | I z => exact absurd rfl (e2 z b rfl)
  · cases u with
    | R => exact absurd rfl (e1 a)
    | K =>
      rcases y with _ | ⟨v, b⟩
      · simp only [tgtU, baseU] at h; omega
      · cases v with
        | K => exact absurd rfl (e5 a b rfl)
        | R => exact absurd rfl (e7 a b rfl)
        | I z => exact absurd rfl (e3 a z b rfl)
    | I w =>
      rcases y with _ | ⟨v, b⟩
      · simp only [tgtU, baseU] at h; omega
      · cases v with
        | K => exact absurd rfl (e6 w a b rfl)
        | R => exact absurd rfl (e8 w a b rfl)
        | I z => exact absurd rfl (e4 w a z b rfl)

theorem cmp_sb (a b : List U) : ∀ i, tgtU a = baseU b → mkU i (cmp a b) = sb (mkU i a) b := by
  induction a, b using cmp.induct <;> intro i h <;> simp_all [cmp, mkU, sb, tgtU, baseU]
  all_goals first | (rename_i ih; exact ih _ (by omega)) | (rename_i x y e1 e2 e3 e4 e5 e6 e7 e8; obtain ⟨rfl, rfl⟩ := both_nil e1 e2 e3 e4 e5 e6 e7 e8 h; rfl)
theorem cmp_base (a b : List U) : tgtU a = baseU b → baseU (cmp a b) = baseU a := by
  induction a, b using cmp.induct <;> intro h <;> simp_all [cmp, tgtU, baseU]
  all_goals first | (rename_i ih; exact ih (by omega)) | (rename_i x y e1 e2 e3 e4 e5 e6 e7 e8; obtain ⟨rfl, rfl⟩ := both_nil e1 e2 e3 e4 e5 e6 e7 e8 h; rfl)
theorem cmp_tgt (a b : List U) : tgtU a = baseU b → tgtU (cmp a b) = tgtU b := by
  induction a, b using cmp.induct <;> intro h <;> simp_all [cmp, tgtU, baseU]
  all_goals first | (rename_i ih; exact ih (by omega)) | (rename_i x y e1 e2 e3 e4 e5 e6 e7 e8; obtain ⟨rfl, rfl⟩ := both_nil e1 e2 e3 e4 e5 e6 e7 e8 h; rfl)

/-- A mark, with the mark that stands there. -/
def sub (ma : List (Nat ⊕ Int)) : Nat ⊕ Int → Nat ⊕ Int
  | .inl j => ma.getD j (.inr 0)
  | .inr z => .inr z
theorem sb_sub (ma : List (Nat ⊕ Int)) : ∀ (b : List U) (k : Nat), k + baseU b ≤ ma.length → sb (ma.drop k) b = (mkU k b).map (sub ma)
  | [], k, _ => by simp [sb, mkU]
  | .I z :: b, k, h => by
    have := sb_sub ma b k (by simpa [baseU] using h)
    simp [sb, mkU, sub, this]
  | .K :: b, k, h => by
    simp only [baseU] at h
    have := sb_sub ma b (k + 1) (by omega)
    rw [List.drop_eq_getElem_cons (by omega), sb, this, mkU]
    simp [sub, List.getD_eq_getElem?_getD, List.getElem?_eq_getElem (show k < ma.length by omega)]
  | .R :: b, k, h => by
    simp only [baseU] at h
    have := sb_sub ma b (k + 1) (by omega)
    rw [List.drop_eq_getElem_cons (by omega), sb, this, mkU]
/-- The marks of a and then b. -/
theorem cmp_marks (a b : List U) (i : Nat) (h : tgtU a = baseU b) : mkU i (cmp a b) = (mkU 0 b).map (sub (mkU i a)) := by
  rw [cmp_sb a b i h, ← sb_sub (mkU i a) b 0 (by rw [tgt_marks]; omega), List.drop_zero]

theorem marks_lt : ∀ (l : List U) (k j : Nat), Sum.inl j ∈ mkU k l → j < k + baseU l
  | [], _, _, h => by simp [mkU] at h
  | .K :: l, k, j, h => by
    simp only [mkU, List.mem_cons] at h
    rcases h with h | h
    · cases h; simp only [baseU]; omega
    · have := marks_lt l _ _ h; simp only [baseU]; omega
  | .R :: l, k, j, h => by
    have := marks_lt l _ _ (by simpa [mkU] using h); simp only [baseU]; omega
  | .I z :: l, k, j, h => by
    simp only [mkU, List.mem_cons, reduceCtorEq, false_or] at h
    have := marks_lt l _ _ h; simp only [baseU]; omega
/-- From the left or from the right: the same marks, the same base. -/
theorem cmp_assoc (a b c : List U) (h1 : tgtU a = baseU b) (h2 : tgtU b = baseU c) : Eqv (cmp (cmp a b) c) (cmp a (cmp b c)) := by
  have hb1 := cmp_base a b h1
  have hb2 := cmp_base b c h2
  have ht1 := cmp_tgt a b h1
  refine ⟨?_, fun i => ?_⟩
  · rw [cmp_base (cmp a b) c (by rw [ht1, h2]), cmp_base a (cmp b c) (by rw [h1, hb2]), hb1]
  · rw [cmp_marks (cmp a b) c i (by rw [ht1, h2]), cmp_marks a b i h1, cmp_marks a (cmp b c) i (by rw [h1, hb2]), cmp_marks b c 0 h2, List.map_map]
    refine List.map_congr_left (fun m hm => ?_)
    cases m with
    | inr z => rfl
    | inl j =>
      have hj := marks_lt c 0 j hm
      have hl : j < (mkU 0 b).length := by rw [tgt_marks]; omega
      simp only [Function.comp, sub, List.getD_eq_getElem?_getD, List.getElem?_map, List.getElem?_eq_getElem hl, Option.map_some, Option.getD_some]
end Go.Proofs.Ytphbjbigjpfjfab
