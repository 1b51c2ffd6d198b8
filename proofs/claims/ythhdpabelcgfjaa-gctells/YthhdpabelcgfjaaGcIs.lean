/-
  The insertion sort, as data; numbers of a row are changed.
-/
import Derived.Test.YthhdpabelcgfjaaGcG
import Derived.Test.YthhdpabelcgfjaaGcH
namespace Go.Proofs.Ythhdpabelcgfjaa
open Go.Maps Go.ChangeShapes Go.WideShapes Go.ChangeAt Go.RowKit Go.PlainAid

/-- The number that once lay at i goes down: it is at k. -/
def Ins (M N : List Int) (i k : Nat) : Prop := ∃ (A : List Int) (x : Int) (C R : List Int), N = A ++ x :: (C ++ R) ∧ A.length = k ∧ A.length + C.length = i ∧ (A ++ C).Pairwise (· < ·) ∧ (∀ y ∈ C, x < y) ∧ N.Perm M
theorem Ins.start {M N : List Int} {i : Nat} (hp : N.Perm M) (hs : (N.take i).Pairwise (· < ·)) (hi : i < N.length) : Ins M N i i :=
  ⟨N.take i, N[i], [], N.drop (i + 1), by simp, by simp; omega, by simp; omega, by simpa using hs, by simp, hp⟩
theorem Ins.step {M N : List Int} {i k : Nat} (h : Ins M N i (k + 1)) {a b : Int} (ha : N[k]? = some a) (hb : N[k + 1]? = some b) (hlt : b < a) : Ins M ((N.set (k + 1) a).set k b) i k := by
  obtain ⟨A, x, C, R, rfl, hA, hi, hs, hx, hp⟩ := h
  rcases List.eq_nil_or_concat A with rfl | ⟨A', y, rfl⟩
  · simp at hA
  · rw [List.concat_eq_append] at *
    simp only [List.length_append, List.length_cons, List.length_nil, Nat.zero_add] at hA hi
    have hk : A'.length = k := by omega
    subst hk
    have e0 : A' ++ [y] ++ x :: (C ++ R) = A' ++ (y :: x :: (C ++ R)) := by simp
    rw [e0] at ha hb hp ⊢
    have ea : a = y := by
      rw [List.getElem?_append_right (Nat.le_refl _)] at ha
      simpa using ha.symm
    have eb : b = x := by
      rw [List.getElem?_append_right (by omega)] at hb
      simpa using hb.symm
    subst ea eb
    have e1 : ((A' ++ (a :: b :: (C ++ R))).set (A'.length + 1) a).set A'.length b = A' ++ (b :: a :: (C ++ R)) := by
      rw [List.set_append_right _ _ (by omega), List.set_append_right _ _ (by omega)]
      simp
    rw [e1]
    refine ⟨A', b, a :: C, R, by simp, rfl, by simp; omega, by simpa using hs, fun z hz => ?_, ?_⟩
    · rcases List.mem_cons.1 hz with rfl | hz
      · exact hlt
      · exact hx z hz
    · exact (List.Perm.append_left A' (List.Perm.swap a b (C ++ R))).trans hp
theorem Ins.done {M N : List Int} {i k : Nat} (h : Ins M N i k) (hn : M.Nodup) (hk : ∀ j a b, k = j + 1 → N[j]? = some a → N[k]? = some b → ¬ b < a) : N.Perm M ∧ (N.take (i + 1)).Pairwise (· < ·) := by
  obtain ⟨A, x, C, R, rfl, hA, hi, hs, hx, hp⟩ := h
  refine ⟨hp, ?_⟩
  have e : (A ++ x :: (C ++ R)).take (i + 1) = A ++ x :: C := by
    rw [show A ++ x :: (C ++ R) = (A ++ x :: C) ++ R by simp, List.take_append_of_le_length (by simp; omega), List.take_of_length_le (by simp; omega)]
  rw [e]
  rw [List.pairwise_append] at hs ⊢
  obtain ⟨h1, h2, h3⟩ := hs
  have hax : ∀ a ∈ A, a < x := by
    intro a ha
    rcases List.eq_nil_or_concat A with rfl | ⟨A', y, rfl⟩
    · cases ha
    · rw [List.concat_eq_append] at *
      simp only [List.length_append, List.length_cons, List.length_nil, Nat.zero_add] at hA
      subst hA
      have e0 : A' ++ [y] ++ x :: (C ++ R) = A' ++ (y :: x :: (C ++ R)) := by simp
      have hyx := hk A'.length y x rfl (by rw [e0, List.getElem?_append_right (Nat.le_refl _)]; simp) (by rw [e0, List.getElem?_append_right (by omega)]; simp)
      have hnd := hp.nodup_iff.2 hn
      rw [e0] at hnd
      have hne : y ≠ x := by
        have := (List.nodup_append.1 hnd).2.1
        simp only [List.nodup_cons, List.mem_cons, not_or] at this
        exact this.1.1
      have hy : y < x := by omega
      rw [List.pairwise_append] at h1
      rcases List.mem_append.1 ha with h | h
      · have := h1.2.2 a h y (by simp); omega
      · simp at h; subst h; exact hy
  refine ⟨h1, List.pairwise_cons.2 ⟨hx, h2⟩, fun a ha c hc => ?_⟩
  rcases List.mem_cons.1 hc with rfl | hc
  · exact hax a ha
  · exact h3 a ha c hc
end Go.Proofs.Ythhdpabelcgfjaa
