/-
  The contract of and: what both have marked.
-/
import Derived.Test.YthhdpabelcgfjaaEgD
namespace Go.Proofs.Ythhdpabelcgfjaa.dg
open Go.Maps Go.WideShapes Go.RowKit Go.ChangeShapes Go.ChangeAt Go.PlainAid

theorem grown_of_only {W W' : World} {b : Nat} (h : Only [b] W W') : W.grownBy W' (some b) :=
  ⟨h.os, h.tape, h.output, h.size, fun i hi hn => h.block i hi (by simp; exact fun e => hn (by rw [e]))⟩
theorem grown_of_below {W W' : World} (h : Below W.heap.size W W') : W.grownBy W' none := ⟨h.os, h.tape, h.output, h.size, fun i hi _ => h.block i hi⟩

theorem andF_step {f g : Nat → Bool} {left : Lit → Bool} {i : Nat} (hf : f i = true) (hg : g i = true) (j : Nat) :
    putL (fun j => f j && g j && !left (.int .i64 (j : Int))) [(i : Int)] j = (f j && g j && !(left (.int .i64 (j : Int)) && !(Lit.int .i64 (j : Int)).sameKey (.int .i64 (i : Int)))) := by
  unfold putL
  by_cases e : j = i
  · subst e
    rw [WideAt.sameKey_self (key_mk _), hf, hg]
    simp
  · have e1 : (Lit.int .i64 (j : Int)).sameKey (.int .i64 (i : Int)) = false := by
      rw [Bool.eq_false_iff]
      intro h
      have := WideAt.sameKey_eq h
      simp only [Lit.int.injEq, true_and] at this
      omega
    rw [e1]
    have e2 : (j : Int) ≠ (i : Int) := by omega
    simp [List.contains_eq_mem, e2]
theorem andF_skip {f g : Nat → Bool} {left : Lit → Bool} {i : Nat} (hg : g i = false) (j : Nat) :
    (f j && g j && !left (.int .i64 (j : Int))) = (f j && g j && !(left (.int .i64 (j : Int)) && !(Lit.int .i64 (j : Int)).sameKey (.int .i64 (i : Int)))) := by
  by_cases e : j = i
  · subst e
    rw [hg]
    simp
  · have e1 : (Lit.int .i64 (j : Int)).sameKey (.int .i64 (i : Int)) = false := by
      rw [Bool.eq_false_iff]
      intro h
      have := WideAt.sameKey_eq h
      simp only [Lit.int.injEq, true_and] at this
      omega
    rw [e1]
    simp

/-- What and has on its way. -/
structure AM (w W : World) (b c r : Nat) (f g : Nat → Bool) (left : Lit → Bool) (cnt : Nat) : Prop where
  rg : W.ranges Try.prog 3 unitElem b r 512 (SD f) left cnt
  all : ∀ k, left k = true → has (SD f) k = true
  other : IsSet W c g
  both : IsSet W w.heap.size (fun j => f j && g j && !left (.int .i64 (j : Int)))
  bel : Below w.heap.size w W
  rn : r = w.heap.size + 1
  bl : b < w.heap.size
  cl : c < w.heap.size

end Go.Proofs.Ythhdpabelcgfjaa.dg
