/-
  Behind a delta that keeps all, a delta is its normal form. No walk.
-/
import Derived.Test.YtphbjbigjpfjfabOtYb
namespace Go.Proofs.Ytphbjbigjpfjfab
open Go.RowKit Go.PlainAid

/-- The delta that keeps n. -/
def allO (n : Nat) : List OpD := if 0 < n then [⟨1, n, ⟨#[]⟩⟩] else []
def allS (n : Nat) : List St := if 0 < n then [.keep n] else []
theorem all_in (n : Nat) : ∀ o ∈ allO n, o.In := by
  intro o ho
  unfold allO at ho
  split at ho
  · simp at ho; subst ho; exact Nat.zero_le _
  · simp at ho
theorem all_chk {n : Nat} (h : n ≤ 1000) : chk (allO n) = 0 ∧ stR (allO n) = allS n := by
  by_cases c : 0 < n
  · have e : allO n = [(PS.keep n)].map PS.op := by rw [allO, if_pos c]; rfl
    have hk : ∀ s ∈ [PS.keep n], s.Ok := by intro s hs; simp at hs; subst hs; exact c
    have hp : pw [PS.keep n] = List.replicate n .K := by simp [pw, PS.u]
    have := chk_ps hk (by rw [hp, baseU_K]; omega) (by rw [hp, targU, tgt_targ, tgt_Ks]; omega)
    rw [e, allS, if_pos c]
    exact this
  · have e : allO n = [] := by rw [allO, if_neg c]
    rw [e, allS, if_neg c]
    have hc : chk [] = 0 := by decide
    exact ⟨hc, by rw [chk_yes _ hc]; rfl⟩
theorem uw_all (n : Nat) : uw (allS n) = List.replicate n .K := by
  unfold allS
  split
  · simp [uw, St.u]
  · have : n = 0 := by omega
    subst this; rfl
theorem nf_all {n : Nat} (h : n ≤ 1000) : stR (jn (stR (allO n))) = allS n := by
  have e := all_chk h
  rw [e.2]
  by_cases c : 0 < n
  · have : jn (allS n) = allO n := by
      have hk : ∀ s ∈ allS n, s.Ok := by intro s hs; rw [allS, if_pos c] at hs; simp at hs; subst hs; exact ⟨by omega, h⟩
      rw [jn_eq hk, uw_all, nfU, ju_K0, JU.out]
      simp [flushP, allO, c, PS.op, PS.st, St.op]
    rw [this, e.2]
  · have : allS n = [] := by rw [allS, if_neg c]
    rw [this]
    have hc : chk (jn []) = 0 := by decide
    rw [chk_yes _ hc]
    rfl
/-- Places at which nothing is done. -/
theorem tf_all (f : Bool) {a b : List Spot} (h : Al2 a b) (hb : ∀ y ∈ b, pts y.put = [] ∧ y.k ≠ 3) : tfU f a b = spW a := by
  induction h with
  | last hx hy =>
    rename_i x y
    have e := (hb y (by simp)).1
    have hy1 : ¬ y.k = 1 := by omega
    have e1 : outU f x y = spU x := by
      rw [outU, e, if_neg hy1, spU, hx]
      cases f <;> simp [kU]
    simp only [tfU, spW, List.zipWith_cons_cons, List.zipWith_nil_left, List.flatten_cons, List.flatten_nil, List.append_nil, List.map_cons, List.map_nil]
    exact e1
  | more hx hy h ih =>
    rename_i x y a b
    have e := hb y (by simp)
    have hy1 : y.k = 1 := by have := e.2; omega
    have e1 : outU f x y = spU x := by
      rw [outU, e.1, if_pos hy1, spU]
      cases f <;> simp
    rw [tfU_cons, spW_cons, e1, ih (fun s hs => hb s (by simp [hs]))]
theorem reps_all : ∀ (n : Nat), ∀ y ∈ reps ⟨#[]⟩ 1 n, pts y.put = [] ∧ y.k ≠ 3
  | 0, y, h => by simp [reps] at h
  | n + 1, y, h => by
    rw [reps] at h
    rcases List.mem_cons.1 h with rfl | h
    · exact ⟨pts_nil, by show (1 : Int) ≠ 3; decide⟩
    · exact reps_all n y h
theorem nS_all {n : Nat} (h : n ≤ 1000) : ∀ y ∈ nS (allO n), pts y.put = [] ∧ y.k ≠ 3 := by
  rw [nS, nf_all h]
  have hl : ∀ y : Spot, y = ⟨⟨#[]⟩, 0⟩ → pts y.put = [] ∧ y.k ≠ 3 := fun y e => by subst e; exact ⟨pts_nil, by show (0 : Int) ≠ 3; decide⟩
  intro y hy
  unfold allS at hy
  split at hy
  · rw [spots] at hy
    rcases List.mem_append.1 hy with hy | hy
    · exact reps_all n y hy
    · exact hl y (by simpa [spots] using hy)
  · exact hl y (by simpa [spots] using hy)
theorem marks_shift : ∀ (l : List U) (i a : Nat), mkU (i + a) l = (mkU a l).map (Sum.map (fun j => i + j) id)
  | [], _, _ => rfl
  | .K :: l, i, a => by simp only [mkU, List.map_cons]; rw [Nat.add_assoc, marks_shift l]; rfl
  | .R :: l, i, a => by simp only [mkU]; rw [Nat.add_assoc, marks_shift l]
  | .I z :: l, i, a => by simp only [mkU, List.map_cons]; rw [marks_shift l]; rfl
theorem cmp_all (l : List U) : Eqv (cmp (List.replicate (baseU l) .K) l) l := by
  have ht : tgtU (List.replicate (baseU l) .K) = baseU l := tgt_Ks _
  refine ⟨by rw [cmp_base _ _ ht, baseU_K], fun i => ?_⟩
  rw [cmp_marks _ _ i ht, mkU_Ks]
  have e := marks_shift l i 0
  rw [Nat.add_zero] at e
  rw [e]
  refine List.map_congr_left (fun m hm => ?_)
  cases m with
  | inr z => rfl
  | inl j =>
    have hj := marks_lt l 0 j hm
    simp [sub, List.getD_eq_getElem?_getD]
    rw [List.getElem?_eq_getElem (by simp; omega)]
    simp

theorem stays {A : List OpD} (iA : ∀ o ∈ A, o.In) (hc : chk A = 0) (f : Bool) :
    trR f A (allO (bsum (stR A))) = (jn (stR A), 0) ∧ coR (allO (bsum (stR A))) A = (jn (stR A), 0) := by
  have bd := stR_bd A
  have ok := stR_ok iA
  obtain ⟨a1, a2, a3, a4, a5⟩ := normal_facts ok bd.1 bd.2
  have hc2 := all_chk bd.1
  have hin := all_in (bsum (stR A))
  have hb : bsum (stR A) = bsum (stR (allO (bsum (stR A)))) := by rw [hc2.2, ← base_uw (allS _), uw_all, baseU_K]
  have htA : tsum (stR (allO (bsum (stR A)))) = bsum (stR A) := by rw [hc2.2, ← tgt_uw (allS _), uw_all, tgt_Ks]
  refine ⟨?_, ?_⟩
  · obtain ⟨hal, t1, t2, t3⟩ := tr_facts f iA hin hb
    have hw := tf_all f hal (nS_all bd.1)
    have ht : tgtU (spW (nS A)) = tsum (stR A) := by rw [nS_word iA, tgt_uw, a5]
    rw [hw, ht, if_neg (by omega)] at t1
    have hj : jn (stR (trW f A (allO (bsum (stR A))))) = jn (stR A) := by
      refine jn_eqv (stR_ok t3) ok ?_
      rw [t2 t1, hw, nS_word iA]
      exact a3
    rw [trR, if_pos hc, if_pos hc2.1, if_pos hb, hj, t1]
  · obtain ⟨k1, k2, k3, k4, k5⟩ := coR_ok hin iA hc2.1 hc htA
    have hj : (coR (allO (bsum (stR A))) A).1 = jn (stR A) := by
      rw [k2]
      refine jn_eqv (hu_ok _) ok ?_
      rw [k3, cpW, nf_all bd.1, uw_all]
      have e := cmp_all (uw (stR (jn (stR A))))
      rw [base_uw, a4] at e
      exact e.trans a3
    exact Prod.ext hj k1
end Go.Proofs.Ytphbjbigjpfjfab
