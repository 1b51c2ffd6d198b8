/-
  Three deltas put together from the left or from the right. No walk.
-/
import Derived.Test.YtphbjbigjpfjfabOtN
namespace Go.Proofs.Ytphbjbigjpfjfab
open Go.RowKit Go.PlainAid

theorem eqv_tgt {a b : List U} (h : Eqv a b) : tgtU a = tgtU b := by rw [← tgt_targ a 0, ← tgt_targ b 0, h.2]
theorem cmp_eqv {a a' b b' : List U} (h1 : Eqv a a') (h2 : Eqv b b') (h : tgtU a = baseU b) : Eqv (cmp a b) (cmp a' b') := by
  have h' : tgtU a' = baseU b' := by rw [← eqv_tgt h1, h, h2.1]
  refine ⟨?_, fun i => ?_⟩
  · rw [cmp_base a b h, cmp_base a' b' h', h1.1]
  · rw [cmp_marks a b i h, cmp_marks a' b' i h', h1.2, h2.2]
theorem coR_zero {A B : List OpD} (h : (coR A B).2 = 0) : chk A = 0 ∧ chk B = 0 ∧ tsum (stR A) = bsum (stR B) := by
  rw [coR] at h
  split at h
  · rename_i c1
    split at h
    · rename_i c2
      split at h
      · rename_i c3; exact ⟨c1, c2, c3⟩
      · simp at h
    · rename_i c2; exact absurd h c2
  · rename_i c1; exact absurd h c1

/-- What Compose gave, as one of a pair. -/
theorem co_facts {A B : List OpD} (iA : ∀ o ∈ A, o.In) (iB : ∀ o ∈ B, o.In) (h : (coR A B).2 = 0) :
    (∀ o ∈ (coR A B).1, o.In) ∧ chk (coR A B).1 = 0 ∧ jn (stR (coR A B).1) = (coR A B).1 ∧ Eqv (uw (stR (coR A B).1)) (cpW A B) ∧ bsum (stR (coR A B).1) = bsum (stR A) ∧ tsum (stR (coR A B).1) = tsum (stR B) := by
  obtain ⟨c1, c2, ct⟩ := coR_zero h
  obtain ⟨k1, k2, k3, k4, k5⟩ := coR_ok iA iB c1 c2 ct
  have hok : ∀ s ∈ stR ((cpW A B).map uop), s.Ok := stR_ok (fun o ho => by obtain ⟨u, _, rfl⟩ := List.mem_map.1 ho; exact uop_in u)
  have bd := stR_bd ((cpW A B).map uop)
  obtain ⟨n1, n2, n3, n4, n5⟩ := normal_facts hok bd.1 bd.2
  have hb : bsum (stR ((cpW A B).map uop)) = bsum (stR A) := by rw [← base_uw, k3, k4]
  have ht : tsum (stR ((cpW A B).map uop)) = tsum (stR B) := by rw [← tgt_uw, k3, k5]
  rw [k2]
  refine ⟨(jn_in hok bd.1 bd.2).2, n1, n2, ?_, by rw [n4, hb], by rw [n5, ht]⟩
  rw [k3] at n3
  exact n3

theorem jn_eqv {l l' : List St} (h1 : ∀ s ∈ l, s.Ok) (h2 : ∀ s ∈ l', s.Ok) (h : Eqv (uw l) (uw l')) : jn l = jn l' := by
  rw [jn_eq h1, jn_eq h2, nf_of_marks h.1 (h.2 0)]

theorem joins {A B C : List OpD} (iA : ∀ o ∈ A, o.In) (iB : ∀ o ∈ B, o.In) (iC : ∀ o ∈ C, o.In) (h1 : (coR A B).2 = 0) (h2 : (coR B C).2 = 0) :
    (coR (coR A B).1 C).2 = 0 ∧ (coR A (coR B C).1).2 = 0 ∧ (coR (coR A B).1 C).1 = (coR A (coR B C).1).1 := by
  obtain ⟨a1, a2, a3⟩ := coR_zero h1
  obtain ⟨b1, b2, b3⟩ := coR_zero h2
  obtain ⟨x0, x1, x2, x3, x4, x5⟩ := co_facts iA iB h1
  obtain ⟨y0, y1, y2, y3, y4, y5⟩ := co_facts iB iC h2
  have l := coR_ok x0 iC x1 b2 (by rw [x5, b3])
  have r := coR_ok iA y0 a1 y1 (by rw [a3, y4])
  refine ⟨l.1, r.1, ?_⟩
  rw [l.2.1, r.2.1]
  have hu : ∀ D : List U, ∀ s ∈ stR (D.map uop), s.Ok := fun D => stR_ok (fun o ho => by obtain ⟨u, _, rfl⟩ := List.mem_map.1 ho; exact uop_in u)
  refine jn_eqv (hu _) (hu _) ?_
  rw [l.2.2.1, r.2.2.1]
  have okA := stR_ok iA
  have okB := stR_ok iB
  have okC := stR_ok iC
  obtain ⟨_, _, _, _, n5⟩ := normal_facts okA (stR_bd A).1 (stR_bd A).2
  obtain ⟨_, _, _, m4, m5⟩ := normal_facts okB (stR_bd B).1 (stR_bd B).2
  obtain ⟨_, _, _, o4, _⟩ := normal_facts okC (stR_bd C).1 (stR_bd C).2
  have hAB : tgtU (uw (stR (jn (stR A)))) = baseU (uw (stR (jn (stR B)))) := by rw [tgt_uw, base_uw, n5, m4, a3]
  have hBC : tgtU (uw (stR (jn (stR B)))) = baseU (uw (stR (jn (stR C)))) := by rw [tgt_uw, base_uw, m5, o4, b3]
  have e1 : Eqv (cpW (coR A B).1 C) (cmp (cmp (uw (stR (jn (stR A)))) (uw (stR (jn (stR B))))) (uw (stR (jn (stR C))))) := by
    rw [cpW, x2]
    exact cmp_eqv x3 ⟨rfl, fun _ => rfl⟩ (by rw [tgt_uw, base_uw, x5, o4, b3])
  have e2 : Eqv (cpW A (coR B C).1) (cmp (uw (stR (jn (stR A)))) (cmp (uw (stR (jn (stR B)))) (uw (stR (jn (stR C)))))) := by
    rw [cpW, y2]
    exact cmp_eqv ⟨rfl, fun _ => rfl⟩ y3 (by rw [tgt_uw, base_uw, n5, y4, a3])
  have e3 := cmp_assoc _ _ _ hAB hBC
  exact ⟨e1.1.trans (e3.1.trans e2.1.symm), fun i => (e1.2 i).trans ((e3.2 i).trans (e2.2 i).symm)⟩
end Go.Proofs.Ytphbjbigjpfjfab
