/-
  What is composed does what the two do. No walk.
-/
import Derived.Test.YtphbjbigjpfjfabOtP
namespace Go.Proofs.Ytphbjbigjpfjfab
open Go.RowKit Go.PlainAid

theorem apR_zero {s : ByteArray} {A : List OpD} (h : (apR s A).2 = 0) : 0 ≤ cpl s ∧ chk A = 0 ∧ (bsum (stR A) : Int) = cpl s ∧ (apR s A).1 = mk (enc (apRun (pts s) (stR A))) := by
  rw [apR] at h ⊢
  split at h
  · simp at h
  · rename_i c1
    split at h
    · rename_i c2; exact absurd h c2
    · rename_i c2
      split at h
      · simp at h
      · rename_i c3
        rw [if_neg c1, if_neg c2, if_neg c3]
        exact ⟨by omega, by simpa using c2, by simpa using c3, rfl⟩
theorem apR_of {s : ByteArray} {A : List OpD} (h0 : 0 ≤ cpl s) (h1 : chk A = 0) (h2 : (bsum (stR A) : Int) = cpl s) : apR s A = (mk (enc (apRun (pts s) (stR A))), 0) := by
  rw [apR, if_neg (by omega), if_neg (by simpa using h1), if_neg (by simpa using h2)]

theorem does {A B : List OpD} (iA : ∀ o ∈ A, o.In) (iB : ∀ o ∈ B, o.In) {s : ByteArray} (h : (apR s A).2 = 0) :
    ((apR (apR s A).1 B).2 ≠ 0 → (coR A B).2 ≠ 0) ∧ ((apR (apR s A).1 B).2 = 0 → (coR A B).2 = 0 ∧ apR s (coR A B).1 = apR (apR s A).1 B) := by
  obtain ⟨s0, s1, s2, s3⟩ := apR_zero h
  have okA := stR_ok iA
  have okB := stR_ok iB
  have hps := pts_len (t := s) s0
  have hle : bsum (stR A) ≤ (pts s).length := by omega
  have hpo := apRun_ok (stR A) (pts s) okA (pts_ok s0)
  have hce := cpl_enc hpo
  have hal := ap_len hle
  have ht : cpl (apR s A).1 = (tsum (stR A) : Int) := by rw [s3, hce.1, hal]
  have hpt : pts (apR s A).1 = apRun (pts s) (stR A) := by rw [s3, hce.2]
  refine ⟨fun hn hz => ?_, fun hz => ?_⟩
  · obtain ⟨_, c2, c3⟩ := coR_zero hz
    exact hn (by rw [apR_of (by omega) c2 (by rw [ht, c3])])
  · obtain ⟨t0, t1, t2, t3⟩ := apR_zero hz
    have ct : tsum (stR A) = bsum (stR B) := by rw [ht] at t2; omega
    have hco := (coR_ok iA iB s1 t1 ct).1
    obtain ⟨x0, x1, x2, x3, x4, x5⟩ := co_facts iA iB hco
    refine ⟨hco, ?_⟩
    rw [apR_of s0 x1 (by rw [x4, s2]), apR_of t0 t1 t2, hpt]
    obtain ⟨_, _, n3, _, n5⟩ := normal_facts okA (stR_bd A).1 (stR_bd A).2
    obtain ⟨_, _, m3, m4, _⟩ := normal_facts okB (stR_bd B).1 (stR_bd B).2
    have he : Eqv (cpW A B) (cmp (uw (stR A)) (uw (stR B))) := cmp_eqv n3 m3 (by rw [tgt_uw, base_uw, n5, m4, ct])
    rw [ap_cmp (x3.trans he) ct hle (by rw [x4]; exact hle)]
end Go.Proofs.Ytphbjbigjpfjfab
