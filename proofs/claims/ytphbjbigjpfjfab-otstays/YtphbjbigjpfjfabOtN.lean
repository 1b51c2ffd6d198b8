/-
  What Compose gives, as a word. No walk.
-/
import Derived.Test.YtphbjbigjpfjfabOtK
import Derived.Test.YtphbjbigjpfjfabOtM
namespace Go.Proofs.Ytphbjbigjpfjfab
open Go.RowKit Go.PlainAid

def psU : U → PS
  | .K => .keep 1
  | .R => .rem 1
  | .I z => .ins [z]
theorem uop_ps (u : U) : uop u = (psU u).op := by
  cases u with
  | K => rfl
  | R => rfl
  | I z => simp [uop, psU, PS.op, PS.st, St.op, enc]
theorem pw_psU : ∀ C : List U, pw (C.map psU) = C
  | [] => rfl
  | u :: C => by
    rw [List.map_cons, pw_cons, pw_psU C]
    cases u <;> rfl
theorem pts_cmp (a b : List U) : PtsU a → PtsU b → PtsU (cmp a b) := by
  induction a, b using cmp.induct <;> intro ha hb <;> simp_all [cmp, PtsU]
theorem psU_ok {C : List U} (h : PtsU C) : ∀ s ∈ C.map psU, s.Ok := by
  intro s hs
  obtain ⟨u, hu, rfl⟩ := List.mem_map.1 hs
  cases u with
  | K => simp [psU, PS.Ok]
  | R => simp [psU, PS.Ok]
  | I z =>
    have hz : szI z ≠ 0 := h z hu
    exact ⟨by simp, fun y hy => by simp at hy; rw [hy]; exact hz⟩
/-- Single operations of a word are a delta, with that word. -/
theorem uops {C : List U} (h : PtsU C) (h1 : baseU C ≤ 1000) (h2 : tgtU C ≤ 1000) : chk (C.map uop) = 0 ∧ uw (stR (C.map uop)) = C := by
  have e : C.map uop = (C.map psU).map PS.op := by rw [List.map_map]; exact List.map_congr_left (fun u _ => uop_ps u)
  have hk := psU_ok h
  have ht : targU C = tgtU C := by rw [targU, tgt_targ]
  have := chk_ps hk (by rw [pw_psU]; exact h1) (by rw [pw_psU, ht]; exact h2)
  rw [e]
  exact ⟨this.1, by rw [this.2, uw_st hk, pw_psU]⟩

/-- Where Compose gives a delta: its error is 0, and its word is a's and then b's. -/
theorem coR_ok {A B : List OpD} (iA : ∀ o ∈ A, o.In) (iB : ∀ o ∈ B, o.In) (c1 : chk A = 0) (c2 : chk B = 0) (ct : tsum (stR A) = bsum (stR B)) :
    (coR A B).2 = 0 ∧ (coR A B).1 = jn (stR ((cpW A B).map uop)) ∧ uw (stR ((cpW A B).map uop)) = cpW A B ∧ baseU (cpW A B) = bsum (stR A) ∧ tgtU (cpW A B) = tsum (stR B) := by
  have okA := stR_ok iA
  have okB := stR_ok iB
  have bdA := stR_bd A
  have bdB := stR_bd B
  obtain ⟨a1, a2, a3, a4, a5⟩ := normal_facts okA bdA.1 bdA.2
  obtain ⟨b1, b2, b3, b4, b5⟩ := normal_facts okB bdB.1 bdB.2
  have jA := jn_in okA bdA.1 bdA.2
  have jB := jn_in okB bdB.1 bdB.2
  have ht : tgtU (uw (stR (jn (stR A)))) = baseU (uw (stR (jn (stR B)))) := by rw [tgt_uw, base_uw, a5, b4, ct]
  have hb : baseU (cpW A B) = bsum (stR A) := by rw [cpW, cmp_base _ _ ht, base_uw, a4]
  have hg : tgtU (cpW A B) = tsum (stR B) := by rw [cpW, cmp_tgt _ _ ht, tgt_uw, b5]
  have hp : PtsU (cpW A B) := pts_cmp _ _ (ptsU_uw (stR_ok jA.2)) (ptsU_uw (stR_ok jB.2))
  obtain ⟨u1, u2⟩ := uops hp (by rw [hb]; exact bdA.1) (by rw [hg]; exact bdB.2)
  have e : coR A B = (jn (stR ((cpW A B).map uop)), chk ((cpW A B).map uop)) := by rw [coR, if_pos c1, if_pos c2, if_pos ct]
  rw [e]
  exact ⟨u1, rfl, u2, hb, hg⟩
end Go.Proofs.Ytphbjbigjpfjfab
