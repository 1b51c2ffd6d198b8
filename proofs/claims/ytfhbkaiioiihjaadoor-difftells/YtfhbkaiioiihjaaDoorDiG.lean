/-
  What Diff gives, as a delta. No walk.
-/
import Derived.Test.YtfhbkaiioiihjaaDoorDiL
import Derived.Test.YtfhbkaiioiihjaaDoorDlX
namespace Go.Proofs.YtfhbkaiioiihjaaDoor
open Go.RowKit Go.PlainAid

theorem apR_of {s : ByteArray} {A : List OpD} (h0 : 0 ≤ cpl s) (h1 : chk A = 0) (h2 : (bsum (stR A) : Int) = cpl s) : apR s A = (mk (enc (apRun (pts s) (stR A))), 0) := by
  rw [apR, if_neg (by omega), if_neg (by simpa using h1), if_neg (by simpa using h2)]
/-- A delta that may be: how much it keeps, and of how much each operation is. -/
theorem kp_chk {D : List OpD} (hi : ∀ o ∈ D, o.In) (h : chk D = 0) : kpL D = (kU (uw (stR D)) : Int) ∧ (∀ o ∈ D, o.k = 1 → 0 ≤ o.n ∧ o.n ≤ 1000) := by
  have e := stR_op h
  have ok := stR_ok hi
  refine ⟨by rw [← kpL_st, e], fun o ho hk => ?_⟩
  rw [← e] at ho
  obtain ⟨s, hs, rfl⟩ := List.mem_map.1 ho
  have := ok s hs
  cases s with
  | keep n => simp only [St.Ok, St.op] at this ⊢; omega
  | rem n => simp [St.op] at hk
  | ins t => simp [St.op] at hk
theorem gives {a b : ByteArray} (h : ptE a b = 0) : (diR a b).2 = 0 ∧ chk (diR a b).1 = 0 ∧ jn (stR (diR a b).1) = (diR a b).1 ∧ (∀ o ∈ (diR a b).1, o.In) ∧ (diR a b).1.length ≤ 2000 ∧ apR a (diR a b).1 = (b, 0) ∧ kpL (diR a b).1 = (lc (pts a) (pts b) : Int) := by
  obtain ⟨c1, c2, d1, d2⟩ := ptE_zero h
  have lA := pts_len c1
  have lB := pts_len c2
  have hp := alU_pts (pts a) (pts b) (pts_ok c2)
  have hb := alU_base (pts a) (pts b)
  have ht := alU_targ (pts a) (pts b)
  obtain ⟨u1, u2⟩ := uops hp (by omega) (by omega)
  have hin := uop_in (alU (pts a) (pts b))
  have e : diR a b = (jn (stR ((alU (pts a) (pts b)).map uop)), chk ((alU (pts a) (pts b)).map uop)) := by rw [diR, if_pos h]
  have ap := apR_normal hin u1 a
  have hk := alU_k (pts a) (pts b)
  rw [e]
  simp only
  generalize (alU (pts a) (pts b)).map uop = L at *
  have ok := stR_ok hin
  have bd := stR_bd L
  obtain ⟨n1, n2, n3, n4, n5⟩ := normal_facts ok bd.1 bd.2
  have ji := jn_in ok bd.1 bd.2
  have hbs : bsum (stR L) = (pts a).length := by rw [← base_uw, u2, hb]
  refine ⟨u1, n1, n2, ji.2, ji.1, ?_, ?_⟩
  · rw [ap, apR_of c1 u1 (by rw [hbs]; exact lA)]
    have em := apRun_marks (stR L) (pts a) 0 (by omega)
    rw [List.drop_zero] at em
    rw [em, u2, alU_ap (pts a) (pts a) (pts b) 0 rfl]
    have := (whole_eq (cpl_valid c2)).1
    rw [show ptL b (cpl b).toNat = pts b from rfl] at this
    rw [this]
  · rw [(kp_chk ji.2 n1).1, kU_eqv n3, u2, hk]
theorem ptE_comm {a b : ByteArray} (h : ptE a b = 0) : ptE b a = 0 := by
  obtain ⟨c1, c2, d1, d2⟩ := ptE_zero h
  rw [ptE, if_pos ⟨c2, c1⟩, if_pos ⟨d2, d1⟩]
theorem diR_no {a b : ByteArray} (h : ptE a b ≠ 0) : diR a b = ([], ptE a b) := by rw [diR, if_neg h]
end Go.Proofs.YtfhbkaiioiihjaaDoor
