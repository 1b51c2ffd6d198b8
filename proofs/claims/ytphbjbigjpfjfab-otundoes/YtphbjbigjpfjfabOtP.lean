/-
  What is composed does what the two do: on code points. No walk.
-/
import Derived.Test.YtphbjbigjpfjfabOtO
namespace Go.Proofs.Ytphbjbigjpfjfab
open Go.RowKit Go.PlainAid

theorem apM_len (zs : List Int) (m : List (Nat ⊕ Int)) : (apM zs m).length = m.length := by simp [apM]
theorem ap_len {l : List St} {zs : List Int} (h : bsum l ≤ zs.length) : (apRun zs l).length = tsum l := by
  have e := apRun_marks l zs 0 (by omega)
  rw [List.drop_zero] at e
  rw [e, apM_len, tgt_targ, tgt_uw]
theorem ap_cmp {a b l : List St} {zs : List Int} (h : Eqv (uw l) (cmp (uw a) (uw b))) (ht : tsum a = bsum b) (hb : bsum a ≤ zs.length) (hl : bsum l ≤ zs.length) : apRun zs l = apRun (apRun zs a) b := by
  have hw : tgtU (uw a) = baseU (uw b) := by rw [tgt_uw, base_uw, ht]
  have e1 := apRun_marks l zs 0 (by omega)
  have e2 := apRun_marks a zs 0 (by omega)
  have e3 := apRun_marks b (apRun zs a) 0 (by rw [ap_len hb, ht]; omega)
  rw [List.drop_zero] at e1 e2 e3
  rw [e1, e3, h.2, cmp_marks _ _ 0 hw]
  simp only [apM, List.map_map]
  refine List.map_congr_left (fun m hm => ?_)
  cases m with
  | inr z => rfl
  | inl j =>
    have hj := marks_lt _ 0 j hm
    have hlj : j < (mkU 0 (uw a)).length := by rw [tgt_targ]; omega
    rw [e2]
    simp [apM, sub, List.getD_eq_getElem?_getD, List.getElem?_eq_getElem hlj]
end Go.Proofs.Ytphbjbigjpfjfab
