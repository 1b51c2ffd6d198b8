/-
  The delta from a document to itself keeps all. No walk.
-/
import Derived.Test.YtffbkgmagjkogabDoorMgR
namespace Go.Proofs.YtffbkgmagjkogabDoor
open Go.ChangeShapes Go.WideShapes Go.ChangeAt Go.RowKit Go.PlainAid

theorem fit_self {A : List Atm} (nA : (kL A).Nodup) : ∀ (n k : Nat) (last : Int), n = A.length - k → last ≤ (k : Int) → fitG A last (A.drop k) = true
  | 0, k, last, h, _ => by
    rw [List.drop_eq_nil_of_le (by omega)]
    simp [fitG]
  | n + 1, k, last, h, hl => by
    have hk : k < A.length := by omega
    rw [fitG_drop hk]
    have hp : plK A A[k].key = some k := (plK_some nA).2 (by unfold kL; rw [List.getElem?_map, List.getElem?_eq_getElem hk]; rfl)
    rw [hp]
    simp only
    rw [if_neg, fit_self nA n (k + 1) (k : Int) (by omega) (by omega)]
    rintro (h1 | h1)
    · omega
    · exact h1 (by rw [List.getElem?_eq_getElem hk]; rfl)
theorem fitD_self {A : List Atm} (nA : (kL A).Nodup) : fitD A A = true := by
  have := fit_self nA (A.length - 0) 0 (-1) rfl (by omega)
  simpa [fitD] using this
def kpN (n : Nat) : List OpD := if n = 0 then [] else [⟨1, (n : Int), ⟨#[]⟩⟩]
theorem kpN_up (n : Nat) : kpD (kpN n) ++ dpO [] [] = kpN (n + 1) := by
  unfold kpN dpO
  by_cases h : n = 0
  · subst h
    simp [kpD]
  · rw [if_neg h]
    simp [kpD]
theorem dpG_kp : ∀ (m n : Nat), dpG (List.replicate m []) (List.replicate m []) (kpN n) = kpN (n + m)
  | 0, n => by simp [dpG]
  | m + 1, n => by
    rw [List.replicate_succ, dpG, kpN_up, dpG_kp m (n + 1)]
    congr 1
    omega
theorem stays {l : List RunD} (hg : Good l) : ddL l l = kpN (ats l).length := by
  have hn := (good_kl hg).1
  have h0 : ddE l l = 0 := by
    unfold ddE
    rw [fitD_self hn, if_pos, if_pos rfl]
    unfold ckL
    rw [if_pos]
    have := (good_iff l).2 hg
    simp [this]
  unfold ddL
  rw [if_pos h0, gp_all _ _ _ (fun u hu => hasK_self hu), List.nil_append, List.replicate_succ, dpD]
  have := dpG_kp (ats l).length 0
  simpa [dpO, kpN] using this
theorem stay_E {l : List RunD} : (ddE l l = 0 ∧ Good l) ∨ ddE l l = 120 := by
  unfold ddE
  by_cases h : ckL [l, l] = 0
  · have hg := ckL_good h l (by simp)
    rw [if_pos h, fitD_self (good_kl hg).1]
    exact .inl ⟨rfl, hg⟩
  · rw [if_neg h]
    exact .inr rfl
theorem stay_N {l : List RunD} (hg : Good l) : cpl (mk (txB l)) = ((ats l).length : Int) := by
  have hr : ∀ r ∈ l, r.Ok := fun r hr => (hg.fit r hr).ok
  rw [txt_cpl l hr]
  have := num_ats hr
  unfold num at this
  rw [this]
end Go.Proofs.YtffbkgmagjkogabDoor
