/-
  The contract of the reference's Len; what Apply's answer is.
-/
import Derived.Test.YtjimolafoihnpaaDoorDlP
import Derived.Test.YtjimolafoihnpaaDoorTxFirstP
namespace Go.Proofs.YtjimolafoihnpaaDoor
open Go.ChangeShapes Go.WideShapes Go.ChangeAt Go.RowKit Go.PlainAid


/-- A text of few code points is short. -/
theorem size_smallL {s : ByteArray} (h : 0 ≤ cpl s) (h2 : cpl s ≤ 1000) : s.size ≤ 4000 := by
  by_cases h0 : 0 < cpl s
  · have := size_cpl h0; omega
  · have hv := cpl_valid (s := s) h
    have e : (cpl s).toNat = 0 := by omega
    rw [e] at hv
    have := hv.2
    simp [pos] at this
    omega
theorem apR_cases {s : ByteArray} {ds : List OpD} (hi : ∀ o ∈ ds, o.In) :
    ((apR s ds).2 ≠ 0 ∧ (apR s ds).1 = ⟨#[]⟩) ∨ ((apR s ds).2 = 0 ∧ chk ds = 0 ∧ (bsum (stR ds) : Int) = cpl s ∧ cpl (apR s ds).1 = (tsum (stR ds) : Int) ∧ (apR s ds).1 = mk (enc (apRun (pts s) (stR ds))) ∧ pts (apR s ds).1 = apRun (pts s) (stR ds)) := by
  by_cases c0 : cpl s < 0
  · rw [apR, if_pos c0]; exact .inl ⟨by decide, rfl⟩
  · by_cases c1 : chk ds = 0
    · by_cases c2 : (bsum (stR ds) : Int) = cpl s
      · rw [apR, if_neg c0, if_neg (fun h => h c1), if_neg (fun h => h c2)]
        have hp := pts_len (t := s) (by omega)
        have h1 := apRun_ok _ _ (stR_ok hi) (pts_ok (t := s) (by omega))
        have h2 := cpl_enc h1
        have h3 := apRun_len (stR ds) (pts s) (by omega)
        exact .inr ⟨rfl, c1, c2, by simp only; rw [h2.1, h3], rfl, h2.2⟩
      · rw [apR, if_neg c0, if_neg (fun h => h c1), if_pos c2]; exact .inl ⟨by decide, rfl⟩
    · rw [apR, if_neg c0, if_pos c1]; exact .inl ⟨c1, rfl⟩
end Go.Proofs.YtjimolafoihnpaaDoor
