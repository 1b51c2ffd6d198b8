/-
  stages, whatever comes; a pair that was just made.
-/
import Derived.Test.YtblhmfkohbdmeaaWLawN
import Derived.Test.YtblhmfkohbdmeaaWLawR
namespace Go.Proofs.Ytblhmfkohbdmeaa
open Go.RowKit Go.Maps

theorem stOK (W0 : World) : StOK W0 := by
  intro W A B o h ho hB
  obtain ⟨pl, s, M, vl, late, hP, hI⟩ := h
  cases hd : (s.up && !pl) with
  | false => exact stages_down hP hI ho hd
  | true =>
    obtain ⟨hu, hp⟩ : s.up = true ∧ pl = false := by simpa using hd
    subst hp
    by_cases hk0 : o.k < 0
    · exact stages_neg hP hI ho hu hk0
    · by_cases hk1 : (A.N : Int) ≤ o.k
      · exact stages_big hP hI ho hu hk0 hk1
      · by_cases h64 : o.x.size = 64
        · obtain ⟨j, hj⟩ := Int.eq_ofNat_of_zero_le (show 0 ≤ o.k by omega)
          exact stages_go hP hI ho hu j hj (by omega) h64 hB
        · exact stages_odd hP hI ho hu hk0 hk1 h64

/-- A pair that was just made. -/
theorem made_after {W0 W : World} {A : PA} {n : Nat} (h : IsP W0 W A false false (newS n) (fun _ => [mk zeroS]) (.slice none 0 0) []) : After W0 W A 1 := by
  have hL : Live A.N (newS n) (fun _ => [mk zeroS]) := ⟨h.n, rfl, rfl, fun i _ => ⟨[], rfl⟩, fun i _ => by simp; rfl⟩
  exact ⟨false, newS n, _, _, [], h, fun _ => ⟨hL, rfl⟩, hL.cr [], fun _ => Nat.le_refl _, Nat.le_refl _, Nat.zero_le _⟩
end Go.Proofs.Ytblhmfkohbdmeaa
