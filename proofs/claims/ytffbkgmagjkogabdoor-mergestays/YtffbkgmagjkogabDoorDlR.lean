/-
  The contracts of Apply, of the reference's Same, and of live.
-/
import Derived.Test.YtffbkgmagjkogabDoorDlP
import Derived.Deep.QuietTactic
import Derived.BigQuiet
namespace Go.Proofs.YtffbkgmagjkogabDoor
open Go.ChangeShapes Go.WideShapes Go.ChangeAt Go.RowKit Go.PlainAid

/-- What Apply gives. -/
def apR (s : ByteArray) (ds : List OpD) : ByteArray × Int :=
  if cpl s < 0 then (⟨#[]⟩, 10) else if chk ds ≠ 0 then (⟨#[]⟩, chk ds) else if (bsum (stR ds) : Int) ≠ cpl s then (⟨#[]⟩, 91) else (mk (enc (apRun (pts s) (stR ds))), 0)

theorem pts_ok {t : ByteArray} (h : 0 ≤ cpl t) : ∀ z ∈ pts t, szI z ≠ 0 := (whole_eq (cpl_valid h)).2
theorem apRun_ok : ∀ (l : List St) (zs : List Int), (∀ s ∈ l, s.Ok) → (∀ z ∈ zs, szI z ≠ 0) → ∀ z ∈ apRun zs l, szI z ≠ 0
  | [], _, _, _ => by simp [apRun]
  | .keep n :: l, zs, ho, hz => by
    intro z h
    rw [apRun, List.mem_append] at h
    rcases h with h | h
    · exact hz z (List.mem_of_mem_take h)
    · exact apRun_ok l _ (fun s hs => ho s (by simp [hs])) (fun x hx => hz x (List.mem_of_mem_drop hx)) z h
  | .rem n :: l, zs, ho, hz => by
    intro z h
    rw [apRun] at h
    exact apRun_ok l _ (fun s hs => ho s (by simp [hs])) (fun x hx => hz x (List.mem_of_mem_drop hx)) z h
  | .ins t :: l, zs, ho, hz => by
    intro z h
    rw [apRun, List.mem_append] at h
    rcases h with h | h
    · exact pts_ok (t := t) (by have := ho (.ins t) (by simp); simp only [St.Ok] at this; omega) z h
    · exact apRun_ok l _ (fun s hs => ho s (by simp [hs])) hz z h

theorem rdp_reads {w : World} {base n : Nat} {v : Value} {zs : List Int} (h : w.ownsRow base 3 1 v n (iv zs)) : ReadsI w v zs := by
  have hl := h.1
  rw [iv_length, Nat.mul_one] at hl
  subst hl
  exact readsI_own h


end Go.Proofs.YtffbkgmagjkogabDoor
