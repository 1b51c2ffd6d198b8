/-
  The contracts of stepsOf, Check, Base and Target.
-/
import Derived.Test.YtffbkgmagjkogabDoorDlB
namespace Go.Proofs.YtffbkgmagjkogabDoor
open Go.ChangeShapes Go.WideShapes Go.ChangeAt Go.RowKit Go.PlainAid


/-- A text that came in is no longer than memory. -/
def OpD.In (o : OpD) : Prop := o.t.size ≤ 140737488355328
/-- The steps of operations. -/
def stl (ds : List OpD) : List St := ds.filterMap stOf
/-- Check's error. -/
def chk (ds : List OpD) : Int := if 3000 < ds.length then 90 else if ds.any (fun o => (stOf o).isNone) then 90 else if 1000 < bsum (stl ds) ∨ 1000 < tsum (stl ds) then 91 else 0
def stR (ds : List OpD) : List St := if chk ds = 0 then stl ds else []

theorem stl_len (ds : List OpD) : (stl ds).length ≤ ds.length := List.length_filterMap_le ..
theorem stl_take {ds : List OpD} {k : Nat} (h : k < ds.length) {s : St} (hs : stOf ds[k] = some s) : stl (ds.take (k + 1)) = stl (ds.take k) ++ [s] := by
  rw [List.take_succ_eq_append_getElem h, stl, stl, List.filterMap_append]
  simp [hs]
theorem stOf_ok {o : OpD} {s : St} (hi : o.In) (h : stOf o = some s) : s.Ok := by
  unfold stOf at h
  split at h
  · rename_i h1
    split at h
    · cases h; simp only [St.Ok]; omega
    · split at h
      · cases h; simp only [St.Ok]; omega
      · cases h
  · split at h
    · rename_i h1
      cases h; exact ⟨h1.2.2, hi⟩
    · cases h
theorem stl_ok {ds : List OpD} (hi : ∀ o ∈ ds, o.In) : ∀ s ∈ stl ds, s.Ok := by
  intro s hs
  obtain ⟨o, ho, h⟩ := List.mem_filterMap.1 hs
  exact stOf_ok (hi o ho) h
theorem stR_ok {ds : List OpD} (hi : ∀ o ∈ ds, o.In) : ∀ s ∈ stR ds, s.Ok := by
  unfold stR
  split
  · exact stl_ok hi
  · simp
theorem any_none {ds : List OpD} {k : Nat} (h : k < ds.length) (hs : stOf ds[k] = none) : ds.any (fun o => (stOf o).isNone) = true :=
  List.any_eq_true.2 ⟨ds[k], List.getElem_mem h, by rw [hs]; rfl⟩
theorem stR_len (ds : List OpD) : (stR ds).length ≤ 3000 := by
  unfold stR
  split
  · rename_i h
    unfold chk at h
    split at h
    · omega
    · have := stl_len ds; omega
  · simp
theorem stR_bd (ds : List OpD) : bsum (stR ds) ≤ 1000 ∧ tsum (stR ds) ≤ 1000 := by
  unfold stR
  split
  · rename_i h
    unfold chk at h
    split at h; · omega
    split at h; · omega
    split at h; · omega
    omega
  · simp [bsum, tsum]
theorem chk_no (ds : List OpD) (h : chk ds ≠ 0) : stR ds = [] := if_neg h
theorem chk_yes (ds : List OpD) (h : chk ds = 0) : stR ds = stl ds := if_pos h


end Go.Proofs.YtffbkgmagjkogabDoor
