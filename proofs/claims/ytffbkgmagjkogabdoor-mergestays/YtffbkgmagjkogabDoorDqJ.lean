/-
  Atoms put together as runs, atom by atom: runs as they must stand, with just these atoms. No walk.
-/
import Derived.Test.YtffbkgmagjkogabDoorDqG
namespace Go.Proofs.YtffbkgmagjkogabDoor
open Go.ChangeShapes Go.WideShapes Go.ChangeAt Go.RowKit Go.PlainAid

/-- One atom as a run. -/
def oneA (x : Atm) : RunD := ⟨x.c, x.q, x.n, mk (enc [x.z])⟩
theorem one_facts {x : Atm} (h : szI x.z ≠ 0) : (oneA x).Ok ∧ (oneA x).ats = [x] ∧ cpl (oneA x).t = 1 := by
  obtain ⟨e1, e2⟩ := cpl_enc (p := [x.z]) (by simpa using h)
  refine ⟨?_, ?_, ?_⟩
  · unfold RunD.Ok oneA
    simp only
    rw [e1]
    simp
  · unfold RunD.ats oneA
    simp only
    rw [e2]
    rfl
  · unfold oneA
    simp only
    rw [e1]
    rfl
/-- The runs of atoms. -/
def rnA (A : List Atm) : List RunD := wtL [] (A.map oneA)
theorem ats_ones : ∀ {A : List Atm}, (∀ x ∈ A, szI x.z ≠ 0) → ats (A.map oneA) = A
  | [], _ => rfl
  | x :: A, h => by
    rw [List.map_cons, ats_cons, (one_facts (h x (by simp))).2.1, ats_ones (A := A) (fun y hy => h y (by simp [hy]))]
    rfl
theorem rnA_can {A : List Atm} (h : ∀ x ∈ A, szI x.z ≠ 0) : Can (rnA A) ∧ ats (rnA A) = A := by
  have h1 := wtL_can (l := []) (more := A.map oneA) trivial (fun r hr => by
    obtain ⟨x, hx, rfl⟩ := List.mem_map.1 hr
    exact (one_facts (h x hx)).1)
  refine ⟨h1.1, ?_⟩
  have h2 := h1.2
  rw [ats_ones h, ats_nil, List.nil_append] at h2
  exact h2
theorem rnA_of {l : List RunD} (h : Can l) : rnA (ats l) = l := by
  have hz : ∀ x ∈ ats l, szI x.z ≠ 0 := fun x hx => by
    simp only [ats, List.mem_flatten, List.mem_map] at hx
    obtain ⟨_, ⟨r, hr, rfl⟩, hx⟩ := hx
    have ho := h.all r hr
    have hp := pts_sz (t := r.t) (by unfold RunD.Ok at ho; omega)
    have : x.z ∈ (atG r.c r.q r.f (pts r.t)).map Atm.z := List.mem_map.2 ⟨x, hx, rfl⟩
    rw [atG_z] at this
    exact hp _ this
  have := rnA_can hz
  exact can_inj this.1 h this.2
theorem rnA_take {A : List Atm} {k : Nat} (hk : k < A.length) : rnA (A.take (k + 1)) = wtS (rnA (A.take k)) (oneA A[k]) := by
  unfold rnA
  rw [List.take_succ_eq_append_getElem hk, List.map_append]
  unfold wtL
  rw [List.foldl_append]
  rfl
theorem ats_sz {l : List RunD} (h : ∀ r ∈ l, r.Ok) : ∀ x ∈ ats l, szI x.z ≠ 0 := fun x hx => by
  simp only [ats, List.mem_flatten, List.mem_map] at hx
  obtain ⟨_, ⟨r, hr, rfl⟩, hx⟩ := hx
  have ho := h r hr
  have hp := pts_sz (t := r.t) (by unfold RunD.Ok at ho; omega)
  have : x.z ∈ (atG r.c r.q r.f (pts r.t)).map Atm.z := List.mem_map.2 ⟨x, hx, rfl⟩
  rw [atG_z] at this
  exact hp _ this
/-- The last atom of runs. -/
theorem last_ats {Y : List RunD} {a : RunD} {P : List Atm} {x : Atm} (ha : a.Ok) (h : ats (Y ++ [a]) = P ++ [x]) : x.c = a.c ∧ x.q = a.q ∧ x.n + 1 = a.f + cpl a.t := by
  have hp := pts_pos ha
  have hl := pts_len (t := a.t) (by unfold RunD.Ok at ha; omega)
  rcases List.eq_nil_or_concat (pts a.t) with e | ⟨zs, z, e⟩
  · rw [e] at hp; simp at hp
  · rw [List.concat_eq_append] at e
    rw [ats_append, ats_cons, ats_nil, List.append_nil, RunD.ats, e, atG_append, ← List.append_assoc] at h
    have h2 := (List.append_inj' h (by simp [atG])).2
    simp only [atG, List.cons.injEq, and_true] at h2
    rw [← h2]
    rw [e] at hl
    simp only [List.length_append, List.length_cons, List.length_nil] at hl
    refine ⟨rfl, rfl, ?_⟩
    simp only
    omega
/-- Does an atom go on the one ahead of it? -/
def prv (A : List Atm) : Nat → Atm → Bool
  | 0, _ => false
  | j + 1, x => match A[j]? with
    | some y => decide (y.c = x.c) && decide (y.q = x.q) && decide (y.n + 1 = x.n)
    | none => false
theorem prv_some {A : List Atm} {j : Nat} {x y : Atm} (h : A[j]? = some y) : prv A (j + 1) x = (decide (y.c = x.c) && decide (y.q = x.q) && decide (y.n + 1 = x.n)) := by simp only [prv, h]
theorem rn_step {A : List Atm} {k : Nat} (hz : ∀ x ∈ A, szI x.z ≠ 0) (hk : k < A.length) :
    (prv A k A[k] = true → ∃ Y a, rnA (A.take k) = Y ++ [a] ∧ rnA (A.take (k + 1)) = Y ++ [a.cat (oneA A[k])]) ∧ (prv A k A[k] = false → rnA (A.take (k + 1)) = rnA (A.take k) ++ [(oneA A[k])]) := by
  rw [rnA_take hk]
  have hc := rnA_can (A := A.take k) (fun x hx => hz x (List.mem_of_mem_take hx))
  have h1 := one_facts (hz A[k] (by simp))
  cases k with
  | zero => exact ⟨fun h => by simp [prv] at h, fun _ => by simp [rnA, wtL, wtS]⟩
  | succ j =>
    have hj : A[j]? = some A[j] := by simp [show j < A.length by omega]
    rcases List.eq_nil_or_concat (rnA (A.take (j + 1))) with e | ⟨Y, a, e⟩
    · exfalso
      have := hc.2
      rw [e, ats_nil] at this
      have := congrArg List.length this
      simp at this
      omega
    · rw [List.concat_eq_append] at e
      rw [e] at hc ⊢
      have hl := last_ats (x := A[j]) (P := A.take j) (can_last hc.1) (by rw [hc.2, List.take_succ_eq_append_getElem (by omega)])
      have hn : nxR a (oneA A[j + 1]) = prv A (j + 1) A[j + 1] := by
        rw [prv_some hj]
        unfold nxR oneA
        simp only
        rw [← hl.1, ← hl.2.1, ← hl.2.2]
        simp only [eq_comm]
      refine ⟨fun h => ⟨Y, a, rfl, wtS_yes (by rw [hn]; exact h)⟩, fun h => wtS_no (by rw [hn]; exact h)⟩
theorem textR_one {z : Int} (h : szI z ≠ 0) : textR [z] = (mk (enc [z]), true) := by
  unfold textR
  rw [if_pos (by simpa using h)]
theorem one_size (x : Atm) : (oneA x).t.size ≤ 4 := by
  unfold oneA
  simp only [mk_size]
  have := enc_take_len [x.z] 1
  simpa using this
theorem rnA_small {A : List Atm} (hl : A.length ≤ 100000) (hz : ∀ x ∈ A, szI x.z ≠ 0) : (txB (rnA A)).length ≤ 400000 ∧ (rnA A).length ≤ 100000 := by
  have hc := rnA_can hz
  have hb := tx_bound (rnA A) hc.1.all
  rw [kysL_ats hc.1.all, List.length_map, hc.2] at hb
  omega
end Go.Proofs.YtffbkgmagjkogabDoor

/-
  The contract of the reference's Runs.
-/
namespace Go.Proofs.YtffbkgmagjkogabDoor
open Go.ChangeShapes Go.WideShapes Go.ChangeAt Go.RowKit Go.PlainAid

theorem reads_one (W : World) (z : Int) : ReadsI (W.alloc (.cells #[.int .i64 z] 3)) (.slice (some ⟨W.heap.size, 0, none⟩) 1 1) [z] := by
  refine .inr ⟨W.heap.size, 0, 1, rfl, fun i hi => ?_⟩
  have : i = 0 := by simp at hi; omega
  subst this
  have := heap_alloc_new W (.cells #[.int .i64 z] 3)
  unfold World.cell?
  rw [this]
  rfl

end Go.Proofs.YtffbkgmagjkogabDoor

/-
  Rows of atoms appended and cut; the reference's Slice and Join.
-/
namespace Go.Proofs.YtffbkgmagjkogabDoor
open Go.ChangeShapes Go.WideShapes Go.ChangeAt Go.RowKit Go.PlainAid

theorem acs_one' (l : List Atm) : ∀ u ∈ acs l, u.oneCell' = true := by
  intro u hu
  simp only [acs, List.mem_flatten, List.mem_map] at hu
  obtain ⟨_, ⟨o, _, rfl⟩, hu⟩ := hu
  simp only [List.mem_cons, List.not_mem_nil, or_false] at hu
  rcases hu with rfl | rfl | rfl | rfl <;> rfl
theorem rda_cells {w : World} {b off cp : Nat} {l : List Atm} (h : RdA w (.slice (some ⟨b, off, none⟩) l.length cp) l) : ∀ j u, (acs l)[j]? = some u → w.cell? ((⟨b, off, none⟩ : Addr).add j) = some u := by
  intro j u hj
  have hj' : j < l.length * 4 := by have := (List.getElem?_eq_some_iff.1 hj).1; rwa [acs_length] at this
  obtain ⟨b', o', e1, _, c0, c1, c2, c3⟩ := rda_at h (i := j / 4) (x := l[j / 4]) (by simp [show j / 4 < l.length by omega])
  cases e1
  obtain ⟨q0, q1, q2, q3⟩ := acs_at l (j / 4) l[j / 4] (by simp [show j / 4 < l.length by omega])
  rw [addr_add]
  rcases (show j = j / 4 * 4 ∨ j = j / 4 * 4 + 1 ∨ j = j / 4 * 4 + 2 ∨ j = j / 4 * 4 + 3 by omega) with h | h | h | h
  · rw [h] at hj ⊢
    rw [c0, ← q0, hj]
  · rw [h] at hj ⊢
    rw [← Nat.add_assoc, c1, ← q1, hj]
  · rw [h] at hj ⊢
    rw [← Nat.add_assoc, c2, ← q2, hj]
  · rw [h] at hj ⊢
    rw [← Nat.add_assoc, c3, ← q3, hj]

theorem bd_of {l : List RunD} (hc : Can l) (hm : ∀ x ∈ ats l, x.May) : ∀ r ∈ l, r.Bd := fun r hr => by
  have ho := hc.all r hr
  have hp := pts_pos ho
  obtain ⟨x, hx, e1, e2, e3⟩ := atG_has r.c r.q (pts r.t) r.f 0 hp
  have hxm : x ∈ ats l := by
    simp only [ats, List.mem_flatten, List.mem_map]
    exact ⟨_, ⟨r, hr, rfl⟩, hx⟩
  obtain ⟨m1, m2, m3⟩ := hm x hxm
  have m1 := orM_iff.1 m1
  rw [e1, e2] at m1
  exact ⟨by omega, by omega, by omega, by omega, by omega, by omega⟩
theorem jn_bd {a b : List RunD} (ha : Good a) (hb : Good b) : ∀ r ∈ jn2 a b, r.Bd := by
  have hj := jn_ats ha hb
  refine bd_of hj.1 (fun x hx => ?_)
  rw [hj.2] at hx
  rcases List.mem_append.1 hx with h | h
  · exact (good_ats.1 ha).2.1 x h
  · exact (good_ats.1 hb).2.1 x h


theorem jn_len (a b : List RunD) : (jnL a b).length ≤ 1125899906842624 := by
  unfold jnL
  split
  · rename_i h
    unfold jnB at h
    simp only [Bool.and_eq_true] at h
    have := ((good_iff _).1 h.2).bound.2
    omega
  · simp
end Go.Proofs.YtffbkgmagjkogabDoor
