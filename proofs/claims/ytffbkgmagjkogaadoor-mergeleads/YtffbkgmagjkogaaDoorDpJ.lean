/-
  A document behind a delta: its text, and it may be. No walk.
-/
import Derived.Test.YtffbkgmagjkogaaDoorDpG
namespace Go.Proofs.YtffbkgmagjkogaaDoor
open Go.ChangeShapes Go.WideShapes Go.ChangeAt Go.RowKit Go.PlainAid

theorem atG_z (c q : Int) : ∀ (n : Int) (zs : List Int), (atG c q n zs).map Atm.z = zs
  | _, [] => rfl
  | n, z :: zs => by rw [atG, List.map_cons, atG_z c q (n + 1) zs]
/-- The code points of a document's atoms are those of its text. -/
theorem pts_txt : ∀ (l : List RunD), (∀ r ∈ l, r.Ok) → 0 ≤ cpl (mk (txB l)) ∧ pts (mk (txB l)) = (ats l).map Atm.z
  | [], _ => by
    refine ⟨by rw [txB_nil, mk_nil0]; omega, ?_⟩
    have h := pts_len (t := mk (txB [])) (by rw [txB_nil, mk_nil0]; omega)
    rw [txB_nil, mk_nil0] at h
    rw [txB_nil, ats_nil, List.map_nil]
    exact List.length_eq_zero_iff.1 (by omega)
  | r :: l, h => by
    obtain ⟨i1, i2⟩ := pts_txt l (fun x hx => h x (by simp [hx]))
    have hr : r.Ok := h r (by simp)
    have h0 : 0 ≤ cpl r.t := by unfold RunD.Ok at hr; omega
    obtain ⟨a1, a2⟩ := app_pts h0 i1
    rw [show r :: l = [r] ++ l from rfl, txB_append, txB_one, ← mk_app, mk_self, a1, a2, show [r] ++ l = r :: l from rfl, ats_cons, List.map_append, i2, RunD.ats, atG_z]
    exact ⟨by omega, rfl⟩
theorem apA_z (c q : Int) : ∀ (ds : List St) (A : List Atm) (n : Int), (apA c q A n ds).map Atm.z = apRun (A.map Atm.z) ds
  | [], A, n => rfl
  | .keep k :: ds, A, n => by rw [apA, apRun, List.map_append, apA_z c q ds, List.map_take, List.map_drop]
  | .rem k :: ds, A, n => by rw [apA, apRun, apA_z c q ds, List.map_drop]
  | .ins t :: ds, A, n => by rw [apA, apRun, List.map_append, apA_z c q ds, atG_z]
/-- Each atom behind a delta was there, or is new. -/
theorem apA_mem (c q : Int) : ∀ (ds : List St) (A : List Atm) (n : Int), (∀ s ∈ ds, s.Ok) → ∀ x ∈ apA c q A n ds, x ∈ A ∨ (x.c = c ∧ x.q = q ∧ n ≤ x.n ∧ x.n < n + isum ds)
  | [], A, n, _, x, h => by simp [apA] at h
  | .keep k :: ds, A, n, ho, x, h => by
    rw [apA, List.mem_append] at h
    rcases h with h | h
    · exact .inl (List.mem_of_mem_take h)
    · rcases apA_mem c q ds _ n (fun s hs => ho s (by simp [hs])) x h with g | g
      · exact .inl (List.mem_of_mem_drop g)
      · exact .inr g
  | .rem k :: ds, A, n, ho, x, h => by
    rw [apA] at h
    rcases apA_mem c q ds _ n (fun s hs => ho s (by simp [hs])) x h with g | g
    · exact .inl (List.mem_of_mem_drop g)
    · exact .inr g
  | .ins t :: ds, A, n, ho, x, h => by
    have ht : 0 < cpl t := (ho (.ins t) (by simp)).1
    have hp := isum_pos (ds := ds) (fun s hs => ho s (by simp [hs]))
    rw [apA, List.mem_append] at h
    rcases h with h | h
    · obtain ⟨a, b, d, e⟩ := atG_mem c q _ _ x h
      rw [pts_len (by omega)] at e
      exact .inr ⟨a, b, d, by rw [isum]; omega⟩
    · rcases apA_mem c q ds _ (n + cpl t) (fun s hs => ho s (by simp [hs])) x h with g | g
      · exact .inl g
      · exact .inr ⟨g.1, g.2.1, by omega, by rw [isum]; omega⟩
theorem atG_nodup (c q : Int) (zs : List Int) (n : Int) : ((atG c q n zs).map Atm.key).Nodup := by
  rw [atG_key, List.Nodup, List.pairwise_map]
  refine List.Pairwise.imp ?_ (List.pairwise_lt_range (n := zs.length))
  intro a b hab e
  simp only [Prod.mk.injEq, true_and] at e
  omega
theorem apA_nodup (c q : Int) : ∀ (ds : List St) (A : List Atm) (n : Int), (∀ s ∈ ds, s.Ok) → (A.map Atm.key).Nodup → (∀ x ∈ A, ¬ (x.c = c ∧ x.q = q)) → ((apA c q A n ds).map Atm.key).Nodup
  | [], A, n, _, _, _ => by simp [apA]
  | .keep k :: ds, A, n, ho, hn, hc => by
    have ho' : ∀ s ∈ ds, s.Ok := fun s hs => ho s (by simp [hs])
    have hn2 : ((A.drop k).map Atm.key).Nodup := hn.sublist ((List.drop_sublist _ _).map _)
    have i := apA_nodup c q ds (A.drop k) n ho' hn2 (fun x hx => hc x (List.mem_of_mem_drop hx))
    rw [apA, List.map_append]
    refine List.nodup_append.2 ⟨hn.sublist ((List.take_sublist _ _).map _), i, ?_⟩
    intro a ha b hb e
    subst e
    obtain ⟨x, hx, hxa⟩ := List.mem_map.1 ha
    obtain ⟨y, hy, hya⟩ := List.mem_map.1 hb
    have hk : x.key = y.key := hxa.trans hya.symm
    rcases apA_mem c q ds _ n ho' y hy with g | g
    · have := hn
      rw [← List.take_append_drop k A, List.map_append] at this
      exact (List.nodup_append.1 this).2.2 x.key (List.mem_map.2 ⟨x, hx, rfl⟩) y.key (List.mem_map.2 ⟨y, g, rfl⟩) hk
    · refine hc x (List.mem_of_mem_take hx) ?_
      simp only [Atm.key, Prod.mk.injEq] at hk
      exact ⟨hk.1.trans g.1, hk.2.1.trans g.2.1⟩
  | .rem k :: ds, A, n, ho, hn, hc => by
    rw [apA]
    exact apA_nodup c q ds (A.drop k) n (fun s hs => ho s (by simp [hs])) (hn.sublist ((List.drop_sublist _ _).map _)) (fun x hx => hc x (List.mem_of_mem_drop hx))
  | .ins t :: ds, A, n, ho, hn, hc => by
    have ho' : ∀ s ∈ ds, s.Ok := fun s hs => ho s (by simp [hs])
    have ht : 0 < cpl t := (ho (.ins t) (by simp)).1
    have i := apA_nodup c q ds A (n + cpl t) ho' hn hc
    rw [apA, List.map_append]
    refine List.nodup_append.2 ⟨atG_nodup c q _ _, i, ?_⟩
    intro a ha b hb e
    subst e
    obtain ⟨x, hx, hxa⟩ := List.mem_map.1 ha
    obtain ⟨y, hy, hya⟩ := List.mem_map.1 hb
    have hk : x.key = y.key := hxa.trans hya.symm
    simp only [Atm.key, Prod.mk.injEq] at hk
    obtain ⟨a1, a2, a3, a4⟩ := atG_mem c q _ _ x hx
    rw [pts_len (by omega)] at a4
    rcases apA_mem c q ds _ _ ho' y hy with g | g
    · exact hc y g ⟨hk.1.symm.trans a1, hk.2.1.symm.trans a2⟩
    · omega
/-- An answer without an error: what is known. -/
theorem dc_ok {l : List RunD} {ds : List OpD} {c q : Int} (h : dcE l ds c q = 0) : Good l ∧ chk ds = 0 ∧ bsum (stR ds) = num l ∧ orM c q = true ∧ l.any (orQ c q) = false ∧ dcL l ds c q = adR c q [] l 0 (stR ds) := by
  unfold dcE at h
  unfold dcL
  split at h
  · rename_i h1
    split at h
    · rename_i h2
      split at h
      · rename_i h3
        split at h
        · rename_i h4
          exact ⟨(good_iff l).1 h1, h2, h3, h4.1, h4.2, by rw [if_pos h1, if_pos h2, if_pos h3, if_pos h4]⟩
        · cases h
      · cases h
    · rename_i h2; exact absurd h h2
  · cases h
theorem dc_no {l : List RunD} {ds : List OpD} {c q : Int} (h : dcE l ds c q ≠ 0) : dcL l ds c q = [] := by
  unfold dcE at h
  unfold dcL
  split
  · rename_i h1
    rw [if_pos h1] at h
    split
    · rename_i h2
      rw [if_pos h2] at h
      split
      · rename_i h3
        rw [if_pos h3] at h
        split
        · rename_i h4
          rw [if_pos h4] at h
          exact absurd rfl h
        · rfl
      · rfl
    · rfl
  · rfl
theorem any_ats {l : List RunD} {c q : Int} (h : l.any (orQ c q) = false) : ∀ x ∈ ats l, ¬ (x.c = c ∧ x.q = q) := by
  intro x hx e
  simp only [ats, List.mem_flatten, List.mem_map] at hx
  obtain ⟨s, ⟨r, hr, rfl⟩, hx⟩ := hx
  obtain ⟨a, b, -, -⟩ := atG_mem _ _ _ _ x hx
  have := List.any_eq_false.1 h r hr
  apply this
  simp only [orQ, Bool.and_eq_true, decide_eq_true_eq]
  exact ⟨a.symm.trans e.1, b.symm.trans e.2⟩
/-- What Apply gives: its atoms; it may be; its text. -/
theorem dc_facts {l : List RunD} {ds : List OpD} {c q : Int} (hi : ∀ o ∈ ds, o.In) (h : dcE l ds c q = 0) :
    ats (dcL l ds c q) = apA c q (ats l) 0 (stR ds) ∧ Good (dcL l ds c q) ∧ apR (mk (txB l)) ds = (mk (txB (dcL l ds c q)), 0) := by
  obtain ⟨hG, h2, h3, h4, h5, h6⟩ := dc_ok h
  have hok := stR_ok hi
  have hrk : ∀ r ∈ l, r.Ok := fun r hr => (hG.fit r hr).ok
  obtain ⟨b1, b2⟩ := adR_ats c q (stR ds) [] l 0 trivial hrk hok
  rw [← h6, ats_nil, List.nil_append] at b2
  rw [← h6] at b1
  obtain ⟨g1, g2, g3, g4⟩ := good_ats.1 hG
  have hnm := num_ats hrk
  have hls := isum_le (stR ds) hok
  have hbd := (stR_bd ds).2
  obtain ⟨p1, p2⟩ := pts_txt l hrk
  obtain ⟨m1, m2⟩ := pts_txt (dcL l ds c q) b1.all
  have hrun : pts (mk (txB (dcL l ds c q))) = apRun (pts (mk (txB l))) (stR ds) := by rw [m2, b2, apA_z, p2]
  have hcp : cpl (mk (txB l)) = (num l : Int) := txt_cpl l hrk
  refine ⟨b2, good_ats.2 ⟨b1, fun x hx => ?_, ?_, ?_⟩, ?_⟩
  · rw [b2] at hx
    rcases apA_mem c q _ _ _ hok x hx with g | g
    · exact g2 x g
    · refine ⟨by rw [g.1, g.2.1]; exact h4, g.2.2.1, by have := g.2.2.2; omega⟩
  · rw [b2]
    exact apA_nodup c q _ _ _ hok g3 (any_ats h5)
  · have e : (ats (dcL l ds c q)).length = tsum (stR ds) := by
      have := apRun_len (stR ds) (pts (mk (txB l))) (by rw [p2, List.length_map, ← hnm, h3]; exact Nat.le_refl _)
      rw [← hrun, m2, List.length_map] at this
      exact this
    omega
  · unfold apR
    rw [if_neg (by omega), if_neg (by omega), if_neg (by rw [hcp, h3]; omega), ← hrun]
    exact congrArg (fun x => (x, (0 : Int))) (whole_eq (cpl_valid m1)).1
end Go.Proofs.YtffbkgmagjkogaaDoor
