/-
  When there is an order, and when documents agree: told of atoms.
-/
import Derived.Test.YtjimolafoihnpaaTsG
import Derived.Test.YtjimolafoihnpaaTsB
namespace Go.Proofs.Ytjimolafoihnpaa.tc
open Go.Maps Go.ChangeShapes Go.WideShapes Go.ChangeAt Go.RowKit Go.PlainAid

/-! ### Two in a row -/
theorem pair_sub {α : Type} {x y : α} : ∀ {l : List α}, [x, y].Sublist l ↔ ∃ i j : Nat, i < j ∧ l[i]? = some x ∧ l[j]? = some y
  | [] => by simp
  | z :: l => by
    constructor
    · intro h
      cases h with
      | cons _ h =>
        obtain ⟨i, j, h1, h2, h3⟩ := pair_sub.1 h
        exact ⟨i + 1, j + 1, by omega, by simpa using h2, by simpa using h3⟩
      | cons_cons _ h =>
        have hy : y ∈ l := List.singleton_sublist.1 h
        obtain ⟨j, hj⟩ := List.mem_iff_getElem?.1 hy
        exact ⟨0, j + 1, by omega, by simp, by simpa using hj⟩
    · rintro ⟨i, j, h1, h2, h3⟩
      cases j with
      | zero => omega
      | succ j =>
        have h3' : l[j]? = some y := by simpa using h3
        cases i with
        | zero =>
          simp at h2
          subst h2
          exact (List.singleton_sublist.2 (List.mem_of_getElem? h3')).cons_cons _
        | succ i =>
          exact (pair_sub.2 ⟨i, j, by omega, by simpa using h2, h3'⟩).cons _
theorem idx_one {α : Type} {l : List α} (hn : l.Nodup) {i j : Nat} {x : α} (hi : l[i]? = some x) (hj : l[j]? = some x) : i = j := by
  rcases Nat.lt_trichotomy i j with h | h | h
  · exact absurd rfl ((List.pairwise_iff_getElem.1 hn) i j (List.getElem?_eq_some_iff.1 hi).1 (List.getElem?_eq_some_iff.1 hj).1 h |> fun q => by rw [(List.getElem?_eq_some_iff.1 hi).2, (List.getElem?_eq_some_iff.1 hj).2] at q; exact q)
  · exact h
  · exact absurd rfl ((List.pairwise_iff_getElem.1 hn) j i (List.getElem?_eq_some_iff.1 hj).1 (List.getElem?_eq_some_iff.1 hi).1 h |> fun q => by rw [(List.getElem?_eq_some_iff.1 hi).2, (List.getElem?_eq_some_iff.1 hj).2] at q; exact q)
theorem pair_not {α : Type} {l : List α} (hn : l.Nodup) {x y : α} (h1 : [x, y].Sublist l) (h2 : [y, x].Sublist l) : False := by
  obtain ⟨i, j, a1, a2, a3⟩ := pair_sub.1 h1
  obtain ⟨p, q, b1, b2, b3⟩ := pair_sub.1 h2
  have e1 := idx_one hn a2 b3
  have e2 := idx_one hn a3 b2
  omega
theorem first_bad {α : Type} (p : α → Prop) [DecidablePred p] : ∀ (l : List α), (∃ x ∈ l, p x) → ∃ a n b, l = a ++ n :: b ∧ p n ∧ ∀ x ∈ a, ¬ p x
  | [], h => by obtain ⟨x, hx, -⟩ := h; simp at hx
  | y :: l, h => by
    by_cases hy : p y
    · exact ⟨[], y, l, rfl, hy, by simp⟩
    · obtain ⟨x, hx, hp⟩ := h
      have hx' : x ∈ l := by
        rcases List.mem_cons.1 hx with rfl | h
        · exact absurd hp hy
        · exact h
      obtain ⟨a, n, b, e, h1, h2⟩ := first_bad p l ⟨x, hx', hp⟩
      refine ⟨y :: a, n, b, by rw [e]; rfl, h1, fun z hz => ?_⟩
      rcases List.mem_cons.1 hz with rfl | hz
      · exact hy
      · exact h2 z hz
/-- If there is an order, all names come. -/
theorem row_complete {D : List (List (Nat × Int))} {m : Nat} {s : Gs} (h : Iv D m s [] []) (hl : s.lt = []) (hF : Fit3 D m) (hall : ∀ n, n < m → ∃ d, n ∈ nmD D d) {l : List Nat} (ho : OrdN D l) : m ≤ s.row.length := by
  rcases Nat.lt_or_ge s.row.length m with hlt | hge
  · exfalso
    have hex : ∃ n, n < m ∧ n ∉ s.row := by
      apply Classical.byContradiction
      intro hc
      have := sub_len (List.range m) s.row List.nodup_range (fun x hx => Classical.byContradiction fun q => hc ⟨x, List.mem_range.1 hx, q⟩)
      rw [List.length_range] at this
      omega
    obtain ⟨n0, hn0, hn0r⟩ := hex
    obtain ⟨d0, hd0⟩ := hall n0 hn0
    obtain ⟨a, n, b, e, ⟨hnm, hnr⟩, ha⟩ := first_bad (fun n => n < m ∧ n ∉ s.row) l ⟨n0, (ho.2 d0).subset hd0, hn0, hn0r⟩
    have hst : ∀ o, n ∈ nmD D o → (nmD D o)[atd s o]? = some n := by
      intro o hno
      have h1 : n ∈ (nmD D o).drop (atd s o) := by
        rw [← List.take_append_drop (atd s o) (nmD D o)] at hno
        rcases List.mem_append.1 hno with q | q
        · exact absurd (h.ps o n q) hnr
        · exact q
      obtain ⟨y, r, hy⟩ : ∃ y r, (nmD D o).drop (atd s o) = y :: r := by
        cases hdr : (nmD D o).drop (atd s o) with
        | nil => rw [hdr] at h1; simp at h1
        | cons y r => exact ⟨y, r, rfl⟩
      have hyd : y ∈ (nmD D o).drop (atd s o) := by rw [hy]; simp
      have hyr : y ∉ s.row := fun q => h.nx o y q (by simp) hyd
      have hym : y < m := hF.nm (List.mem_of_mem_drop hyd)
      have hyn : y = n := by
        apply Classical.byContradiction
        intro hne
        rw [hy] at h1
        have hnr2 : n ∈ r := by
          rcases List.mem_cons.1 h1 with q | q
          · exact absurd q.symm hne
          · exact q
        have h2 : [y, n].Sublist l := ((List.singleton_sublist.2 hnr2).cons_cons y).trans (by rw [← hy]; exact (List.drop_sublist _ _).trans (ho.2 o))
        have hya : y ∉ a := fun q => ha y q ⟨hym, hyr⟩
        have hyl : y ∈ l := h2.subset (by simp)
        rw [e] at hyl
        have hyb : y ∈ b := by
          simp only [List.mem_append, List.mem_cons] at hyl
          rcases hyl with q | q | q
          · exact absurd q hya
          · exact absurd q hne
          · exact q
        have h3 : [n, y].Sublist l := by
          rw [e]
          exact ((List.singleton_sublist.2 hyb).cons_cons n).trans (List.sublist_append_right a _)
        exact pair_not ho.1 h2 h3
      subst hyn
      have h3 : (nmD D o)[atd s o]? = some y := by
        have h4 : ((nmD D o).drop (atd s o))[0]? = some y := by rw [hy]; rfl
        rw [List.getElem?_drop] at h4
        exact h4
      exact h3
    have hHn : (rsH (hvD D) n).Nodup := by
      rw [List.nodup_iff_count]
      intro o
      rw [hv_count]
      exact List.nodup_iff_count.1 ((ho.2 o).nodup ho.1) n
    have hne : rsH (hvD D) n ≠ [] := by
      obtain ⟨d, hd⟩ := hall n hnm
      exact List.ne_nil_of_mem (hv_mem.2 hd)
    have h1 := h.cl n hnm hnr hne
    have h2 := h.cnt n hnm hnr
    have h3 := sub_len (rsH (hvD D) n) (wt D s (s.lt ++ [] ++ []) n) hHn (fun o ho2 => wt_mem.2 ⟨hv_lt ho2, by rw [hl]; simp, hst o (hv_mem.1 ho2)⟩)
    omega
  · exact hge

/-! ### Points of names -/
structure PtI (n : Nat) (l : List (Nat × Int)) (P : List Int) : Prop where
  len : P.length = n
  hit : ∀ x ∈ l, P.getD x.1 (-1) = x.2
  out : ∀ i, i ∉ l.map Prod.fst → P.getD i (-1) = -1
theorem ptS_none (l : List (Nat × Int)) : l.foldl ptS none = none := by
  induction l with
  | nil => rfl
  | cons x l ih => rw [List.foldl_cons]; exact ih
theorem pt_run {n : Nat} : ∀ (l pre : List (Nat × Int)) (P : List Int), (∀ x ∈ pre ++ l, 0 ≤ x.2 ∧ x.1 < n) → PtI n pre P → ((∃ Q, l.foldl ptS (some P) = some Q ∧ PtI n (pre ++ l) Q) ∧ ∀ x ∈ pre ++ l, ∀ y ∈ pre ++ l, x.1 = y.1 → x.2 = y.2) ∨ (l.foldl ptS (some P) = none ∧ ∃ x ∈ pre ++ l, ∃ y ∈ pre ++ l, x.1 = y.1 ∧ x.2 ≠ y.2)
  | [], pre, P, hz, h => .inl ⟨⟨P, rfl, by simpa using h⟩, fun x hx y hy e => by
      rw [List.append_nil] at hx hy
      rw [← h.hit x hx, ← h.hit y hy, e]⟩
  | x :: l, pre, P, hz, h => by
    have hxz := hz x (by simp)
    have hpre : pre ++ x :: l = (pre ++ [x]) ++ l := by simp
    rw [List.foldl_cons]
    have hS : ptS (some P) x = if 0 ≤ P.getD x.1 (-1) ∧ P.getD x.1 (-1) ≠ x.2 then none else some (P.set x.1 x.2) := rfl
    rw [hS]
    by_cases hb : 0 ≤ P.getD x.1 (-1) ∧ P.getD x.1 (-1) ≠ x.2
    · rw [if_pos hb, ptS_none]
      right
      have hm : x.1 ∈ pre.map Prod.fst := Classical.byContradiction fun q => by
        rw [h.out x.1 q] at hb
        omega
      obtain ⟨y, hy, e⟩ := List.mem_map.1 hm
      refine ⟨rfl, x, by simp, y, by simp [hy], e.symm, fun q => hb.2 ?_⟩
      rw [← e, h.hit y hy, q]
    · rw [if_neg hb, hpre]
      have hxl : x.1 < P.length := by rw [h.len]; exact hxz.2
      have hg : ∀ i, (P.set x.1 x.2).getD i (-1) = if x.1 = i then x.2 else P.getD i (-1) := fun i => by
        rw [List.getD_eq_getElem?_getD, List.getD_eq_getElem?_getD]
        by_cases e : x.1 = i
        · subst e
          rw [List.getElem?_set_self hxl, if_pos rfl]
          rfl
        · rw [List.getElem?_set_ne e, if_neg e]
      refine pt_run l (pre ++ [x]) (P.set x.1 x.2) (by rw [← hpre]; exact hz) ⟨by simp [h.len], fun y hy => ?_, fun i hi => ?_⟩
      · rw [hg]
        rcases List.mem_append.1 hy with hy | hy
        · split
          · rename_i e
            have h1 := h.hit y hy
            rw [← e] at h1
            have h2 := (hz y (by simp [hy])).1
            apply Classical.byContradiction
            intro q
            exact hb ⟨by rw [h1]; exact h2, by rw [h1]; exact fun r => q r.symm⟩
          · exact h.hit y hy
        · obtain rfl := List.mem_singleton.1 hy
          rw [if_pos rfl]
      · rw [hg, if_neg (by rintro rfl; exact hi (by simp))]
        exact h.out i (fun q => hi (by rw [List.map_append]; exact List.mem_append_left _ q))
theorem ptF_is {n : Nat} {l : List (Nat × Int)} (hz : ∀ x ∈ l, 0 ≤ x.2 ∧ x.1 < n) : ((∃ P, ptF n l = some P ∧ PtI n l P) ∧ ∀ x ∈ l, ∀ y ∈ l, x.1 = y.1 → x.2 = y.2) ∨ (ptF n l = none ∧ ∃ x ∈ l, ∃ y ∈ l, x.1 = y.1 ∧ x.2 ≠ y.2) := by
  have := pt_run (n := n) l [] (List.replicate n (-1)) (by simpa using hz) ⟨by simp, by simp, fun i _ => by
    rw [List.getD_eq_getElem?_getD, List.getElem?_replicate]
    split <;> rfl⟩
  simpa [ptF] using this
theorem pts_pos (t : ByteArray) : ∀ z ∈ pts t, 0 ≤ z := by
  intro z hz
  simp only [pts, ptL, List.mem_map] at hz
  obtain ⟨k, -, rfl⟩ := hz
  unfold pt
  by_cases h : (nx t (pos t k)).2 = 0
  · rw [nx_pair t _ h]; exact Int.le_refl _
  · exact (szI_nonneg (by rw [(nx_bd t _ h).2.2.2]; exact h)).1
theorem atG_z (c q : Int) : ∀ (zs : List Int) (n : Int) (x : Atm), x ∈ atG c q n zs → x.z ∈ zs
  | [], n, x, h => by simp [atG] at h
  | z :: zs, n, x, h => by
    rw [atG, List.mem_cons] at h
    rcases h with rfl | h
    · simp
    · exact List.mem_cons_of_mem _ (atG_z c q zs (n + 1) x h)
theorem aT_pos {l : List RunD} {x : Atm} (h : x ∈ aT l) : 0 ≤ x.z := by
  simp only [aT, List.mem_flatten, List.mem_map] at h
  obtain ⟨_, ⟨r, -, rfl⟩, h⟩ := h
  unfold atR at h
  split at h
  · exact pts_pos _ _ (atG_z _ _ _ _ _ h)
  · simp at h
end Go.Proofs.Ytjimolafoihnpaa.tc
