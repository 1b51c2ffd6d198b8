/-
  When there is an order, and when documents agree: told of atoms.
-/
import Derived.Test.YtjimolafoihnpaaDoorTsE
import Derived.Test.YtjimolafoihnpaaDoorTsA
import Derived.Test.YtjimolafoihnpaaDoorTrM
import Derived.Test.YtjimolafoihnpaaDoorTsO
namespace Go.Proofs.YtjimolafoihnpaaDoor.tc
open Go.Maps Go.ChangeShapes Go.WideShapes Go.ChangeAt Go.RowKit Go.PlainAid

/-! ### Two in a row -/
theorem pair_sub {α : Type} {x y : α} : ∀ {l : List α}, [x, y].Sublist l ↔ ∃ i j : Nat, i < j ∧ l[i]? = some x ∧ l[j]? = some y
  | [] => by simp
  | z :: l => by
    constructor
    · intro h
      cases h with
      | cons _ h =>
        obtain ⟨i, j, h1, h2, h3⟩ := pair_sub.1 h
        exact ⟨i + 1, j + 1, by omega, by simpa using h2, by simpa using h3⟩
      | cons_cons _ h =>
        have hy : y ∈ l := List.singleton_sublist.1 h
        obtain ⟨j, hj⟩ := List.mem_iff_getElem?.1 hy
        exact ⟨0, j + 1, by omega, by simp, by simpa using hj⟩
    · rintro ⟨i, j, h1, h2, h3⟩
      cases j with
      | zero => omega
      | succ j =>
        have h3' : l[j]? = some y := by simpa using h3
        cases i with
        | zero =>
          simp at h2
          subst h2
          exact (List.singleton_sublist.2 (List.mem_of_getElem? h3')).cons_cons _
        | succ i =>
          exact (pair_sub.2 ⟨i, j, by omega, by simpa using h2, h3'⟩).cons _
theorem idx_one {α : Type} {l : List α} (hn : l.Nodup) {i j : Nat} {x : α} (hi : l[i]? = some x) (hj : l[j]? = some x) : i = j := by
  rcases Nat.lt_trichotomy i j with h | h | h
  · exact absurd rfl ((List.pairwise_iff_getElem.1 hn) i j (List.getElem?_eq_some_iff.1 hi).1 (List.getElem?_eq_some_iff.1 hj).1 h |> fun q => by rw [(List.getElem?_eq_some_iff.1 hi).2, (List.getElem?_eq_some_iff.1 hj).2] at q; exact q)
  · exact h
  · exact absurd rfl ((List.pairwise_iff_getElem.1 hn) j i (List.getElem?_eq_some_iff.1 hj).1 (List.getElem?_eq_some_iff.1 hi).1 h |> fun q => by rw [(List.getElem?_eq_some_iff.1 hi).2, (List.getElem?_eq_some_iff.1 hj).2] at q; exact q)
theorem pair_not {α : Type} {l : List α} (hn : l.Nodup) {x y : α} (h1 : [x, y].Sublist l) (h2 : [y, x].Sublist l) : False := by
  obtain ⟨i, j, a1, a2, a3⟩ := pair_sub.1 h1
  obtain ⟨p, q, b1, b2, b3⟩ := pair_sub.1 h2
  have e1 := idx_one hn a2 b3
  have e2 := idx_one hn a3 b2
  omega
theorem first_bad {α : Type} (p : α → Prop) [DecidablePred p] : ∀ (l : List α), (∃ x ∈ l, p x) → ∃ a n b, l = a ++ n :: b ∧ p n ∧ ∀ x ∈ a, ¬ p x
  | [], h => by obtain ⟨x, hx, -⟩ := h; simp at hx
  | y :: l, h => by
    by_cases hy : p y
    · exact ⟨[], y, l, rfl, hy, by simp⟩
    · obtain ⟨x, hx, hp⟩ := h
      have hx' : x ∈ l := by
        rcases List.mem_cons.1 hx with rfl | h
        · exact absurd hp hy
        · exact h
      obtain ⟨a, n, b, e, h1, h2⟩ := first_bad p l ⟨x, hx', hp⟩
      refine ⟨y :: a, n, b, by rw [e]; rfl, h1, fun z hz => ?_⟩
      rcases List.mem_cons.1 hz with rfl | hz
      · exact hy
      · exact h2 z hz
/-- If there is an order, all names come. -/
theorem row_complete {D : List (List (Nat × Int))} {m : Nat} {s : Gs} (h : Iv D m s [] []) (hl : s.lt = []) (hF : Fit3 D m) (hall : ∀ n, n < m → ∃ d, n ∈ nmD D d) {l : List Nat} (ho : OrdN D l) : m ≤ s.row.length := by
  rcases Nat.lt_or_ge s.row.length m with hlt | hge
  · exfalso
    have hex : ∃ n, n < m ∧ n ∉ s.row := by
      apply Classical.byContradiction
      intro hc
      have := sub_len (List.range m) s.row List.nodup_range (fun x hx => Classical.byContradiction fun q => hc ⟨x, List.mem_range.1 hx, q⟩)
      rw [List.length_range] at this
      omega
    obtain ⟨n0, hn0, hn0r⟩ := hex
    obtain ⟨d0, hd0⟩ := hall n0 hn0
    obtain ⟨a, n, b, e, ⟨hnm, hnr⟩, ha⟩ := first_bad (fun n => n < m ∧ n ∉ s.row) l ⟨n0, (ho.2 d0).subset hd0, hn0, hn0r⟩
    have hst : ∀ o, n ∈ nmD D o → (nmD D o)[atd s o]? = some n := by
      intro o hno
      have h1 : n ∈ (nmD D o).drop (atd s o) := by
        rw [← List.take_append_drop (atd s o) (nmD D o)] at hno
        rcases List.mem_append.1 hno with q | q
        · exact absurd (h.ps o n q) hnr
        · exact q
      obtain ⟨y, r, hy⟩ : ∃ y r, (nmD D o).drop (atd s o) = y :: r := by
        cases hdr : (nmD D o).drop (atd s o) with
        | nil => rw [hdr] at h1; simp at h1
        | cons y r => exact ⟨y, r, rfl⟩
      have hyd : y ∈ (nmD D o).drop (atd s o) := by rw [hy]; simp
      have hyr : y ∉ s.row := fun q => h.nx o y q (by simp) hyd
      have hym : y < m := hF.nm (List.mem_of_mem_drop hyd)
      have hyn : y = n := by
        apply Classical.byContradiction
        intro hne
        rw [hy] at h1
        have hnr2 : n ∈ r := by
          rcases List.mem_cons.1 h1 with q | q
          · exact absurd q.symm hne
          · exact q
        have h2 : [y, n].Sublist l := ((List.singleton_sublist.2 hnr2).cons_cons y).trans (by rw [← hy]; exact (List.drop_sublist _ _).trans (ho.2 o))
        have hya : y ∉ a := fun q => ha y q ⟨hym, hyr⟩
        have hyl : y ∈ l := h2.subset (by simp)
        rw [e] at hyl
        have hyb : y ∈ b := by
          simp only [List.mem_append, List.mem_cons] at hyl
          rcases hyl with q | q | q
          · exact absurd q hya
          · exact absurd q hne
          · exact q
        have h3 : [n, y].Sublist l := by
          rw [e]
          exact ((List.singleton_sublist.2 hyb).cons_cons n).trans (List.sublist_append_right a _)
        exact pair_not ho.1 h2 h3
      subst hyn
      have h3 : (nmD D o)[atd s o]? = some y := by
        have h4 : ((nmD D o).drop (atd s o))[0]? = some y := by rw [hy]; rfl
        rw [List.getElem?_drop] at h4
        exact h4
      exact h3
    have hHn : (rsH (hvD D) n).Nodup := by
      rw [List.nodup_iff_count]
      intro o
      rw [hv_count]
      exact List.nodup_iff_count.1 ((ho.2 o).nodup ho.1) n
    have hne : rsH (hvD D) n ≠ [] := by
      obtain ⟨d, hd⟩ := hall n hnm
      exact List.ne_nil_of_mem (hv_mem.2 hd)
    have h1 := h.cl n hnm hnr hne
    have h2 := h.cnt n hnm hnr
    have h3 := sub_len (rsH (hvD D) n) (wt D s (s.lt ++ [] ++ []) n) hHn (fun o ho2 => wt_mem.2 ⟨hv_lt ho2, by rw [hl]; simp, hst o (hv_mem.1 ho2)⟩)
    omega
  · exact hge

/-! ### Points of names -/
structure PtI (n : Nat) (l : List (Nat × Int)) (P : List Int) : Prop where
  len : P.length = n
  hit : ∀ x ∈ l, P.getD x.1 (-1) = x.2
  out : ∀ i, i ∉ l.map Prod.fst → P.getD i (-1) = -1
theorem ptS_none (l : List (Nat × Int)) : l.foldl ptS none = none := by
  induction l with
  | nil => rfl
  | cons x l ih => rw [List.foldl_cons]; exact ih
theorem pt_run {n : Nat} : ∀ (l pre : List (Nat × Int)) (P : List Int), (∀ x ∈ pre ++ l, 0 ≤ x.2 ∧ x.1 < n) → PtI n pre P → ((∃ Q, l.foldl ptS (some P) = some Q ∧ PtI n (pre ++ l) Q) ∧ ∀ x ∈ pre ++ l, ∀ y ∈ pre ++ l, x.1 = y.1 → x.2 = y.2) ∨ (l.foldl ptS (some P) = none ∧ ∃ x ∈ pre ++ l, ∃ y ∈ pre ++ l, x.1 = y.1 ∧ x.2 ≠ y.2)
  | [], pre, P, hz, h => .inl ⟨⟨P, rfl, by simpa using h⟩, fun x hx y hy e => by
      rw [List.append_nil] at hx hy
      rw [← h.hit x hx, ← h.hit y hy, e]⟩
  | x :: l, pre, P, hz, h => by
    have hxz := hz x (by simp)
    have hpre : pre ++ x :: l = (pre ++ [x]) ++ l := by simp
    rw [List.foldl_cons]
    have hS : ptS (some P) x = if 0 ≤ P.getD x.1 (-1) ∧ P.getD x.1 (-1) ≠ x.2 then none else some (P.set x.1 x.2) := rfl
    rw [hS]
    by_cases hb : 0 ≤ P.getD x.1 (-1) ∧ P.getD x.1 (-1) ≠ x.2
    · rw [if_pos hb, ptS_none]
      right
      have hm : x.1 ∈ pre.map Prod.fst := Classical.byContradiction fun q => by
        rw [h.out x.1 q] at hb
        omega
      obtain ⟨y, hy, e⟩ := List.mem_map.1 hm
      refine ⟨rfl, x, by simp, y, by simp [hy], e.symm, fun q => hb.2 ?_⟩
      rw [← e, h.hit y hy, q]
    · rw [if_neg hb, hpre]
      have hxl : x.1 < P.length := by rw [h.len]; exact hxz.2
      have hg : ∀ i, (P.set x.1 x.2).getD i (-1) = if x.1 = i then x.2 else P.getD i (-1) := fun i => by
        rw [List.getD_eq_getElem?_getD, List.getD_eq_getElem?_getD]
        by_cases e : x.1 = i
        · subst e
          rw [List.getElem?_set_self hxl, if_pos rfl]
          rfl
        · rw [List.getElem?_set_ne e, if_neg e]
      refine pt_run l (pre ++ [x]) (P.set x.1 x.2) (by rw [← hpre]; exact hz) ⟨by simp [h.len], fun y hy => ?_, fun i hi => ?_⟩
      · rw [hg]
        rcases List.mem_append.1 hy with hy | hy
        · split
          · rename_i e
            have h1 := h.hit y hy
            rw [← e] at h1
            have h2 := (hz y (by simp [hy])).1
            apply Classical.byContradiction
            intro q
            exact hb ⟨by rw [h1]; exact h2, by rw [h1]; exact fun r => q r.symm⟩
          · exact h.hit y hy
        · obtain rfl := List.mem_singleton.1 hy
          rw [if_pos rfl]
      · rw [hg, if_neg (by rintro rfl; exact hi (by simp))]
        exact h.out i (fun q => hi (by rw [List.map_append]; exact List.mem_append_left _ q))
theorem ptF_is {n : Nat} {l : List (Nat × Int)} (hz : ∀ x ∈ l, 0 ≤ x.2 ∧ x.1 < n) : ((∃ P, ptF n l = some P ∧ PtI n l P) ∧ ∀ x ∈ l, ∀ y ∈ l, x.1 = y.1 → x.2 = y.2) ∨ (ptF n l = none ∧ ∃ x ∈ l, ∃ y ∈ l, x.1 = y.1 ∧ x.2 ≠ y.2) := by
  have := pt_run (n := n) l [] (List.replicate n (-1)) (by simpa using hz) ⟨by simp, by simp, fun i _ => by
    rw [List.getD_eq_getElem?_getD, List.getElem?_replicate]
    split <;> rfl⟩
  simpa [ptF] using this
theorem pts_pos (t : ByteArray) : ∀ z ∈ pts t, 0 ≤ z := by
  intro z hz
  simp only [pts, ptL, List.mem_map] at hz
  obtain ⟨k, -, rfl⟩ := hz
  unfold pt
  by_cases h : (nx t (pos t k)).2 = 0
  · rw [nx_pair t _ h]; exact Int.le_refl _
  · exact (szI_nonneg (by rw [(nx_bd t _ h).2.2.2]; exact h)).1
theorem atG_z (c q : Int) : ∀ (zs : List Int) (n : Int) (x : Atm), x ∈ atG c q n zs → x.z ∈ zs
  | [], n, x, h => by simp [atG] at h
  | z :: zs, n, x, h => by
    rw [atG, List.mem_cons] at h
    rcases h with rfl | h
    · simp
    · exact List.mem_cons_of_mem _ (atG_z c q zs (n + 1) x h)
theorem aT_pos {l : List RunD} {x : Atm} (h : x ∈ aT l) : 0 ≤ x.z := by
  simp only [aT, List.mem_flatten, List.mem_map] at h
  obtain ⟨_, ⟨r, -, rfl⟩, h⟩ := h
  unfold atR at h
  split at h
  · exact pts_pos _ _ (atG_z _ _ _ _ _ h)
  · simp at h
end Go.Proofs.YtjimolafoihnpaaDoor.tc

/-
  What Order and Check tell of documents, told of their atoms.
-/
namespace Go.Proofs.YtjimolafoihnpaaDoor.tc
open Go.Maps Go.ChangeShapes Go.WideShapes Go.ChangeAt Go.RowKit Go.PlainAid

/-- The names of a document. -/
def keys (l : List RunD) : List AtK := (aT l).map Atm.key
/-- Two documents agree. -/
def AgL (a b : List Atm) : Prop := (∀ x ∈ a, ∀ y ∈ b, x.key = y.key → x.z = y.z) ∧ ∀ k1 k2 : AtK, k1 ≠ k2 → [k1, k2].Sublist (a.map Atm.key) → ¬ [k2, k1].Sublist (b.map Atm.key)
/-- There is an order. -/
def OkL (L : List (List RunD)) : Prop := (∀ x ∈ aTs L, ∀ y ∈ aTs L, x.key = y.key → x.z = y.z) ∧ ∃ σ : List AtK, σ.Nodup ∧ ∀ l ∈ L, (keys l).Sublist σ
def FineL (L : List (List RunD)) : Prop := (∀ l ∈ L, (keys l).Nodup) ∧ ∀ l ∈ L, ∀ l' ∈ L, AgL (aT l) (aT l')
theorem aTs_mem {L : List (List RunD)} {x : Atm} : x ∈ aTs L ↔ ∃ l ∈ L, x ∈ aT l := by
  simp only [aTs, List.mem_flatten, List.mem_map]
  constructor
  · rintro ⟨_, ⟨l, hl, rfl⟩, h⟩
    exact ⟨l, hl, h⟩
  · rintro ⟨l, hl, h⟩
    exact ⟨_, ⟨l, hl, rfl⟩, h⟩
theorem ok_fine {L : List (List RunD)} (h : OkL L) : FineL L := by
  obtain ⟨h1, σ, h2, h3⟩ := h
  refine ⟨fun l hl => (h3 l hl).nodup h2, fun l hl l' hl' => ⟨fun x hx y hy e => h1 x (aTs_mem.2 ⟨l, hl, hx⟩) y (aTs_mem.2 ⟨l', hl', hy⟩) e, fun k1 k2 _ a b => pair_not h2 (a.trans (h3 l hl)) (b.trans (h3 l' hl'))⟩⟩
theorem ok_part {L M : List (List RunD)} (hp : ∀ l' ∈ M, ∃ l ∈ L, (aT l').Sublist (aT l)) (h : OkL L) : OkL M := by
  obtain ⟨h1, σ, h2, h3⟩ := h
  have hm : ∀ x ∈ aTs M, x ∈ aTs L := fun x hx => by
    obtain ⟨l', a, b⟩ := aTs_mem.1 hx
    obtain ⟨l, c, d⟩ := hp l' a
    exact aTs_mem.2 ⟨l, c, d.subset b⟩
  refine ⟨fun x hx y hy e => h1 x (hm x hx) y (hm y hy) e, σ, h2, fun l' hl' => ?_⟩
  obtain ⟨l, c, d⟩ := hp l' hl'
  exact (d.map _).trans (h3 l c)
theorem fine_part {L M : List (List RunD)} (hp : ∀ l' ∈ M, ∃ l ∈ L, (aT l').Sublist (aT l)) (h : FineL L) : FineL M := by
  obtain ⟨h1, h2⟩ := h
  refine ⟨fun l' hl' => ?_, fun l hl l' hl' => ?_⟩
  · obtain ⟨l, c, d⟩ := hp l' hl'
    exact (d.map _).nodup (h1 l c)
  · obtain ⟨a, a1, a2⟩ := hp l hl
    obtain ⟨b, b1, b2⟩ := hp l' hl'
    obtain ⟨g1, g2⟩ := h2 a a1 b b1
    exact ⟨fun x hx y hy e => g1 x (a2.subset hx) y (b2.subset hy) e, fun k1 k2 hne s t => g2 k1 k2 hne (s.trans (a2.map _)) (t.trans (b2.map _))⟩

/-! ### Order -/
theorem nm_in {L : List (List RunD)} {l : List RunD} (hl : l ∈ L) : ∀ y ∈ aT l, y.key ∈ nmA (aTs L) := fun y hy => nmA_mem.2 ⟨y, aTs_mem.2 ⟨l, hl, hy⟩, rfl⟩
theorem dcs_at {L : List (List RunD)} {d : Nat} {l : List RunD} (h : L[d]? = some l) : (dcs L)[d]? = some (dA (nmA (aTs L)) (aT l)) := by
  rw [dcs, List.getElem?_map, h]; rfl
theorem nmD_dcs {L : List (List RunD)} {d : Nat} {l : List RunD} (h : L[d]? = some l) : nmD (dcs L) d = (keys l).map (nmA (aTs L)).idxOf := by
  rw [nmD_at (dcs_at h), fst_dA]; rfl
theorem fit_dcs {L : List (List RunD)} (h : Up L) : Fit3 (dcs L) (nmA (aTs L)).length := by
  refine ⟨by have := h.len; simpa [dcs] using this, Nat.le_trans (nmA_len _) h.atoms, fun r hr => ?_⟩
  obtain ⟨l, hl2, rfl⟩ := List.mem_map.1 hr
  refine ⟨?_, dA_row hl2⟩
  have := aT_mem_le hl2
  have := h.atoms
  simp only [dA, List.length_map]
  omega
theorem all_dcs {L : List (List RunD)} : ∀ n, n < (nmA (aTs L)).length → ∃ d, n ∈ nmD (dcs L) d := by
  intro n hn
  have hm : (nmA (aTs L))[n] ∈ nmA (aTs L) := List.getElem_mem hn
  obtain ⟨x, hx, e⟩ := nmA_mem.1 hm
  obtain ⟨l, hl, hxl⟩ := aTs_mem.1 hx
  obtain ⟨d, hd⟩ := List.mem_iff_getElem?.1 hl
  refine ⟨d, ?_⟩
  rw [nmD_dcs hd]
  refine List.mem_map.2 ⟨x.key, List.mem_map.2 ⟨x, hxl, rfl⟩, ?_⟩
  rw [e]
  exact (nmA_nodup _).idxOf_getElem _ _
theorem idx_inj {N : List AtK} {a b : AtK} (ha : a ∈ N) (hb : b ∈ N) (e : N.idxOf a = N.idxOf b) : a = b := by
  have h1 := List.getElem_idxOf (List.idxOf_lt_length_of_mem ha)
  have h2 := List.getElem_idxOf (List.idxOf_lt_length_of_mem hb)
  rw [← h1, ← h2]
  congr 1
theorem ordN_iff {L : List (List RunD)} : (∃ l, OrdN (dcs L) l ∧ ∀ n ∈ l, n < (nmA (aTs L)).length) ↔ ∃ σ : List AtK, σ.Nodup ∧ ∀ l ∈ L, (keys l).Sublist σ := by
  constructor
  · rintro ⟨t, ⟨h1, h2⟩, h3⟩
    refine ⟨t.map fun i => (nmA (aTs L)).getD i (0, 0, 0), ?_, fun l hl => ?_⟩
    · rw [List.nodup_iff_pairwise_ne, List.pairwise_map]
      rw [List.nodup_iff_pairwise_ne] at h1
      refine h1.imp_of_mem (fun {a b} ha hb hab e => hab ?_)
      have ea := h3 a ha
      have eb := h3 b hb
      rw [List.getD_eq_getElem?_getD, List.getD_eq_getElem?_getD, List.getElem?_eq_getElem ea, List.getElem?_eq_getElem eb] at e
      exact idx_one (nmA_nodup _) (List.getElem?_eq_getElem ea) (by rw [List.getElem?_eq_getElem eb]; congr 1; exact e.symm)
    · obtain ⟨d, hd⟩ := List.mem_iff_getElem?.1 hl
      have h4 := (h2 d).map fun i => (nmA (aTs L)).getD i (0, 0, 0)
      rw [nmD_dcs hd, List.map_map] at h4
      have e : (keys l).map ((fun i => (nmA (aTs L)).getD i (0, 0, 0)) ∘ (nmA (aTs L)).idxOf) = keys l := by
        conv => rhs; rw [← List.map_id (keys l)]
        apply List.map_congr_left
        intro k hk
        obtain ⟨x, hx, rfl⟩ := List.mem_map.1 hk
        have hlt := List.idxOf_lt_length_of_mem (nm_in hl x hx)
        show (nmA (aTs L)).getD _ _ = x.key
        rw [List.getD_eq_getElem?_getD, List.getElem?_eq_getElem hlt]
        exact List.getElem_idxOf hlt
      rwa [e] at h4
  · rintro ⟨σ, h1, h2⟩
    refine ⟨(σ.filter fun k => decide (k ∈ nmA (aTs L))).map (nmA (aTs L)).idxOf, ⟨?_, fun d => ?_⟩, fun n hn => ?_⟩
    · rw [List.nodup_iff_pairwise_ne, List.pairwise_map]
      have h3 : (σ.filter fun k => decide (k ∈ nmA (aTs L))).Nodup := h1.filter _
      rw [List.nodup_iff_pairwise_ne] at h3
      refine h3.imp_of_mem (fun {a b} ha hb hab e => hab (idx_inj ?_ ?_ e))
      · simpa using (List.mem_filter.1 ha).2
      · simpa using (List.mem_filter.1 hb).2
    · by_cases hd : d < L.length
      · have hLd : L[d]? = some L[d] := List.getElem?_eq_getElem hd
        rw [nmD_dcs hLd]
        have h3 := (h2 L[d] (List.getElem_mem hd)).filter fun k => decide (k ∈ nmA (aTs L))
        have e : (keys L[d]).filter (fun k => decide (k ∈ nmA (aTs L))) = keys L[d] := by
          rw [List.filter_eq_self]
          intro k hk
          obtain ⟨x, hx, rfl⟩ := List.mem_map.1 hk
          exact decide_eq_true (nm_in (List.getElem_mem hd) x hx)
        rw [e] at h3
        exact h3.map _
      · rw [nmD_none (by simpa [dcs] using hd)]
        simp
    · obtain ⟨k, hk, rfl⟩ := List.mem_map.1 hn
      exact List.idxOf_lt_length_of_mem (by simpa using (List.mem_filter.1 hk).2)
theorem dcs_flat {L : List (List RunD)} {x : Nat × Int} : x ∈ (dcs L).flatten ↔ ∃ y ∈ aTs L, x = ((nmA (aTs L)).idxOf y.key, y.z) := by
  simp only [dcs, List.mem_flatten, List.mem_map, dA]
  constructor
  · rintro ⟨_, ⟨l, hl, rfl⟩, hx⟩
    obtain ⟨y, hy, rfl⟩ := List.mem_map.1 hx
    exact ⟨y, aTs_mem.2 ⟨l, hl, hy⟩, rfl⟩
  · rintro ⟨y, hy, rfl⟩
    obtain ⟨l, hl, hyl⟩ := aTs_mem.1 hy
    exact ⟨_, ⟨l, hl, rfl⟩, List.mem_map.2 ⟨y, hyl, rfl⟩⟩
/-- What Order tells. -/
theorem ord_is {L : List (List RunD)} (hU : Up L) : ∃ F sE, rowM (dcs L) (tabH (hvD (dcs L)) (nmA (aTs L)).length) (nmA (aTs L)).length F = some sE ∧ sE.row.length ≤ (nmA (aTs L)).length ∧ (∀ n ∈ sE.row, n < (nmA (aTs L)).length) ∧
    ((ordO (dcs L) (nmA (aTs L)) sE.row = none ∧ ¬ OkL L) ∨ ∃ P, PtI (nmA (aTs L)).length (dcs L).flatten P ∧ OrdN (dcs L) sE.row ∧ sE.row.length = (nmA (aTs L)).length ∧ ordO (dcs L) (nmA (aTs L)) sE.row = some (rns (nmA (aTs L)) P sE.row) ∧ OkL L) := by
  have hF := fit_dcs hU
  obtain ⟨F, sE, hM, hI, hl⟩ := rowM_ok hF
  refine ⟨F, sE, hM, hI.rowl, hI.rl, ?_⟩
  have hz : ∀ x ∈ (dcs L).flatten, 0 ≤ x.2 ∧ x.1 < (nmA (aTs L)).length := fun x hx => by
    obtain ⟨y, hy, rfl⟩ := dcs_flat.1 hx
    obtain ⟨l, hl, hyl⟩ := aTs_mem.1 hy
    exact ⟨aT_pos hyl, List.idxOf_lt_length_of_mem (nm_in hl y hyl)⟩
  rcases ptF_is hz with ⟨⟨P, hP, hI2⟩, hc⟩ | ⟨hP, x, hx, y, hy, e1, e2⟩
  · by_cases hlen : sE.row.length < (nmA (aTs L)).length
    · left
      refine ⟨by rw [ordO, hP]; simp only; rw [if_pos hlen], fun hok => ?_⟩
      obtain ⟨t, ht, -⟩ := ordN_iff.2 hok.2
      have := row_complete hI hl hF all_dcs ht
      omega
    · right
      have ho := row_sound hI hF (by omega)
      refine ⟨P, hI2, ho, by have := hI.rowl; omega, by rw [ordO, hP]; simp only; rw [if_neg hlen], fun a ha b hb e => ?_, ordN_iff.1 ⟨_, ho, hI.rl⟩⟩
      exact hc _ (dcs_flat.2 ⟨a, ha, rfl⟩) _ (dcs_flat.2 ⟨b, hb, rfl⟩) (by simp only [e])
  · left
    refine ⟨by rw [ordO, hP], fun hok => ?_⟩
    obtain ⟨a, ha, rfl⟩ := dcs_flat.1 hx
    obtain ⟨b, hb, rfl⟩ := dcs_flat.1 hy
    obtain ⟨l, hl, hal⟩ := aTs_mem.1 ha
    obtain ⟨l', hl', hbl⟩ := aTs_mem.1 hb
    exact e2 (hok.1 a ha b hb (idx_inj (nm_in hl a hal) (nm_in hl' b hbl) e1))

/-! ### Check -/
def AgP (b l : List (Nat × Int)) : Prop := (∀ x ∈ l, ∀ y, fd b x.1 = some y → y.2 = x.2) ∧ l.Pairwise fun x x' => ∀ y y', fd b x.1 = some y → fd b x'.1 = some y' → y.1 ≤ y'.1
theorem agS_none (b l : List (Nat × Int)) : l.foldl (agS b) none = none := by
  induction l with
  | nil => rfl
  | cons x l ih => rw [List.foldl_cons]; exact ih
theorem agF_run (b : List (Nat × Int)) : ∀ (l : List (Nat × Int)) (last : Nat), l.foldl (agS b) (some last) ≠ none ↔ AgP b l ∧ ∀ x ∈ l, ∀ y, fd b x.1 = some y → last ≤ y.1
  | [], last => by simp [AgP]
  | x :: l, last => by
    rw [List.foldl_cons]
    cases hf : fd b x.1 with
    | none =>
      have e : agS b (some last) x = some last := by rw [agS]; simp [hf]
      rw [e, agF_run b l last]
      constructor
      · rintro ⟨⟨a1, a2⟩, a3⟩
        refine ⟨⟨fun z hz y hy => ?_, List.pairwise_cons.2 ⟨fun z _ y y' h1 => by rw [hf] at h1; (cases h1), a2⟩⟩, fun z hz y hy => ?_⟩
        · rcases List.mem_cons.1 hz with rfl | hz
          · rw [hf] at hy; cases hy
          · exact a1 z hz y hy
        · rcases List.mem_cons.1 hz with rfl | hz
          · rw [hf] at hy; cases hy
          · exact a3 z hz y hy
      · rintro ⟨⟨a1, a2⟩, a3⟩
        exact ⟨⟨fun z hz => a1 z (by simp [hz]), (List.pairwise_cons.1 a2).2⟩, fun z hz => a3 z (by simp [hz])⟩
    | some y =>
      have e : agS b (some last) x = if y.2 = x.2 ∧ last ≤ y.1 then some y.1 else none := by rw [agS]; simp [hf]
      rw [e]
      by_cases hc : y.2 = x.2 ∧ last ≤ y.1
      · rw [if_pos hc, agF_run b l y.1]
        constructor
        · rintro ⟨⟨a1, a2⟩, a3⟩
          refine ⟨⟨fun z hz w hw => ?_, List.pairwise_cons.2 ⟨fun z hz w w' h1 h2 => ?_, a2⟩⟩, fun z hz w hw => ?_⟩
          · rcases List.mem_cons.1 hz with rfl | hz
            · rw [hf] at hw; cases hw; exact hc.1
            · exact a1 z hz w hw
          · rw [hf] at h1; cases h1
            exact a3 z hz w' h2
          · rcases List.mem_cons.1 hz with rfl | hz
            · rw [hf] at hw; cases hw; exact hc.2
            · exact Nat.le_trans hc.2 (a3 z hz w hw)
        · rintro ⟨⟨a1, a2⟩, a3⟩
          obtain ⟨b1, b2⟩ := List.pairwise_cons.1 a2
          exact ⟨⟨fun z hz => a1 z (by simp [hz]), b2⟩, fun z hz w hw => b1 z hz y w hf hw⟩
      · rw [if_neg hc, agS_none]
        constructor
        · intro h; exact absurd rfl h
        · rintro ⟨⟨a1, a2⟩, a3⟩
          exact absurd ⟨a1 x (by simp) y hf, a3 x (by simp) y hf⟩ hc
theorem agF_iff (b l : List (Nat × Int)) : agF b l ≠ none ↔ AgP b l := by
  rw [agF, agF_run]
  exact ⟨fun h => h.1, fun h => ⟨h, fun _ _ _ _ => Nat.zero_le _⟩⟩
theorem fd_get : ∀ (l : List (Nat × Int)) (n : Nat) (y : Nat × Int), fd l n = some y → l[y.1]? = some (n, y.2)
  | [], n, y, h => by simp [fd] at h
  | x :: l, n, y, h => by
    simp only [fd] at h
    split at h
    · rename_i e
      injection h with h
      subst h
      subst e
      simp
    · cases h2 : fd l n with
      | none => rw [h2] at h; cases h
      | some z =>
        rw [h2] at h
        injection h with h
        subst h
        simpa using fd_get l n z h2
theorem dA_at {N : List AtK} {l : List Atm} {i : Nat} {x : Nat × Int} (h : (dA N l)[i]? = some x) : ∃ a, l[i]? = some a ∧ x = (N.idxOf a.key, a.z) := by
  rw [dA, List.getElem?_map] at h
  cases hl : l[i]? with
  | none => rw [hl] at h; cases h
  | some a => rw [hl] at h; injection h with h; exact ⟨a, rfl, h.symm⟩
theorem agP_iff {N : List AtK} {a b : List Atm} (ha : ∀ y ∈ a, y.key ∈ N) (hb : ∀ y ∈ b, y.key ∈ N) (na : (a.map Atm.key).Nodup) (nb : (b.map Atm.key).Nodup) : AgP (dA N b) (dA N a) ↔ AgL a b := by
  have hfd : ∀ (k : Nat) (y : Atm), b[k]? = some y → fd (dA N b) (N.idxOf y.key) = some (k, y.z) := fun k y hk => by
    have hs : sndD (dA N b) = true := by rw [snd_key hb]; exact decide_eq_true nb
    exact fd_at (dA N b) k (N.idxOf y.key, y.z) (by simpa [sndD] using hs) (by rw [dA, List.getElem?_map, hk]; rfl)
  constructor
  · rintro ⟨h1, h2⟩
    refine ⟨fun x hx y hy e => ?_, fun k1 k2 hne s t => ?_⟩
    · obtain ⟨k, hk⟩ := List.mem_iff_getElem?.1 hy
      have := h1 (N.idxOf x.key, x.z) (List.mem_map.2 ⟨x, hx, rfl⟩) (k, y.z) (by show fd _ (N.idxOf x.key) = _; rw [e]; exact hfd k y hk)
      exact this.symm
    · obtain ⟨i, j, hij, hi, hj⟩ := pair_sub.1 s
      obtain ⟨p, q, hpq, hp, hq⟩ := pair_sub.1 t
      rw [List.getElem?_map] at hi hj hp hq
      obtain ⟨xi, ei, fi⟩ := Option.map_eq_some_iff.1 hi
      obtain ⟨xj, ej, fj⟩ := Option.map_eq_some_iff.1 hj
      obtain ⟨yp, ep, fp⟩ := Option.map_eq_some_iff.1 hp
      obtain ⟨yq, eq, fq⟩ := Option.map_eq_some_iff.1 hq
      have hil : i < (dA N a).length := by simpa [dA] using (List.getElem?_eq_some_iff.1 ei).1
      have hjl : j < (dA N a).length := by simpa [dA] using (List.getElem?_eq_some_iff.1 ej).1
      have h3 := (List.pairwise_iff_getElem.1 h2) i j hil hjl hij (q, yq.z) (p, yp.z) (by
        have : (dA N a)[i] = (N.idxOf xi.key, xi.z) := by simp [dA, (List.getElem?_eq_some_iff.1 ei).2]
        rw [this, show xi.key = yq.key by rw [fi, fq]]
        exact hfd q yq eq) (by
        have : (dA N a)[j] = (N.idxOf xj.key, xj.z) := by simp [dA, (List.getElem?_eq_some_iff.1 ej).2]
        rw [this, show xj.key = yp.key by rw [fj, fp]]
        exact hfd p yp ep)
      simp only at h3
      omega
  · rintro ⟨h1, h2⟩
    refine ⟨fun x hx y hy => ?_, ?_⟩
    · obtain ⟨xa, hxa, rfl⟩ := List.mem_map.1 hx
      obtain ⟨yb, hyb, e⟩ := dA_at (fd_get _ _ _ hy)
      injection e with e1 e2
      have hm := List.mem_of_getElem? hyb
      rw [e2]
      exact (h1 xa hxa yb hm (idx_inj (ha xa hxa) (hb yb hm) e1)).symm
    · rw [List.pairwise_iff_getElem]
      intro i j hi hj hij y y' hy hy'
      obtain ⟨xi, ei, fi⟩ := dA_at (List.getElem?_eq_getElem hi)
      obtain ⟨xj, ej, fj⟩ := dA_at (List.getElem?_eq_getElem hj)
      rw [fi] at hy
      rw [fj] at hy'
      obtain ⟨yp, hyp, e⟩ := dA_at (fd_get _ _ _ hy)
      obtain ⟨yq, hyq, e'⟩ := dA_at (fd_get _ _ _ hy')
      injection e with e1 e2
      injection e' with e1' e2'
      have k1 := idx_inj (ha xi (List.mem_of_getElem? ei)) (hb yp (List.mem_of_getElem? hyp)) e1
      have k2 := idx_inj (ha xj (List.mem_of_getElem? ej)) (hb yq (List.mem_of_getElem? hyq)) e1'
      rcases Nat.lt_or_ge y'.1 y.1 with hlt | hge
      · exfalso
        have m1 : (a.map Atm.key)[i]? = some xi.key := by rw [List.getElem?_map, ei]; rfl
        have m2 : (a.map Atm.key)[j]? = some xj.key := by rw [List.getElem?_map, ej]; rfl
        have hne : xi.key ≠ xj.key := fun q => by
          have := idx_one na m1 (by rw [q]; exact m2)
          omega
        exact h2 _ _ hne (pair_sub.2 ⟨i, j, hij, m1, m2⟩) (pair_sub.2 ⟨y'.1, y.1, hlt, by rw [List.getElem?_map, hyq, k2]; rfl, by rw [List.getElem?_map, hyp, k1]; rfl⟩)
      · exact hge
theorem ag_self {a : List Atm} (na : (a.map Atm.key).Nodup) : AgL a a := by
  refine ⟨fun x hx y hy e => ?_, fun k1 k2 _ s t => pair_not na s t⟩
  obtain ⟨i, hi⟩ := List.mem_iff_getElem?.1 hx
  obtain ⟨j, hj⟩ := List.mem_iff_getElem?.1 hy
  have := idx_one na (show (a.map Atm.key)[i]? = some x.key by rw [List.getElem?_map, hi]; rfl) (by rw [e, List.getElem?_map, hj]; rfl : (a.map Atm.key)[j]? = some x.key)
  subst this
  rw [hi] at hj
  injection hj with hj
  rw [hj]
theorem ag_swap {a b : List Atm} (h : AgL a b) : AgL b a :=
  ⟨fun x hx y hy e => (h.1 y hy x hx e.symm).symm, fun k1 k2 hne s t => h.2 k2 k1 (fun q => hne q.symm) t s⟩
theorem fine_is {L : List (List RunD)} : (∀ i, Fine (dcs L) i) ↔ FineL L := by
  have hs : ∀ l ∈ L, (sndD (dA (nmA (aTs L)) (aT l)) = true ↔ (keys l).Nodup) := fun l hl => by rw [snd_key (nm_in hl), decide_eq_true_iff]; rfl
  constructor
  · intro h
    have hn : ∀ l ∈ L, (keys l).Nodup := fun l hl => by
      obtain ⟨d, hd⟩ := List.mem_iff_getElem?.1 hl
      exact (hs l hl).1 (h d _ (dcs_at hd)).1
    have ho : ∀ i j l l', i < j → L[i]? = some l → L[j]? = some l' → AgL (aT l) (aT l') := fun i j l l' hij hi hj => by
      have hl := List.mem_of_getElem? hi
      have hl' := List.mem_of_getElem? hj
      have := (h i _ (dcs_at hi)).2 j _ hij (dcs_at hj) ((hs l' hl').2 (hn l' hl'))
      rw [agF_iff, agP_iff (nm_in hl) (nm_in hl') (hn l hl) (hn l' hl')] at this
      exact this
    refine ⟨hn, fun l hl l' hl' => ?_⟩
    obtain ⟨i, hi⟩ := List.mem_iff_getElem?.1 hl
    obtain ⟨j, hj⟩ := List.mem_iff_getElem?.1 hl'
    rcases Nat.lt_trichotomy i j with q | q | q
    · exact ho i j l l' q hi hj
    · subst q
      rw [hi] at hj
      injection hj with hj
      subst hj
      exact ag_self (hn l hl)
    · exact ag_swap (ho j i l' l q hj hi)
  · rintro ⟨hn, ha⟩ i row hr
    rw [dcs, List.getElem?_map] at hr
    obtain ⟨l, hl, rfl⟩ := Option.map_eq_some_iff.1 hr
    have hlm := List.mem_of_getElem? hl
    refine ⟨(hs l hlm).2 (hn l hlm), fun j r hij hj _ => ?_⟩
    rw [dcs, List.getElem?_map] at hj
    obtain ⟨l', hl', rfl⟩ := Option.map_eq_some_iff.1 hj
    have hlm' := List.mem_of_getElem? hl'
    rw [agF_iff, agP_iff (nm_in hlm) (nm_in hlm') (hn l hlm) (hn l' hlm')]
    exact ha l hlm l' hlm'
theorem chk_fine {L : List (List RunD)} {a b : Nat} {ok : Bool} (h : ChkIs (dcs L) a b ok) : ok = true ↔ FineL L := by
  rw [← fine_is]
  rcases h with ⟨rfl, rfl, rfl, h⟩ | ⟨rfl, h, row, h1, h2⟩
  · simp [h]
  · constructor
    · intro q; cases q
    · intro q
      exfalso
      obtain ⟨f1, f2⟩ := q a row h1
      rcases h2 with ⟨q, -⟩ | ⟨q, q1, ⟨r, q2, q3, q4⟩, -⟩
      · rw [f1] at q; cases q
      · exact f2 b r q1 q2 q3 q4
end Go.Proofs.YtjimolafoihnpaaDoor.tc
