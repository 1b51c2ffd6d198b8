/-
  row goes through: it is an order if all names are in it; if there is an order, they are.
-/
import Derived.Test.YtjimolafoihnpaaTsF
namespace Go.Proofs.Ytjimolafoihnpaa.tc
open Go.Maps Go.ChangeShapes Go.WideShapes Go.ChangeAt Go.RowKit Go.PlainAid

theorem ph_at {D : List (List (Nat × Int))} {s s' : Gs} (h : ∀ e, atd s' e = atd s e) (hl : s'.lt.length = s.lt.length) : ph D s' = ph D s := by
  unfold ph
  rw [hl]
  congr 2
  apply List.map_congr_left
  intro e _
  rw [h]
theorem ph_go {D : List (List (Nat × Int))} {s : Gs} {o : Nat} (hoD : o < D.length) (hl : o < s.at'.length) (ho : atd s o < (nmD D o).length) : ph D { s with at' := s.at'.set o (atd s o + 1) } + 1 = ph D s := by
  have hat : ∀ e, atd { s with at' := s.at'.set o (atd s o + 1) } e = if o = e then atd s o + 1 else atd s e := fun e => getD_set _ _ _ _ hl
  unfold ph
  rw [sum_set (fun d => (nmD D d).length - atd { s with at' := s.at'.set o (atd s o + 1) } d) (fun d => (nmD D d).length - atd s d) o (List.range D.length) List.nodup_range (List.mem_range.2 hoD) (fun e _ hne => by simp only [hat]; rw [if_neg (fun q => hne q.symm)]) (by simp only [hat, if_true]; omega)]
  show _ + s.lt.length + 1 = _
  omega
/-- What is asked of what came in. -/
structure Fit3 (D : List (List (Nat × Int))) (m : Nat) : Prop where
  dl : D.length ≤ 1048576
  ml : m ≤ 1048576
  row : ∀ r ∈ D, r.length ≤ 1048576 ∧ ∀ x ∈ r, x.1 < m
theorem Fit3.nm {D : List (List (Nat × Int))} {m : Nat} (h : Fit3 D m) {d n : Nat} (hn : n ∈ nmD D d) : n < m := by
  by_cases hd : d < D.length
  · rw [nmD_at (List.getElem?_eq_getElem hd)] at hn
    obtain ⟨x, hx, rfl⟩ := List.mem_map.1 hn
    exact (h.row _ (List.getElem_mem hd)).2 x hx
  · rw [nmD_none hd] at hn; simp at hn
theorem Fit3.len {D : List (List (Nat × Int))} {m : Nat} (h : Fit3 D m) (d : Nat) : (nmD D d).length ≤ 1048576 := by
  by_cases hd : d < D.length
  · rw [nmD_at (List.getElem?_eq_getElem hd), List.length_map]
    exact (h.row _ (List.getElem_mem hd)).1
  · rw [nmD_none hd]; simp
theorem Iv.rowl {D : List (List (Nat × Int))} {m : Nat} {s : Gs} {Pd Gr : List Nat} (h : Iv D m s Pd Gr) : s.row.length ≤ m := by
  have := sub_len s.row (List.range m) h.rn (fun x hx => List.mem_range.2 (h.rl x hx))
  rwa [List.length_range] at this
theorem Iv.relt {D : List (List (Nat × Int))} {m : Nat} {s : Gs} {Pd Gr : List Nat} (h : Iv D m s Pd Gr) (l Pd' : List Nat) (e : s.lt ++ Pd ++ Gr = l ++ Pd' ++ Gr) : Iv D m { s with lt := l } Pd' Gr := by
  refine { h with nd := by show (l ++ Pd' ++ Gr).Nodup; rw [← e]; exact h.nd, lt := fun x hx => h.lt x (by rw [e]; exact hx), cnt := fun n hn hr => ?_ }
  have h1 := h.cnt n hn hr
  rw [e] at h1
  exact h1
theorem goO_ok {D : List (List (Nat × Int))} {m : Nat} (hF : Fit3 D m) : ∀ (f d : Nat) (s : Gs) (Pd Gr : List Nat), Iv D m s (d :: Pd) Gr → ∃ s', goO D (tabH (hvD D) m) f d s = some s' ∧ Iv D m s' Pd Gr ∧ ph D s' ≤ ph D s + (if f = 0 then 1 else 0) := by
  intro f
  induction f with
  | zero =>
    intro d s Pd Gr h
    have hdD : d < D.length := h.lt d (by simp)
    have hr : D[d]? = some D[d] := List.getElem?_eq_getElem hdD
    have hdl : d < s.at'.length := by rw [h.la]; exact hdD
    have ha : s.at'[d]? = some (atd s d) := by rw [atd, List.getD_eq_getElem?_getD, List.getElem?_eq_getElem hdl]; rfl
    unfold goO
    rw [hr, ha]
    simp only
    by_cases he : atd s d = D[d].length
    · rw [if_pos he]
      refine ⟨s, rfl, h.out ?_, by omega⟩
      rw [nmD_at hr]
      exact List.getElem?_eq_none (by simp; omega)
    · rw [if_neg he]
      have hll : s.lt.length < D.length := by
        have h1 := sub_len (s.lt ++ (d :: Pd) ++ Gr) (List.range D.length) h.nd (fun x hx => List.mem_range.2 (h.lt x hx))
        simp at h1
        omega
      rw [if_pos (by have := hF.dl; omega)]
      refine ⟨_, rfl, ?_, ?_⟩
      · exact h.relt (s.lt ++ [d]) Pd (by simp)
      · unfold ph
        simp only [List.length_append, List.length_singleton, if_true]
        show _ + (s.lt.length + 1) ≤ _ + s.lt.length + 1
        exact Nat.le_refl _
  | succ f ih =>
    intro d s Pd Gr h
    have hdD : d < D.length := h.lt d (by simp)
    have hr : D[d]? = some D[d] := List.getElem?_eq_getElem hdD
    have hdl : d < s.at'.length := by rw [h.la]; exact hdD
    have ha : s.at'[d]? = some (atd s d) := by rw [atd, List.getD_eq_getElem?_getD, List.getElem?_eq_getElem hdl]; rfl
    unfold goO
    rw [hr, ha]
    simp only
    by_cases he : atd s d = D[d].length
    · rw [if_pos he]
      refine ⟨s, rfl, h.out ?_, by omega⟩
      rw [nmD_at hr]
      exact List.getElem?_eq_none (by simp; omega)
    · rw [if_neg he]
      have hle := h.le d
      rw [nmD_at hr, List.length_map] at hle
      have hlt : atd s d < D[d].length := by omega
      have hx : D[d][atd s d]? = some D[d][atd s d] := List.getElem?_eq_getElem hlt
      obtain ⟨x, hxe⟩ : ∃ x, x = D[d][atd s d] := ⟨_, rfl⟩
      rw [← hxe] at hx
      have hst : (nmD D d)[atd s d]? = some x.1 := by rw [nmD_at hr, List.getElem?_map, hx]; rfl
      have hxm : x.1 < m := hF.nm (List.mem_of_getElem? hst)
      have hdG : d ∉ Gr := by
        have hp : (s.lt ++ (d :: Pd) ++ Gr).Perm (d :: (s.lt ++ Pd ++ Gr)) := by
          rw [List.append_assoc, List.append_assoc]
          exact List.perm_middle
        exact fun q => (List.nodup_cons.1 (hp.nodup_iff.1 h.nd)).1 (by simp [q])
      have hnr : x.1 ∉ s.row := fun q => h.nx d x.1 q hdG (drop_hd hst)
      have hcl : x.1 < s.cm.length := by rw [h.lc]; exact hxm
      have hc : s.cm[x.1]? = some (s.cm.getD x.1 0) := by rw [List.getD_eq_getElem?_getD, List.getElem?_eq_getElem hcl]; rfl
      have hHx : (tabH (hvD D) m)[x.1]? = some (rsH (hvD D) x.1) := tabH_at hxm
      have hne : rsH (hvD D) x.1 ≠ [] := List.ne_nil_of_mem (hv_mem.2 (List.mem_of_getElem? hst))
      have hcc := h.cl x.1 hxm hnr hne
      rw [hx]
      simp only
      rw [hc, hHx]
      simp only
      by_cases hw : s.cm.getD x.1 0 + 1 < (rsH (hvD D) x.1).length
      · rw [if_pos hw]
        exact ⟨_, rfl, h.wait hst hxm hc hw, Nat.le_trans (Nat.le_of_eq (ph_at (s := s) (fun _ => rfl) rfl)) (Nat.le_add_right _ _)⟩
      · rw [if_neg hw]
        have hf := h.full hst hxm hc (by omega)
        have hrl : s.row.length < 1048576 := by
          have := hf.rowl
          simp at this
          have := hF.ml
          omega
        rw [if_pos ⟨by omega, hrl⟩]
        have each : ∀ (rest : List Nat) (s1 : Gs), Iv D m s1 Pd (rest ++ Gr) → ∃ s', rest.foldlM (stO D (tabH (hvD D) m) f) s1 = some s' ∧ Iv D m s' Pd Gr ∧ ph D s' ≤ ph D s1 := by
          intro rest
          induction rest with
          | nil => intro s1 h1; exact ⟨s1, rfl, h1, Nat.le_refl _⟩
          | cons o rest ihr =>
            intro s1 h1
            have hoD : o < D.length := h1.lt o (by simp)
            have hol : o < s1.at'.length := by rw [h1.la]; exact hoD
            have hoa : s1.at'[o]? = some (atd s1 o) := by rw [atd, List.getD_eq_getElem?_getD, List.getElem?_eq_getElem hol]; rfl
            obtain ⟨n, -, hon⟩ := h1.gr o (by simp)
            have hlo := (List.getElem?_eq_some_iff.1 hon).1
            have hbo := hF.len o
            obtain ⟨s2, e2, h2, p2⟩ := ih o _ Pd (rest ++ Gr) (h1.go (G := rest ++ Gr))
            have hst2 : stO D (tabH (hvD D) m) f s1 o = some s2 := by
              unfold stO
              rw [hoa]
              simp only
              rw [if_pos (by omega)]
              exact e2
            obtain ⟨s3, e3, h3, p3⟩ := ihr s2 h2
            have hph := ph_go hoD hol hlo
            refine ⟨s3, by rw [List.foldlM_cons, hst2]; exact e3, h3, ?_⟩
            have : (if f = 0 then 1 else 0) ≤ 1 := by split <;> omega
            omega
        obtain ⟨s', e', h', p'⟩ := each _ _ hf
        refine ⟨s', e', h', ?_⟩
        exact Nat.le_trans p' (Nat.le_trans (Nat.le_of_eq (ph_at (s := s) (fun _ => rfl) rfl)) (Nat.le_add_right _ _))
theorem drn_ok {D : List (List (Nat × Int))} {m : Nat} (hF : Fit3 D m) : ∀ (F : Nat) (s : Gs) (Pd : List Nat), Iv D m s Pd [] → ph D s ≤ F → ∃ s', drn D (tabH (hvD D) m) F s = some s' ∧ Iv D m s' Pd [] ∧ s'.lt = [] ∧ ph D s' ≤ ph D s := by
  intro F
  induction F with
  | zero =>
    intro s Pd h hp
    have hl : s.lt = [] := by
      apply List.length_eq_zero_iff.1
      unfold ph at hp
      omega
    exact ⟨s, by rw [drn, if_pos hl], h, hl, Nat.le_refl _⟩
  | succ F ih =>
    intro s Pd h hp
    rcases List.eq_nil_or_concat s.lt with hl | ⟨l, x, hl⟩
    · exact ⟨s, by rw [drn, hl]; rfl, h, hl, Nat.le_refl _⟩
    · rw [List.concat_eq_append] at hl
      have hi : Iv D m { s with lt := l } (x :: Pd) [] := h.relt l (x :: Pd) (by rw [hl]; simp)
      obtain ⟨s1, e1, h1, p1⟩ := goO_ok hF 1000 x _ _ _ hi
      have hph : ph D { s with lt := l } + 1 = ph D s := by
        unfold ph
        rw [hl, List.length_append, List.length_singleton]
        rfl
      rw [if_neg (by decide)] at p1
      obtain ⟨s2, e2, h2, l2, p2⟩ := ih s1 Pd h1 (by omega)
      refine ⟨s2, ?_, h2, l2, by omega⟩
      rw [drn, hl]
      simp only [List.getLast?_append, List.getLast?_singleton, Option.some_or, List.dropLast_concat]
      rw [e1]
      exact e2
theorem rowM_ok {D : List (List (Nat × Int))} {m : Nat} (hF : Fit3 D m) : ∃ F sE, rowM D (tabH (hvD D) m) m F = some sE ∧ Iv D m sE [] [] ∧ sE.lt = [] := by
  obtain ⟨s0, hs0⟩ : ∃ s0 : Gs, s0 = ⟨List.replicate D.length 0, List.replicate m 0, [], []⟩ := ⟨_, rfl⟩
  have hat : ∀ d, atd s0 d = 0 := by
    intro d
    subst hs0
    show (List.replicate D.length 0).getD d 0 = 0
    rw [List.getD_eq_getElem?_getD, List.getElem?_replicate]
    split <;> rfl
  have hcm : ∀ n, s0.cm.getD n 0 = 0 := by
    intro n
    subst hs0
    show (List.replicate m 0).getD n 0 = 0
    rw [List.getD_eq_getElem?_getD, List.getElem?_replicate]
    split <;> rfl
  have hrw : s0.row = [] := by subst hs0; rfl
  have hlt : s0.lt = [] := by subst hs0; rfl
  have h0 : Iv D m s0 (List.range D.length) [] := by
    refine { la := by subst hs0; simp, lc := by subst hs0; simp, nd := by rw [hlt]; simpa using List.nodup_range, lt := fun d hd => by rw [hlt] at hd; simpa using hd, le := fun d => by rw [hat]; omega, cnt := fun n hn hr => ?_, cl := fun n hn hr h0 => by rw [hcm]; exact List.length_pos_iff.2 h0, ps := fun d n hn => by rw [hat] at hn; simp at hn, gr := fun d hd => by simp at hd, nx := fun d n hn => by rw [hrw] at hn; simp at hn, nx2 := fun d hd => by simp at hd, rn := by rw [hrw]; simp, rl := fun n hn => by rw [hrw] at hn; simp at hn, sb := fun d _ => by rw [hat]; simp, sb2 := fun d hd => by simp at hd }
    rw [hcm, hlt]
    symm
    apply List.length_eq_zero_iff.2
    apply List.eq_nil_iff_forall_not_mem.2
    intro e he
    obtain ⟨h1, h2, -⟩ := wt_mem.1 he
    exact h2 (by simpa using h1)
  have each : ∀ (rest : List Nat) (s : Gs), Iv D m s rest [] → s.lt = [] → ph D s ≤ ph D s0 → ∃ s', rest.foldlM (dcG D (tabH (hvD D) m) (ph D s0)) s = some s' ∧ Iv D m s' [] [] ∧ s'.lt = [] := by
    intro rest
    induction rest with
    | nil => intro s h hl hp; exact ⟨s, rfl, h, hl⟩
    | cons d rest ih =>
      intro s h hl hp
      obtain ⟨s1, e1, h1, p1⟩ := goO_ok hF 1000 d s rest [] h
      rw [if_neg (by decide)] at p1
      obtain ⟨s2, e2, h2, l2, p2⟩ := drn_ok hF (ph D s0) s1 rest h1 (by omega)
      obtain ⟨s3, e3, h3, l3⟩ := ih s2 h2 l2 (by omega)
      refine ⟨s3, ?_, h3, l3⟩
      rw [List.foldlM_cons]
      have : dcG D (tabH (hvD D) m) (ph D s0) s d = some s2 := by rw [dcG, e1]; exact e2
      rw [this]
      exact e3
  obtain ⟨sE, e, h, l⟩ := each _ s0 h0 hlt (Nat.le_refl _)
  refine ⟨ph D s0, sE, ?_, h, l⟩
  rw [rowM, ← hs0]
  exact e
/-- An order of names in which each document's stand. -/
def OrdN (D : List (List (Nat × Int))) (l : List Nat) : Prop := l.Nodup ∧ ∀ d, (nmD D d).Sublist l
theorem row_sound {D : List (List (Nat × Int))} {m : Nat} {s : Gs} (h : Iv D m s [] []) (hF : Fit3 D m) (hl : m ≤ s.row.length) : OrdN D s.row := by
  have hall : ∀ n, n < m → n ∈ s.row := by
    have he := sub_eq s.row (List.range m) h.rn (fun x hx => List.mem_range.2 (h.rl x hx)) (by rw [List.length_range]; have := h.rowl; omega)
    exact fun n hn => he.2 n (List.mem_range.2 hn)
  refine ⟨h.rn, fun d => ?_⟩
  have hd : (nmD D d).drop (atd s d) = [] := by
    apply List.eq_nil_iff_forall_not_mem.2
    intro n hn
    exact h.nx d n (hall n (hF.nm (List.mem_of_mem_drop hn))) (by simp) hn
  have h1 := h.sb d (by simp)
  have h2 := List.take_append_drop (atd s d) (nmD D d)
  rw [hd, List.append_nil] at h2
  rwa [h2] at h1
end Go.Proofs.Ytjimolafoihnpaa.tc
