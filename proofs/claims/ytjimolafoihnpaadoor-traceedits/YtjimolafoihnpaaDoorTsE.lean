/-
  What goOn keeps: the theory of row, as data.
-/
import Derived.Test.YtjimolafoihnpaaDoorTsA
namespace Go.Proofs.YtjimolafoihnpaaDoor.tc
open Go.Maps Go.ChangeShapes Go.WideShapes Go.ChangeAt Go.RowKit Go.PlainAid

/-! ### Lists -/
theorem sub_len {α : Type} [BEq α] [LawfulBEq α] : ∀ (a b : List α), a.Nodup → (∀ x ∈ a, x ∈ b) → a.length ≤ b.length
  | [], b, _, _ => by simp
  | x :: a, b, hn, hs => by
    rw [List.nodup_cons] at hn
    have hx := hs x (by simp)
    have h := sub_len a (b.erase x) hn.2 (fun y hy => (List.mem_erase_of_ne (by rintro rfl; exact hn.1 hy)).2 (hs y (by simp [hy])))
    rw [List.length_erase_of_mem hx] at h
    have := List.length_pos_of_mem hx
    rw [List.length_cons]
    omega
theorem sub_eq {α : Type} [BEq α] [LawfulBEq α] : ∀ (a b : List α), a.Nodup → (∀ x ∈ a, x ∈ b) → a.length = b.length → b.Nodup ∧ ∀ x ∈ b, x ∈ a
  | [], b, _, _, hl => by
    have : b = [] := List.length_eq_zero_iff.1 hl.symm
    subst this
    simp
  | x :: a, b, hn, hs, hl => by
    rw [List.nodup_cons] at hn
    have hx := hs x (by simp)
    have hp := List.perm_cons_erase hx
    obtain ⟨h1, h2⟩ := sub_eq a (b.erase x) hn.2 (fun y hy => (List.mem_erase_of_ne (by rintro rfl; exact hn.1 hy)).2 (hs y (by simp [hy]))) (by
      rw [List.length_erase_of_mem hx]
      rw [List.length_cons] at hl
      omega)
    refine ⟨hp.nodup_iff.2 (List.nodup_cons.2 ⟨fun h => hn.1 (h2 x h), h1⟩), fun y hy => ?_⟩
    rcases List.mem_cons.1 (hp.mem_iff.1 hy) with rfl | h
    · simp
    · simp [h2 y h]
theorem filt_one {α : Type} [DecidableEq α] {p p' : α → Bool} {d : α} : ∀ (l : List α), l.Nodup → d ∈ l → p d = false → p' d = true → (∀ e ∈ l, e ≠ d → p' e = p e) → (l.filter p').length = (l.filter p).length + 1
  | [], _, h, _, _, _ => by simp at h
  | x :: l, hn, hd, h1, h2, he => by
    rw [List.nodup_cons] at hn
    by_cases hx : x = d
    · subst hx
      have e : l.filter p' = l.filter p := List.filter_congr (fun y hy => he y (by simp [hy]) (by rintro rfl; exact hn.1 hy))
      rw [List.filter_cons, List.filter_cons, h1, h2, e]
      simp
    · have hd' : d ∈ l := by
        rcases List.mem_cons.1 hd with h | h
        · exact absurd h.symm hx
        · exact h
      have ih := filt_one l hn.2 hd' h1 h2 (fun e hm hne => he e (by simp [hm]) hne)
      rw [List.filter_cons, List.filter_cons, he x (by simp) hx]
      split
      · simp [ih]
      · exact ih
theorem sum_set (g h : Nat → Nat) (o : Nat) : ∀ (l : List Nat), l.Nodup → o ∈ l → (∀ e ∈ l, e ≠ o → g e = h e) → h o = g o + 1 → (l.map h).sum = (l.map g).sum + 1
  | [], _, hm, _, _ => by simp at hm
  | x :: l, hn, hm, he, ho => by
    rw [List.nodup_cons] at hn
    rw [List.map_cons, List.map_cons, List.sum_cons, List.sum_cons]
    by_cases hx : x = o
    · subst hx
      have e : l.map h = l.map g := List.map_congr_left (fun y hy => (he y (by simp [hy]) (by rintro rfl; exact hn.1 hy)).symm)
      rw [e, ho]
      omega
    · have hm' : o ∈ l := by
        rcases List.mem_cons.1 hm with h9 | h9
        · exact absurd h9.symm hx
        · exact h9
      have ih := sum_set g h o l hn.2 hm' (fun e h1 h2 => he e (by simp [h1]) h2) ho
      rw [ih, he x (by simp) hx]
      omega

/-! ### Who has a name -/
/-- The names of a document. -/
def nmD (D : List (List (Nat × Int))) (d : Nat) : List Nat := (D.getD d []).map Prod.fst
theorem nmD_at {D : List (List (Nat × Int))} {d : Nat} {r : List (Nat × Int)} (h : D[d]? = some r) : nmD D d = r.map Prod.fst := by
  rw [nmD, List.getD_eq_getElem?_getD, h]; rfl
theorem nmD_none {D : List (List (Nat × Int))} {d : Nat} (h : ¬ d < D.length) : nmD D d = [] := by
  rw [nmD, List.getD_eq_getElem?_getD, List.getElem?_eq_none (by omega)]; rfl
theorem rsH_app (a b : List (Nat × Nat)) (n : Nat) : rsH (a ++ b) n = rsH a n ++ rsH b n := by simp [rsH]
theorem rsH_row (n k : Nat) : ∀ (row : List (Nat × Int)), rsH (row.map fun x => (x.1, k)) n = List.replicate ((row.map Prod.fst).count n) k
  | [] => by simp [rsH]
  | x :: row => by
    have ih := rsH_row n k row
    unfold rsH at ih ⊢
    rw [List.map_cons, List.filter_cons, List.map_cons, List.count_cons]
    by_cases h : x.1 = n
    · simp [h, ih, List.replicate_succ]
    · have hb : (x.1 == n) = false := beq_eq_false_iff_ne.2 h
      simp [hb, ih]
theorem hv_count (D : List (List (Nat × Int))) (n o : Nat) : (rsH (hvD D) n).count o = (nmD D o).count n := by
  have h : ∀ k, k ≤ D.length → (rsH (hvD (D.take k)) n).count o = if o < k then (nmD D o).count n else 0 := by
    intro k
    induction k with
    | zero => intro _; simp [hvD, rsH]
    | succ k ih =>
      intro hk
      have hk' : k < D.length := by omega
      rw [List.take_succ_eq_append_getElem hk', hvD_one, rsH_app, List.length_take, Nat.min_eq_left (by omega), rsH_row, List.count_append, ih (by omega), List.count_replicate]
      by_cases ho : o < k
      · have h1 : ¬ k = o := by omega
        have h2 : o < k + 1 := by omega
        simp [ho, h1, h2]
      · by_cases hok : k = o
        · subst hok
          simp [nmD_at (List.getElem?_eq_getElem hk')]
        · have h2 : ¬ o < k + 1 := by omega
          simp [ho, hok, h2]
  have h1 := h D.length (Nat.le_refl _)
  rw [List.take_length] at h1
  rw [h1]
  split
  · rfl
  · rename_i ho
    rw [nmD_none ho]
    simp
theorem hv_mem {D : List (List (Nat × Int))} {n o : Nat} : o ∈ rsH (hvD D) n ↔ n ∈ nmD D o := by
  rw [← List.count_pos_iff, hv_count, List.count_pos_iff]
theorem hv_once {D : List (List (Nat × Int))} {n o : Nat} (h : (rsH (hvD D) n).Nodup) : (nmD D o).count n ≤ 1 := by
  rw [← hv_count]
  exact List.nodup_iff_count.1 h o
theorem hv_lt {D : List (List (Nat × Int))} {n o : Nat} (h : o ∈ rsH (hvD D) n) : o < D.length := by
  rw [hv_mem] at h
  rcases Nat.lt_or_ge o D.length with h1 | h1
  · exact h1
  · rw [nmD_none (by omega)] at h; simp at h

/-! ### What is kept -/
def atd (s : Gs) (d : Nat) : Nat := s.at'.getD d 0
/-- Who waits at a name. -/
def wt (D : List (List (Nat × Int))) (s : Gs) (A : List Nat) (n : Nat) : List Nat := (List.range D.length).filter fun e => decide (e ∉ A) && ((nmD D e)[atd s e]? == some n)
structure Iv (D : List (List (Nat × Int))) (m : Nat) (s : Gs) (Pd Gr : List Nat) : Prop where
  la : s.at'.length = D.length
  lc : s.cm.length = m
  nd : (s.lt ++ Pd ++ Gr).Nodup
  lt : ∀ d ∈ s.lt ++ Pd ++ Gr, d < D.length
  le : ∀ d, atd s d ≤ (nmD D d).length
  cnt : ∀ n, n < m → n ∉ s.row → s.cm.getD n 0 = (wt D s (s.lt ++ Pd ++ Gr) n).length
  cl : ∀ n, n < m → n ∉ s.row → rsH (hvD D) n ≠ [] → s.cm.getD n 0 < (rsH (hvD D) n).length
  ps : ∀ d, ∀ n ∈ (nmD D d).take (atd s d), n ∈ s.row
  gr : ∀ d ∈ Gr, ∃ n ∈ s.row, (nmD D d)[atd s d]? = some n
  nx : ∀ d, ∀ n ∈ s.row, d ∉ Gr → n ∉ (nmD D d).drop (atd s d)
  nx2 : ∀ d ∈ Gr, ∀ n ∈ s.row, n ∉ (nmD D d).drop (atd s d + 1)
  rn : s.row.Nodup
  rl : ∀ n ∈ s.row, n < m
  sb : ∀ d, d ∉ Gr → ((nmD D d).take (atd s d)).Sublist s.row
  sb2 : ∀ d ∈ Gr, ((nmD D d).take (atd s d + 1)).Sublist s.row
theorem wt_mem {D : List (List (Nat × Int))} {s : Gs} {A : List Nat} {n e : Nat} : e ∈ wt D s A n ↔ e < D.length ∧ e ∉ A ∧ (nmD D e)[atd s e]? = some n := by
  simp [wt, List.mem_filter]
theorem wt_congr {D : List (List (Nat × Int))} {s s' : Gs} {A A' : List Nat} {n : Nat} (h : ∀ e, e < D.length → ((e ∉ A ∧ (nmD D e)[atd s e]? = some n) ↔ (e ∉ A' ∧ (nmD D e)[atd s' e]? = some n))) : wt D s A n = wt D s' A' n := by
  apply List.filter_congr
  intro e he
  have := h e (List.mem_range.1 he)
  rw [Bool.eq_iff_iff]
  simpa using this
/-- How much is left. -/
def ph (D : List (List (Nat × Int))) (s : Gs) : Nat := ((List.range D.length).map fun d => (nmD D d).length - atd s d).sum + s.lt.length
theorem Iv.out {D : List (List (Nat × Int))} {m : Nat} {s : Gs} {Pd Gr : List Nat} {d : Nat} (h : Iv D m s (d :: Pd) Gr) (he : (nmD D d)[atd s d]? = none) : Iv D m s Pd Gr := by
  have hs : (s.lt ++ Pd ++ Gr).Sublist (s.lt ++ (d :: Pd) ++ Gr) := ((List.sublist_cons_self d Pd).append_left s.lt).append_right Gr
  refine { h with nd := h.nd.sublist hs, lt := fun e he => h.lt e (hs.subset he), cnt := fun n hn hr => ?_ }
  rw [h.cnt n hn hr]
  congr 1
  apply wt_congr
  intro e _
  simp only [List.mem_append, List.mem_cons]
  constructor
  · rintro ⟨h1, h2⟩
    exact ⟨fun q => h1 (by rcases q with (q | q) | q <;> simp [q]), h2⟩
  · rintro ⟨h1, h2⟩
    refine ⟨fun q => ?_, h2⟩
    by_cases hed : e = d
    · subst hed; rw [he] at h2; cases h2
    · exact h1 (by rcases q with (q | q | q) | q <;> first | exact absurd q hed | simp [q])
end Go.Proofs.YtjimolafoihnpaaDoor.tc

/-
  goOn goes through and keeps what is kept.
-/
namespace Go.Proofs.YtjimolafoihnpaaDoor.tc
open Go.Maps Go.ChangeShapes Go.WideShapes Go.ChangeAt Go.RowKit Go.PlainAid

theorem getD_set (l : List Nat) (i j a : Nat) (h : i < l.length) : (l.set i a).getD j 0 = if i = j then a else l.getD j 0 := by
  rw [List.getD_eq_getElem?_getD, List.getD_eq_getElem?_getD]
  by_cases e : i = j
  · subst e
    rw [List.getElem?_set_self h, if_pos rfl]
    rfl
  · rw [List.getElem?_set_ne e, if_neg e]
theorem getD_some {l : List Nat} {i a : Nat} (h : l[i]? = some a) : l.getD i 0 = a := by rw [List.getD_eq_getElem?_getD, h]; rfl
theorem drop_hd {l : List Nat} {i n : Nat} (h : l[i]? = some n) : n ∈ l.drop i := by
  rw [List.mem_iff_getElem?]
  exact ⟨0, by rw [List.getElem?_drop]; exact h⟩
theorem drop_cons {l : List Nat} {i n : Nat} (h : l[i]? = some n) : l.drop i = n :: l.drop (i + 1) := by
  have hi := (List.getElem?_eq_some_iff.1 h).1
  rw [List.drop_eq_getElem_cons hi]
  congr 1
  exact (List.getElem?_eq_some_iff.1 h).2
theorem take_snoc {l : List Nat} {i n : Nat} (h : l[i]? = some n) : l.take (i + 1) = l.take i ++ [n] := by
  have hi := (List.getElem?_eq_some_iff.1 h).1
  rw [List.take_succ_eq_append_getElem hi]
  congr 2
  exact (List.getElem?_eq_some_iff.1 h).2
/-- A document comes and waits. -/
theorem Iv.wait {D : List (List (Nat × Int))} {m : Nat} {s : Gs} {Pd Gr : List Nat} {d n c : Nat} (h : Iv D m s (d :: Pd) Gr) (hn : (nmD D d)[atd s d]? = some n) (hnm : n < m) (hc : s.cm[n]? = some c) (hl : c + 1 < (rsH (hvD D) n).length) :
    Iv D m { s with cm := s.cm.set n (c + 1) } Pd Gr := by
  have hs : (s.lt ++ Pd ++ Gr).Sublist (s.lt ++ (d :: Pd) ++ Gr) := ((List.sublist_cons_self d Pd).append_left s.lt).append_right Gr
  have hdn : d ∉ s.lt ++ Pd ++ Gr := by
    have hp : (s.lt ++ (d :: Pd) ++ Gr).Perm (d :: (s.lt ++ Pd ++ Gr)) := by
      rw [List.append_assoc, List.append_assoc]
      exact List.perm_middle
    exact (List.nodup_cons.1 (hp.nodup_iff.1 h.nd)).1
  have hdD : d < D.length := h.lt d (by simp)
  have hdG : d ∉ Gr := fun q => hdn (by simp [q])
  have hnr : n ∉ s.row := fun q => h.nx d n q hdG (drop_hd hn)
  have hcl : n < s.cm.length := by rw [h.lc]; exact hnm
  refine { h with lc := by simp [h.lc], nd := h.nd.sublist hs, lt := fun e he => h.lt e (hs.subset he), cnt := fun k hk hr => ?_, cl := fun k hk hr h0 => ?_ }
  · show (s.cm.set n (c + 1)).getD k 0 = _
    rw [getD_set _ _ _ _ hcl]
    by_cases hkn : n = k
    · subst hkn
      rw [if_pos rfl]
      have h1 := h.cnt n hk hr
      rw [getD_some hc] at h1
      have h2 := filt_one (p := fun e => decide (e ∉ s.lt ++ (d :: Pd) ++ Gr) && ((nmD D e)[atd s e]? == some n)) (p' := fun e => decide (e ∉ s.lt ++ Pd ++ Gr) && ((nmD D e)[atd s e]? == some n)) (d := d) (List.range D.length) List.nodup_range (List.mem_range.2 hdD) (by simp) (by simp only [hn, hdn]; simp) (fun e _ hed => by
        have : e ∉ s.lt ++ (d :: Pd) ++ Gr ↔ e ∉ s.lt ++ Pd ++ Gr := by simp [hed]
        simp only [this])
      show c + 1 = (wt D s (s.lt ++ Pd ++ Gr) n).length
      rw [wt, h2, h1]
      rfl
    · rw [if_neg hkn, h.cnt k hk hr]
      congr 1
      apply wt_congr
      intro e _
      show _ ↔ e ∉ s.lt ++ Pd ++ Gr ∧ (nmD D e)[atd s e]? = some k
      by_cases hed : e = d
      · subst hed
        rw [hn]
        simp [hkn]
      · simp [hed]
  · show (s.cm.set n (c + 1)).getD k 0 < _
    rw [getD_set _ _ _ _ hcl]
    split
    · rename_i e; subst e; exact hl
    · exact h.cl k hk hr h0
/-- A name is complete. -/
theorem Iv.full {D : List (List (Nat × Int))} {m : Nat} {s : Gs} {Pd Gr : List Nat} {d n c : Nat} (h : Iv D m s (d :: Pd) Gr) (hn : (nmD D d)[atd s d]? = some n) (hnm : n < m) (hc : s.cm[n]? = some c) (hl : c + 1 = (rsH (hvD D) n).length) :
    Iv D m { s with cm := s.cm.set n (c + 1), row := s.row ++ [n] } Pd (rsH (hvD D) n ++ Gr) := by
  have hp : (s.lt ++ (d :: Pd) ++ Gr).Perm (d :: (s.lt ++ Pd ++ Gr)) := by
    rw [List.append_assoc, List.append_assoc]
    exact List.perm_middle
  obtain ⟨hdn, hnd0⟩ := List.nodup_cons.1 (hp.nodup_iff.1 h.nd)
  have hdD : d < D.length := h.lt d (by simp)
  have hdG : d ∉ Gr := fun q => hdn (by simp [q])
  have hnr : n ∉ s.row := fun q => h.nx d n q hdG (drop_hd hn)
  have hcl : n < s.cm.length := by rw [h.lc]; exact hnm
  have hcw := h.cnt n hnm hnr
  rw [getD_some hc] at hcw
  have hdW : d ∉ wt D s (s.lt ++ (d :: Pd) ++ Gr) n := fun q => (wt_mem.1 q).2.1 (by simp)
  have hWn : (wt D s (s.lt ++ (d :: Pd) ++ Gr) n).Nodup := List.nodup_range.filter _
  have hall : ∀ o ∈ d :: wt D s (s.lt ++ (d :: Pd) ++ Gr) n, (nmD D o)[atd s o]? = some n := fun o ho => by
    rcases List.mem_cons.1 ho with rfl | ho
    · exact hn
    · exact (wt_mem.1 ho).2.2
  obtain ⟨hHn, hHs⟩ := sub_eq (d :: wt D s (s.lt ++ (d :: Pd) ++ Gr) n) (rsH (hvD D) n) (List.nodup_cons.2 ⟨hdW, hWn⟩) (fun o ho => hv_mem.2 (List.mem_of_getElem? (hall o ho))) (by rw [List.length_cons]; omega)
  have hst : ∀ o ∈ rsH (hvD D) n, (nmD D o)[atd s o]? = some n := fun o ho => hall o (hHs o ho)
  have hno : ∀ o ∈ rsH (hvD D) n, o ∉ s.lt ++ Pd ++ Gr := fun o ho => by
    rcases List.mem_cons.1 (hHs o ho) with rfl | h1
    · exact hdn
    · intro q
      exact (wt_mem.1 h1).2.1 (hp.mem_iff.2 (by simp only [List.mem_cons]; exact .inr q))
  have hout : ∀ o, o ∉ rsH (hvD D) n → n ∉ nmD D o := fun o ho q => ho (hv_mem.2 q)
  have honce : ∀ o ∈ rsH (hvD D) n, n ∉ (nmD D o).drop (atd s o + 1) := fun o ho q => by
    have h1 := hv_once (o := o) hHn
    have h2 : nmD D o = (nmD D o).take (atd s o) ++ n :: (nmD D o).drop (atd s o + 1) := by
      rw [← drop_cons (hst o ho), List.take_append_drop]
    rw [h2, List.count_append, List.count_cons_self] at h1
    have h3 := List.count_pos_iff.2 q
    omega
  have hG : ∀ o, o ∉ rsH (hvD D) n ++ Gr → o ∉ rsH (hvD D) n ∧ o ∉ Gr := fun o ho => ⟨fun q => ho (by simp [q]), fun q => ho (by simp [q])⟩
  have hHG : ∀ o ∈ rsH (hvD D) n, o ∉ Gr := fun o ho q => hno o ho (by simp [q])
  refine { h with lc := by simp [h.lc], nd := ?_, lt := fun e he => ?_, cnt := fun k hk hr => ?_, cl := fun k hk hr h0 => ?_, ps := fun e x hx => ?_, gr := fun e he => ?_, nx := fun e x hx he => ?_, nx2 := fun e he x hx => ?_, rn := ?_, rl := fun x hx => ?_, sb := fun e he => ?_, sb2 := fun e he => ?_ }
  · show (s.lt ++ Pd ++ (rsH (hvD D) n ++ Gr)).Nodup
    have e1 : (s.lt ++ Pd ++ (rsH (hvD D) n ++ Gr)).Perm (rsH (hvD D) n ++ (s.lt ++ Pd ++ Gr)) := by
      rw [← List.append_assoc, ← List.append_assoc]
      exact List.perm_append_comm.append_right Gr
    refine e1.nodup_iff.2 (List.nodup_append.2 ⟨hHn, hnd0, fun a ha b hb hab => ?_⟩)
    subst hab
    exact hno a ha hb
  · have he' : e ∈ s.lt ++ Pd ++ (rsH (hvD D) n ++ Gr) := he
    by_cases hH : e ∈ rsH (hvD D) n
    · exact hv_lt hH
    · refine h.lt e ?_
      simp only [List.mem_append, List.mem_cons] at he' ⊢
      rcases he' with (q | q) | q | q
      · simp [q]
      · simp [q]
      · exact absurd q hH
      · simp [q]
  · have hr' : k ∉ s.row ++ [n] := hr
    have hkn : ¬ n = k := fun q => hr' (by simp [q])
    have hkr : k ∉ s.row := fun q => hr' (by simp [q])
    show (s.cm.set n (c + 1)).getD k 0 = (wt D s (s.lt ++ Pd ++ (rsH (hvD D) n ++ Gr)) k).length
    rw [getD_set _ _ _ _ hcl, if_neg hkn, h.cnt k hk hkr]
    congr 1
    apply wt_congr
    intro e _
    by_cases hH : e ∈ rsH (hvD D) n
    · rw [hst e hH]
      simp [hkn]
    · have hed : ¬ e = d := by
        rintro rfl
        exact hH (hv_mem.2 (List.mem_of_getElem? hn))
      simp [hH, hed]
  · have hr' : k ∉ s.row ++ [n] := hr
    have hkn : ¬ n = k := fun q => hr' (by simp [q])
    have hkr : k ∉ s.row := fun q => hr' (by simp [q])
    show (s.cm.set n (c + 1)).getD k 0 < _
    rw [getD_set _ _ _ _ hcl, if_neg hkn]
    exact h.cl k hk hkr h0
  · exact List.mem_append_left _ (h.ps e x hx)
  · rcases List.mem_append.1 he with he | he
    · exact ⟨n, by simp, hst e he⟩
    · obtain ⟨y, h1, h2⟩ := h.gr e he
      exact ⟨y, List.mem_append_left _ h1, h2⟩
  · obtain ⟨h1, h2⟩ := hG e he
    rcases List.mem_append.1 hx with hx | hx
    · exact h.nx e x hx h2
    · obtain rfl := List.mem_singleton.1 hx
      exact fun q => hout e h1 (List.mem_of_mem_drop q)
  · rcases List.mem_append.1 hx with hx | hx
    · rcases List.mem_append.1 he with he | he
      · intro q
        refine h.nx e x hx (hHG e he) ?_
        rw [drop_cons (hst e he)]
        exact List.mem_cons_of_mem _ q
      · exact h.nx2 e he x hx
    · obtain rfl := List.mem_singleton.1 hx
      rcases List.mem_append.1 he with he | he
      · exact honce e he
      · exact fun q => hout e (fun h9 => hHG e h9 he) (List.mem_of_mem_drop q)
  · refine List.nodup_append.2 ⟨h.rn, by simp, fun a ha b hb hab => ?_⟩
    obtain rfl := List.mem_singleton.1 hb
    subst hab
    exact hnr ha
  · rcases List.mem_append.1 hx with hx | hx
    · exact h.rl x hx
    · obtain rfl := List.mem_singleton.1 hx
      exact hnm
  · exact (h.sb e (hG e he).2).trans (List.sublist_append_left _ _)
  · rcases List.mem_append.1 he with he | he
    · show ((nmD D e).take (atd s e + 1)).Sublist (s.row ++ [n])
      rw [take_snoc (hst e he)]
      exact (h.sb e (hHG e he)).append_right [n]
    · exact (h.sb2 e he).trans (List.sublist_append_left _ _)
/-- One of them goes on. -/
theorem Iv.go {D : List (List (Nat × Int))} {m : Nat} {s : Gs} {Pd G : List Nat} {o : Nat} (h : Iv D m s Pd (o :: G)) : Iv D m { s with at' := s.at'.set o (atd s o + 1) } (o :: Pd) G := by
  have hp : (s.lt ++ Pd ++ (o :: G)).Perm (s.lt ++ (o :: Pd) ++ G) := by
    refine List.perm_middle.trans ?_
    rw [List.append_assoc s.lt (o :: Pd) G, List.append_assoc]
    exact List.perm_middle.symm
  have hnd := hp.nodup_iff.1 h.nd
  have hoG : o ∉ G := (List.nodup_cons.1 ((List.nodup_append.1 h.nd).2.1)).1
  have hoD : o < s.at'.length := by rw [h.la]; exact h.lt o (by simp)
  have hat : ∀ e, atd { s with at' := s.at'.set o (atd s o + 1) } e = if o = e then atd s o + 1 else atd s e := fun e => getD_set _ _ _ _ hoD
  obtain ⟨n, hnr, hst⟩ := h.gr o (by simp)
  have hlt := (List.getElem?_eq_some_iff.1 hst).1
  refine { h with la := by simp [h.la], nd := hnd, lt := fun e he => h.lt e (hp.mem_iff.2 he), le := fun e => ?_, cnt := fun k hk hr => ?_, ps := fun e x hx => ?_, gr := fun e he => ?_, nx := fun e x hx he => ?_, nx2 := fun e he x hx => ?_, sb := fun e he => ?_, sb2 := fun e he => ?_ }
  · rw [hat]
    split
    · rename_i q; subst q; omega
    · exact h.le e
  · rw [show ({ s with at' := s.at'.set o (atd s o + 1) } : Gs).cm.getD k 0 = s.cm.getD k 0 from rfl, h.cnt k hk hr]
    congr 1
    apply wt_congr
    intro e _
    rw [hat]
    by_cases hoe : o = e
    · subst hoe
      simp
    · rw [if_neg hoe]
      have := hp.mem_iff (a := e)
      show _ ↔ e ∉ s.lt ++ (o :: Pd) ++ G ∧ _
      rw [← this]
  · rw [hat] at hx
    split at hx
    · rename_i q
      subst q
      rw [take_snoc hst] at hx
      rcases List.mem_append.1 hx with hx | hx
      · exact h.ps o x hx
      · obtain rfl := List.mem_singleton.1 hx
        exact hnr
    · exact h.ps e x hx
  · rw [hat, if_neg (by rintro rfl; exact hoG he)]
    exact h.gr e (by simp [he])
  · rw [hat]
    split
    · rename_i q
      subst q
      exact h.nx2 o (by simp) x hx
    · rename_i q
      exact h.nx e x hx (by simp only [List.mem_cons]; rintro (r | r); exact q r.symm; exact he r)
  · rw [hat, if_neg (by rintro rfl; exact hoG he)]
    exact h.nx2 e (by simp [he]) x hx
  · rw [hat]
    split
    · rename_i q
      subst q
      exact h.sb2 o (by simp)
    · rename_i q
      exact h.sb e (by simp only [List.mem_cons]; rintro (r | r); exact q r.symm; exact he r)
  · rw [hat, if_neg (by rintro rfl; exact hoG he)]
    exact h.sb2 e (by simp [he])
end Go.Proofs.YtjimolafoihnpaaDoor.tc

/-
  row goes through: it is an order if all names are in it; if there is an order, they are.
-/
namespace Go.Proofs.YtjimolafoihnpaaDoor.tc
open Go.Maps Go.ChangeShapes Go.WideShapes Go.ChangeAt Go.RowKit Go.PlainAid

theorem ph_at {D : List (List (Nat × Int))} {s s' : Gs} (h : ∀ e, atd s' e = atd s e) (hl : s'.lt.length = s.lt.length) : ph D s' = ph D s := by
  unfold ph
  rw [hl]
  congr 2
  apply List.map_congr_left
  intro e _
  rw [h]
theorem ph_go {D : List (List (Nat × Int))} {s : Gs} {o : Nat} (hoD : o < D.length) (hl : o < s.at'.length) (ho : atd s o < (nmD D o).length) : ph D { s with at' := s.at'.set o (atd s o + 1) } + 1 = ph D s := by
  have hat : ∀ e, atd { s with at' := s.at'.set o (atd s o + 1) } e = if o = e then atd s o + 1 else atd s e := fun e => getD_set _ _ _ _ hl
  unfold ph
  rw [sum_set (fun d => (nmD D d).length - atd { s with at' := s.at'.set o (atd s o + 1) } d) (fun d => (nmD D d).length - atd s d) o (List.range D.length) List.nodup_range (List.mem_range.2 hoD) (fun e _ hne => by simp only [hat]; rw [if_neg (fun q => hne q.symm)]) (by simp only [hat, if_true]; omega)]
  show _ + s.lt.length + 1 = _
  omega
/-- What is asked of what came in. -/
structure Fit3 (D : List (List (Nat × Int))) (m : Nat) : Prop where
  dl : D.length ≤ 1048576
  ml : m ≤ 1048576
  row : ∀ r ∈ D, r.length ≤ 1048576 ∧ ∀ x ∈ r, x.1 < m
theorem Fit3.nm {D : List (List (Nat × Int))} {m : Nat} (h : Fit3 D m) {d n : Nat} (hn : n ∈ nmD D d) : n < m := by
  by_cases hd : d < D.length
  · rw [nmD_at (List.getElem?_eq_getElem hd)] at hn
    obtain ⟨x, hx, rfl⟩ := List.mem_map.1 hn
    exact (h.row _ (List.getElem_mem hd)).2 x hx
  · rw [nmD_none hd] at hn; simp at hn
theorem Fit3.len {D : List (List (Nat × Int))} {m : Nat} (h : Fit3 D m) (d : Nat) : (nmD D d).length ≤ 1048576 := by
  by_cases hd : d < D.length
  · rw [nmD_at (List.getElem?_eq_getElem hd), List.length_map]
    exact (h.row _ (List.getElem_mem hd)).1
  · rw [nmD_none hd]; simp
theorem Iv.rowl {D : List (List (Nat × Int))} {m : Nat} {s : Gs} {Pd Gr : List Nat} (h : Iv D m s Pd Gr) : s.row.length ≤ m := by
  have := sub_len s.row (List.range m) h.rn (fun x hx => List.mem_range.2 (h.rl x hx))
  rwa [List.length_range] at this
theorem Iv.relt {D : List (List (Nat × Int))} {m : Nat} {s : Gs} {Pd Gr : List Nat} (h : Iv D m s Pd Gr) (l Pd' : List Nat) (e : s.lt ++ Pd ++ Gr = l ++ Pd' ++ Gr) : Iv D m { s with lt := l } Pd' Gr := by
  refine { h with nd := by show (l ++ Pd' ++ Gr).Nodup; rw [← e]; exact h.nd, lt := fun x hx => h.lt x (by rw [e]; exact hx), cnt := fun n hn hr => ?_ }
  have h1 := h.cnt n hn hr
  rw [e] at h1
  exact h1
theorem goO_ok {D : List (List (Nat × Int))} {m : Nat} (hF : Fit3 D m) : ∀ (f d : Nat) (s : Gs) (Pd Gr : List Nat), Iv D m s (d :: Pd) Gr → ∃ s', goO D (tabH (hvD D) m) f d s = some s' ∧ Iv D m s' Pd Gr ∧ ph D s' ≤ ph D s + (if f = 0 then 1 else 0) := by
  intro f
  induction f with
  | zero =>
    intro d s Pd Gr h
    have hdD : d < D.length := h.lt d (by simp)
    have hr : D[d]? = some D[d] := List.getElem?_eq_getElem hdD
    have hdl : d < s.at'.length := by rw [h.la]; exact hdD
    have ha : s.at'[d]? = some (atd s d) := by rw [atd, List.getD_eq_getElem?_getD, List.getElem?_eq_getElem hdl]; rfl
    unfold goO
    rw [hr, ha]
    simp only
    by_cases he : atd s d = D[d].length
    · rw [if_pos he]
      refine ⟨s, rfl, h.out ?_, by omega⟩
      rw [nmD_at hr]
      exact List.getElem?_eq_none (by simp; omega)
    · rw [if_neg he]
      have hll : s.lt.length < D.length := by
        have h1 := sub_len (s.lt ++ (d :: Pd) ++ Gr) (List.range D.length) h.nd (fun x hx => List.mem_range.2 (h.lt x hx))
        simp at h1
        omega
      rw [if_pos (by have := hF.dl; omega)]
      refine ⟨_, rfl, ?_, ?_⟩
      · exact h.relt (s.lt ++ [d]) Pd (by simp)
      · unfold ph
        simp only [List.length_append, List.length_singleton, if_true]
        show _ + (s.lt.length + 1) ≤ _ + s.lt.length + 1
        exact Nat.le_refl _
  | succ f ih =>
    intro d s Pd Gr h
    have hdD : d < D.length := h.lt d (by simp)
    have hr : D[d]? = some D[d] := List.getElem?_eq_getElem hdD
    have hdl : d < s.at'.length := by rw [h.la]; exact hdD
    have ha : s.at'[d]? = some (atd s d) := by rw [atd, List.getD_eq_getElem?_getD, List.getElem?_eq_getElem hdl]; rfl
    unfold goO
    rw [hr, ha]
    simp only
    by_cases he : atd s d = D[d].length
    · rw [if_pos he]
      refine ⟨s, rfl, h.out ?_, by omega⟩
      rw [nmD_at hr]
      exact List.getElem?_eq_none (by simp; omega)
    · rw [if_neg he]
      have hle := h.le d
      rw [nmD_at hr, List.length_map] at hle
      have hlt : atd s d < D[d].length := by omega
      have hx : D[d][atd s d]? = some D[d][atd s d] := List.getElem?_eq_getElem hlt
      obtain ⟨x, hxe⟩ : ∃ x, x = D[d][atd s d] := ⟨_, rfl⟩
      rw [← hxe] at hx
      have hst : (nmD D d)[atd s d]? = some x.1 := by rw [nmD_at hr, List.getElem?_map, hx]; rfl
      have hxm : x.1 < m := hF.nm (List.mem_of_getElem? hst)
      have hdG : d ∉ Gr := by
        have hp : (s.lt ++ (d :: Pd) ++ Gr).Perm (d :: (s.lt ++ Pd ++ Gr)) := by
          rw [List.append_assoc, List.append_assoc]
          exact List.perm_middle
        exact fun q => (List.nodup_cons.1 (hp.nodup_iff.1 h.nd)).1 (by simp [q])
      have hnr : x.1 ∉ s.row := fun q => h.nx d x.1 q hdG (drop_hd hst)
      have hcl : x.1 < s.cm.length := by rw [h.lc]; exact hxm
      have hc : s.cm[x.1]? = some (s.cm.getD x.1 0) := by rw [List.getD_eq_getElem?_getD, List.getElem?_eq_getElem hcl]; rfl
      have hHx : (tabH (hvD D) m)[x.1]? = some (rsH (hvD D) x.1) := tabH_at hxm
      have hne : rsH (hvD D) x.1 ≠ [] := List.ne_nil_of_mem (hv_mem.2 (List.mem_of_getElem? hst))
      have hcc := h.cl x.1 hxm hnr hne
      rw [hx]
      simp only
      rw [hc, hHx]
      simp only
      by_cases hw : s.cm.getD x.1 0 + 1 < (rsH (hvD D) x.1).length
      · rw [if_pos hw]
        exact ⟨_, rfl, h.wait hst hxm hc hw, Nat.le_trans (Nat.le_of_eq (ph_at (s := s) (fun _ => rfl) rfl)) (Nat.le_add_right _ _)⟩
      · rw [if_neg hw]
        have hf := h.full hst hxm hc (by omega)
        have hrl : s.row.length < 1048576 := by
          have := hf.rowl
          simp at this
          have := hF.ml
          omega
        rw [if_pos ⟨by omega, hrl⟩]
        have each : ∀ (rest : List Nat) (s1 : Gs), Iv D m s1 Pd (rest ++ Gr) → ∃ s', rest.foldlM (stO D (tabH (hvD D) m) f) s1 = some s' ∧ Iv D m s' Pd Gr ∧ ph D s' ≤ ph D s1 := by
          intro rest
          induction rest with
          | nil => intro s1 h1; exact ⟨s1, rfl, h1, Nat.le_refl _⟩
          | cons o rest ihr =>
            intro s1 h1
            have hoD : o < D.length := h1.lt o (by simp)
            have hol : o < s1.at'.length := by rw [h1.la]; exact hoD
            have hoa : s1.at'[o]? = some (atd s1 o) := by rw [atd, List.getD_eq_getElem?_getD, List.getElem?_eq_getElem hol]; rfl
            obtain ⟨n, -, hon⟩ := h1.gr o (by simp)
            have hlo := (List.getElem?_eq_some_iff.1 hon).1
            have hbo := hF.len o
            obtain ⟨s2, e2, h2, p2⟩ := ih o _ Pd (rest ++ Gr) (h1.go (G := rest ++ Gr))
            have hst2 : stO D (tabH (hvD D) m) f s1 o = some s2 := by
              unfold stO
              rw [hoa]
              simp only
              rw [if_pos (by omega)]
              exact e2
            obtain ⟨s3, e3, h3, p3⟩ := ihr s2 h2
            have hph := ph_go hoD hol hlo
            refine ⟨s3, by rw [List.foldlM_cons, hst2]; exact e3, h3, ?_⟩
            have : (if f = 0 then 1 else 0) ≤ 1 := by split <;> omega
            omega
        obtain ⟨s', e', h', p'⟩ := each _ _ hf
        refine ⟨s', e', h', ?_⟩
        exact Nat.le_trans p' (Nat.le_trans (Nat.le_of_eq (ph_at (s := s) (fun _ => rfl) rfl)) (Nat.le_add_right _ _))
theorem drn_ok {D : List (List (Nat × Int))} {m : Nat} (hF : Fit3 D m) : ∀ (F : Nat) (s : Gs) (Pd : List Nat), Iv D m s Pd [] → ph D s ≤ F → ∃ s', drn D (tabH (hvD D) m) F s = some s' ∧ Iv D m s' Pd [] ∧ s'.lt = [] ∧ ph D s' ≤ ph D s := by
  intro F
  induction F with
  | zero =>
    intro s Pd h hp
    have hl : s.lt = [] := by
      apply List.length_eq_zero_iff.1
      unfold ph at hp
      omega
    exact ⟨s, by rw [drn, if_pos hl], h, hl, Nat.le_refl _⟩
  | succ F ih =>
    intro s Pd h hp
    rcases List.eq_nil_or_concat s.lt with hl | ⟨l, x, hl⟩
    · exact ⟨s, by rw [drn, hl]; rfl, h, hl, Nat.le_refl _⟩
    · rw [List.concat_eq_append] at hl
      have hi : Iv D m { s with lt := l } (x :: Pd) [] := h.relt l (x :: Pd) (by rw [hl]; simp)
      obtain ⟨s1, e1, h1, p1⟩ := goO_ok hF 1000 x _ _ _ hi
      have hph : ph D { s with lt := l } + 1 = ph D s := by
        unfold ph
        rw [hl, List.length_append, List.length_singleton]
        rfl
      rw [if_neg (by decide)] at p1
      obtain ⟨s2, e2, h2, l2, p2⟩ := ih s1 Pd h1 (by omega)
      refine ⟨s2, ?_, h2, l2, by omega⟩
      rw [drn, hl]
      simp only [List.getLast?_append, List.getLast?_singleton, Option.some_or, List.dropLast_concat]
      rw [e1]
      exact e2
theorem rowM_ok {D : List (List (Nat × Int))} {m : Nat} (hF : Fit3 D m) : ∃ F sE, rowM D (tabH (hvD D) m) m F = some sE ∧ Iv D m sE [] [] ∧ sE.lt = [] := by
  obtain ⟨s0, hs0⟩ : ∃ s0 : Gs, s0 = ⟨List.replicate D.length 0, List.replicate m 0, [], []⟩ := ⟨_, rfl⟩
  have hat : ∀ d, atd s0 d = 0 := by
    intro d
    subst hs0
    show (List.replicate D.length 0).getD d 0 = 0
    rw [List.getD_eq_getElem?_getD, List.getElem?_replicate]
    split <;> rfl
  have hcm : ∀ n, s0.cm.getD n 0 = 0 := by
    intro n
    subst hs0
    show (List.replicate m 0).getD n 0 = 0
    rw [List.getD_eq_getElem?_getD, List.getElem?_replicate]
    split <;> rfl
  have hrw : s0.row = [] := by subst hs0; rfl
  have hlt : s0.lt = [] := by subst hs0; rfl
  have h0 : Iv D m s0 (List.range D.length) [] := by
    refine { la := by subst hs0; simp, lc := by subst hs0; simp, nd := by rw [hlt]; simpa using List.nodup_range, lt := fun d hd => by rw [hlt] at hd; simpa using hd, le := fun d => by rw [hat]; omega, cnt := fun n hn hr => ?_, cl := fun n hn hr h0 => by rw [hcm]; exact List.length_pos_iff.2 h0, ps := fun d n hn => by rw [hat] at hn; simp at hn, gr := fun d hd => by simp at hd, nx := fun d n hn => by rw [hrw] at hn; simp at hn, nx2 := fun d hd => by simp at hd, rn := by rw [hrw]; simp, rl := fun n hn => by rw [hrw] at hn; simp at hn, sb := fun d _ => by rw [hat]; simp, sb2 := fun d hd => by simp at hd }
    rw [hcm, hlt]
    symm
    apply List.length_eq_zero_iff.2
    apply List.eq_nil_iff_forall_not_mem.2
    intro e he
    obtain ⟨h1, h2, -⟩ := wt_mem.1 he
    exact h2 (by simpa using h1)
  have each : ∀ (rest : List Nat) (s : Gs), Iv D m s rest [] → s.lt = [] → ph D s ≤ ph D s0 → ∃ s', rest.foldlM (dcG D (tabH (hvD D) m) (ph D s0)) s = some s' ∧ Iv D m s' [] [] ∧ s'.lt = [] := by
    intro rest
    induction rest with
    | nil => intro s h hl hp; exact ⟨s, rfl, h, hl⟩
    | cons d rest ih =>
      intro s h hl hp
      obtain ⟨s1, e1, h1, p1⟩ := goO_ok hF 1000 d s rest [] h
      rw [if_neg (by decide)] at p1
      obtain ⟨s2, e2, h2, l2, p2⟩ := drn_ok hF (ph D s0) s1 rest h1 (by omega)
      obtain ⟨s3, e3, h3, l3⟩ := ih s2 h2 l2 (by omega)
      refine ⟨s3, ?_, h3, l3⟩
      rw [List.foldlM_cons]
      have : dcG D (tabH (hvD D) m) (ph D s0) s d = some s2 := by rw [dcG, e1]; exact e2
      rw [this]
      exact e3
  obtain ⟨sE, e, h, l⟩ := each _ s0 h0 hlt (Nat.le_refl _)
  refine ⟨ph D s0, sE, ?_, h, l⟩
  rw [rowM, ← hs0]
  exact e
/-- An order of names in which each document's stand. -/
def OrdN (D : List (List (Nat × Int))) (l : List Nat) : Prop := l.Nodup ∧ ∀ d, (nmD D d).Sublist l
theorem row_sound {D : List (List (Nat × Int))} {m : Nat} {s : Gs} (h : Iv D m s [] []) (hF : Fit3 D m) (hl : m ≤ s.row.length) : OrdN D s.row := by
  have hall : ∀ n, n < m → n ∈ s.row := by
    have he := sub_eq s.row (List.range m) h.rn (fun x hx => List.mem_range.2 (h.rl x hx)) (by rw [List.length_range]; have := h.rowl; omega)
    exact fun n hn => he.2 n (List.mem_range.2 hn)
  refine ⟨h.rn, fun d => ?_⟩
  have hd : (nmD D d).drop (atd s d) = [] := by
    apply List.eq_nil_iff_forall_not_mem.2
    intro n hn
    exact h.nx d n (hall n (hF.nm (List.mem_of_mem_drop hn))) (by simp) hn
  have h1 := h.sb d (by simp)
  have h2 := List.take_append_drop (atd s d) (nmD D d)
  rw [hd, List.append_nil] at h2
  rwa [h2] at h1
end Go.Proofs.YtjimolafoihnpaaDoor.tc
