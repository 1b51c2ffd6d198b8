/-
  What goOn keeps: the theory of row, as data.
-/
import Derived.Test.YtjimolafoihnpaaTsA
namespace Go.Proofs.Ytjimolafoihnpaa.tc
open Go.Maps Go.ChangeShapes Go.WideShapes Go.ChangeAt Go.RowKit Go.PlainAid

/-! ### Lists -/
theorem sub_len {α : Type} [BEq α] [LawfulBEq α] : ∀ (a b : List α), a.Nodup → (∀ x ∈ a, x ∈ b) → a.length ≤ b.length
  | [], b, _, _ => by simp
  | x :: a, b, hn, hs => by
    rw [List.nodup_cons] at hn
    have hx := hs x (by simp)
    have h := sub_len a (b.erase x) hn.2 (fun y hy => (List.mem_erase_of_ne (by rintro rfl; exact hn.1 hy)).2 (hs y (by simp [hy])))
    rw [List.length_erase_of_mem hx] at h
    have := List.length_pos_of_mem hx
    rw [List.length_cons]
    omega
theorem sub_eq {α : Type} [BEq α] [LawfulBEq α] : ∀ (a b : List α), a.Nodup → (∀ x ∈ a, x ∈ b) → a.length = b.length → b.Nodup ∧ ∀ x ∈ b, x ∈ a
  | [], b, _, _, hl => by
    have : b = [] := List.length_eq_zero_iff.1 hl.symm
    subst this
    simp
  | x :: a, b, hn, hs, hl => by
    rw [List.nodup_cons] at hn
    have hx := hs x (by simp)
    have hp := List.perm_cons_erase hx
    obtain ⟨h1, h2⟩ := sub_eq a (b.erase x) hn.2 (fun y hy => (List.mem_erase_of_ne (by rintro rfl; exact hn.1 hy)).2 (hs y (by simp [hy]))) (by
      rw [List.length_erase_of_mem hx]
      rw [List.length_cons] at hl
      omega)
    refine ⟨hp.nodup_iff.2 (List.nodup_cons.2 ⟨fun h => hn.1 (h2 x h), h1⟩), fun y hy => ?_⟩
    rcases List.mem_cons.1 (hp.mem_iff.1 hy) with rfl | h
    · simp
    · simp [h2 y h]
theorem filt_one {α : Type} [DecidableEq α] {p p' : α → Bool} {d : α} : ∀ (l : List α), l.Nodup → d ∈ l → p d = false → p' d = true → (∀ e ∈ l, e ≠ d → p' e = p e) → (l.filter p').length = (l.filter p).length + 1
  | [], _, h, _, _, _ => by simp at h
  | x :: l, hn, hd, h1, h2, he => by
    rw [List.nodup_cons] at hn
    by_cases hx : x = d
    · subst hx
      have e : l.filter p' = l.filter p := List.filter_congr (fun y hy => he y (by simp [hy]) (by rintro rfl; exact hn.1 hy))
      rw [List.filter_cons, List.filter_cons, h1, h2, e]
      simp
    · have hd' : d ∈ l := by
        rcases List.mem_cons.1 hd with h | h
        · exact absurd h.symm hx
        · exact h
      have ih := filt_one l hn.2 hd' h1 h2 (fun e hm hne => he e (by simp [hm]) hne)
      rw [List.filter_cons, List.filter_cons, he x (by simp) hx]
      split
      · simp [ih]
      · exact ih
theorem sum_set (g h : Nat → Nat) (o : Nat) : ∀ (l : List Nat), l.Nodup → o ∈ l → (∀ e ∈ l, e ≠ o → g e = h e) → h o = g o + 1 → (l.map h).sum = (l.map g).sum + 1
  | [], _, hm, _, _ => by simp at hm
  | x :: l, hn, hm, he, ho => by
    rw [List.nodup_cons] at hn
    rw [List.map_cons, List.map_cons, List.sum_cons, List.sum_cons]
    by_cases hx : x = o
    · subst hx
      have e : l.map h = l.map g := List.map_congr_left (fun y hy => (he y (by simp [hy]) (by rintro rfl; exact hn.1 hy)).symm)
      rw [e, ho]
      omega
    · have hm' : o ∈ l := by
        rcases List.mem_cons.1 hm with h9 | h9
        · exact absurd h9.symm hx
        · exact h9
      have ih := sum_set g h o l hn.2 hm' (fun e h1 h2 => he e (by simp [h1]) h2) ho
      rw [ih, he x (by simp) hx]
      omega

/-! ### Who has a name -/
/-- The names of a document. -/
def nmD (D : List (List (Nat × Int))) (d : Nat) : List Nat := (D.getD d []).map Prod.fst
theorem nmD_at {D : List (List (Nat × Int))} {d : Nat} {r : List (Nat × Int)} (h : D[d]? = some r) : nmD D d = r.map Prod.fst := by
  rw [nmD, List.getD_eq_getElem?_getD, h]; rfl
theorem nmD_none {D : List (List (Nat × Int))} {d : Nat} (h : ¬ d < D.length) : nmD D d = [] := by
  rw [nmD, List.getD_eq_getElem?_getD, List.getElem?_eq_none (by omega)]; rfl
theorem rsH_app (a b : List (Nat × Nat)) (n : Nat) : rsH (a ++ b) n = rsH a n ++ rsH b n := by simp [rsH]
theorem rsH_row (n k : Nat) : ∀ (row : List (Nat × Int)), rsH (row.map fun x => (x.1, k)) n = List.replicate ((row.map Prod.fst).count n) k
  | [] => by simp [rsH]
  | x :: row => by
    have ih := rsH_row n k row
    unfold rsH at ih ⊢
    rw [List.map_cons, List.filter_cons, List.map_cons, List.count_cons]
    by_cases h : x.1 = n
    · simp [h, ih, List.replicate_succ]
    · have hb : (x.1 == n) = false := beq_eq_false_iff_ne.2 h
      simp [hb, ih]
theorem hv_count (D : List (List (Nat × Int))) (n o : Nat) : (rsH (hvD D) n).count o = (nmD D o).count n := by
  have h : ∀ k, k ≤ D.length → (rsH (hvD (D.take k)) n).count o = if o < k then (nmD D o).count n else 0 := by
    intro k
    induction k with
    | zero => intro _; simp [hvD, rsH]
    | succ k ih =>
      intro hk
      have hk' : k < D.length := by omega
      rw [List.take_succ_eq_append_getElem hk', hvD_one, rsH_app, List.length_take, Nat.min_eq_left (by omega), rsH_row, List.count_append, ih (by omega), List.count_replicate]
      by_cases ho : o < k
      · have h1 : ¬ k = o := by omega
        have h2 : o < k + 1 := by omega
        simp [ho, h1, h2]
      · by_cases hok : k = o
        · subst hok
          simp [nmD_at (List.getElem?_eq_getElem hk')]
        · have h2 : ¬ o < k + 1 := by omega
          simp [ho, hok, h2]
  have h1 := h D.length (Nat.le_refl _)
  rw [List.take_length] at h1
  rw [h1]
  split
  · rfl
  · rename_i ho
    rw [nmD_none ho]
    simp
theorem hv_mem {D : List (List (Nat × Int))} {n o : Nat} : o ∈ rsH (hvD D) n ↔ n ∈ nmD D o := by
  rw [← List.count_pos_iff, hv_count, List.count_pos_iff]
theorem hv_once {D : List (List (Nat × Int))} {n o : Nat} (h : (rsH (hvD D) n).Nodup) : (nmD D o).count n ≤ 1 := by
  rw [← hv_count]
  exact List.nodup_iff_count.1 h o
theorem hv_lt {D : List (List (Nat × Int))} {n o : Nat} (h : o ∈ rsH (hvD D) n) : o < D.length := by
  rw [hv_mem] at h
  rcases Nat.lt_or_ge o D.length with h1 | h1
  · exact h1
  · rw [nmD_none (by omega)] at h; simp at h

/-! ### What is kept -/
def atd (s : Gs) (d : Nat) : Nat := s.at'.getD d 0
/-- Who waits at a name. -/
def wt (D : List (List (Nat × Int))) (s : Gs) (A : List Nat) (n : Nat) : List Nat := (List.range D.length).filter fun e => decide (e ∉ A) && ((nmD D e)[atd s e]? == some n)
structure Iv (D : List (List (Nat × Int))) (m : Nat) (s : Gs) (Pd Gr : List Nat) : Prop where
  la : s.at'.length = D.length
  lc : s.cm.length = m
  nd : (s.lt ++ Pd ++ Gr).Nodup
  lt : ∀ d ∈ s.lt ++ Pd ++ Gr, d < D.length
  le : ∀ d, atd s d ≤ (nmD D d).length
  cnt : ∀ n, n < m → n ∉ s.row → s.cm.getD n 0 = (wt D s (s.lt ++ Pd ++ Gr) n).length
  cl : ∀ n, n < m → n ∉ s.row → rsH (hvD D) n ≠ [] → s.cm.getD n 0 < (rsH (hvD D) n).length
  ps : ∀ d, ∀ n ∈ (nmD D d).take (atd s d), n ∈ s.row
  gr : ∀ d ∈ Gr, ∃ n ∈ s.row, (nmD D d)[atd s d]? = some n
  nx : ∀ d, ∀ n ∈ s.row, d ∉ Gr → n ∉ (nmD D d).drop (atd s d)
  nx2 : ∀ d ∈ Gr, ∀ n ∈ s.row, n ∉ (nmD D d).drop (atd s d + 1)
  rn : s.row.Nodup
  rl : ∀ n ∈ s.row, n < m
  sb : ∀ d, d ∉ Gr → ((nmD D d).take (atd s d)).Sublist s.row
  sb2 : ∀ d ∈ Gr, ((nmD D d).take (atd s d + 1)).Sublist s.row
theorem wt_mem {D : List (List (Nat × Int))} {s : Gs} {A : List Nat} {n e : Nat} : e ∈ wt D s A n ↔ e < D.length ∧ e ∉ A ∧ (nmD D e)[atd s e]? = some n := by
  simp [wt, List.mem_filter]
theorem wt_congr {D : List (List (Nat × Int))} {s s' : Gs} {A A' : List Nat} {n : Nat} (h : ∀ e, e < D.length → ((e ∉ A ∧ (nmD D e)[atd s e]? = some n) ↔ (e ∉ A' ∧ (nmD D e)[atd s' e]? = some n))) : wt D s A n = wt D s' A' n := by
  apply List.filter_congr
  intro e he
  have := h e (List.mem_range.1 he)
  rw [Bool.eq_iff_iff]
  simpa using this
/-- How much is left. -/
def ph (D : List (List (Nat × Int))) (s : Gs) : Nat := ((List.range D.length).map fun d => (nmD D d).length - atd s d).sum + s.lt.length
theorem Iv.out {D : List (List (Nat × Int))} {m : Nat} {s : Gs} {Pd Gr : List Nat} {d : Nat} (h : Iv D m s (d :: Pd) Gr) (he : (nmD D d)[atd s d]? = none) : Iv D m s Pd Gr := by
  have hs : (s.lt ++ Pd ++ Gr).Sublist (s.lt ++ (d :: Pd) ++ Gr) := ((List.sublist_cons_self d Pd).append_left s.lt).append_right Gr
  refine { h with nd := h.nd.sublist hs, lt := fun e he => h.lt e (hs.subset he), cnt := fun n hn hr => ?_ }
  rw [h.cnt n hn hr]
  congr 1
  apply wt_congr
  intro e _
  simp only [List.mem_append, List.mem_cons]
  constructor
  · rintro ⟨h1, h2⟩
    exact ⟨fun q => h1 (by rcases q with (q | q) | q <;> simp [q]), h2⟩
  · rintro ⟨h1, h2⟩
    refine ⟨fun q => ?_, h2⟩
    by_cases hed : e = d
    · subst hed; rw [he] at h2; cases h2
    · exact h1 (by rcases q with (q | q | q) | q <;> first | exact absurd q hed | simp [q])
end Go.Proofs.Ytjimolafoihnpaa.tc
