/-
  The program's next: what it changes.
-/
import Derived.Test.YtjimolafoihnpaaTrH
namespace Go.Proofs.Ytjimolafoihnpaa.tc
open Go.Maps Go.ChangeShapes Go.WideShapes Go.ChangeAt Go.RowKit Go.PlainAid

section
variable {W W' : World} {B m p q : Nat} {dv : Value} {D : List (List (Nat × Int))} {X : List (List Pl)} {La : List (Int × Int)} {R : List Value}
/-- A slot of rest is cut by its first place. -/
theorem Mt.cut (h : Mt W B m p q dv D X La R) {n g off cp : Nat} {ao : Option Addr} {y : Pl} {ys : List Pl} (hr : R[n]? = some (.slice (some ⟨g, off, none⟩) (ys.length + 1) cp)) (hx : X[n]? = some (y :: ys)) (ha : ys = [] ∨ ao = some ⟨g, off + 3, none⟩) :
    Mt (W.setCell ⟨p, n, none⟩ (.slice ao ys.length (cp - 1))) B m p q dv D (X.set n ys) La (R.set n (.slice ao ys.length (cp - 1))) := by
  have s : ∀ t, 74 ≠ t → Sm t W (W.setCell ⟨p, n, none⟩ (.slice ao ys.length (cp - 1))) := fun t ht => own_set_sm h.top ht n _
  have hn : n < R.length := (List.getElem?_eq_some_iff.1 hr).1
  have hn2 : n < X.length := (List.getElem?_eq_some_iff.1 hx).1
  refine ⟨?_, h.docs.sm (s _ (by decide)) (s _ (by decide)), ?_, fun i r xs h1 h2 => ?_, own_sm h.last (s _ (by decide)), h.hm⟩
  · rw [List.length_set]
    exact s _ (by decide) _ _ h.box
  · rw [List.length_set]
    exact own_stored h.top n _
  · by_cases hi : i = n
    · subst hi
      rw [List.getElem?_set_self hn] at h1
      rw [List.getElem?_set_self hn2] at h2
      cases h1
      cases h2
      have h3 := h.rows i _ _ hr hx
      rw [List.length_cons] at h3
      rcases ha with rfl | rfl
      · exact ⟨_, _, rfl, by simp, .inl rfl⟩
      · have h4 := Ln.tail (z := 3) h3
        rw [flat_drop cP 3 cP_len] at h4
        exact h4.sm (s _ (by decide))
    · rw [List.getElem?_set_ne (fun e => hi e.symm)] at h1 h2
      exact (h.rows i r xs h1 h2).sm (s _ (by decide))
theorem flat_set2 : ∀ (La : List (Int × Int)) (j : Nat) (a b : Int), (((La.map cR).flatten).set (j * 2) (.int .i64 a)).set (j * 2 + 1) (.int .i64 b) = if j < La.length then ((La.set j (a, b)).map cR).flatten else (La.map cR).flatten
  | [], j, a, b => by simp
  | x :: l, 0, a, b => by simp [cR]
  | x :: l, j + 1, a, b => by
    have ih := flat_set2 l j a b
    have e1 : (j + 1) * 2 = j * 2 + 1 + 1 := by omega
    rw [List.map_cons, List.flatten_cons, e1]
    simp only [cR, List.cons_append, List.nil_append, List.set_cons_succ, List.length_cons, Nat.add_lt_add_iff_right]
    rw [ih]
    split
    · simp [cR]
    · rfl
/-- What was met last is put down. -/
theorem Mt.put (h : Mt W B m p q dv D X La R) {j : Nat} (hj : j < D.length) (a b : Int) :
    Mt ((W.setCell ⟨q, j * 2, none⟩ (.int .i64 a)).setCell ⟨q, j * 2 + 1, none⟩ (.int .i64 b)) B m p q dv D X (La.set j (a, b)) R := by
  have k1 := h.last.stored (j * 2) (.int .i64 a)
  have k2 := k1.1.stored (j * 2 + 1) (.int .i64 b)
  have s : ∀ t, 78 ≠ t → Sm t W ((W.setCell ⟨q, j * 2, none⟩ (.int .i64 a)).setCell ⟨q, j * 2 + 1, none⟩ (.int .i64 b)) := fun t ht => (own_set_sm h.last ht _ _).trans (own_set_sm k1.1 ht _ _)
  refine ⟨s _ (by decide) _ _ h.box, h.docs.sm (s _ (by decide)) (s _ (by decide)), own_sm h.top (s _ (by decide)), fun i r xs h1 h2 => (h.rows i r xs h1 h2).sm (s _ (by decide)), ?_, h.hm⟩
  have e := flat_set2 La j a b
  rw [if_pos (by rw [h.len.2]; exact hj)] at e
  rw [← e]
  exact k2.1
theorem Mt.cells (h : Mt W B m p q dv D X La R) : W.cell? ⟨m, 0, none⟩ = some dv ∧ W.cell? ⟨m, 1, none⟩ = some (.slice (some ⟨p, 0, none⟩) X.length X.length) ∧ W.cell? ⟨m, 2, none⟩ = some (.slice (some ⟨q, 0, none⟩) D.length D.length) := by
  have c := fun j => cell_of_row W m j _ _ (0, 0) h.box
  exact ⟨c 0, c 1, c 2⟩
theorem Mt.slot (h : Mt W B m p q dv D X La R) {n : Nat} {r : Value} (hr : R[n]? = some r) : W.cell? ⟨p, n, none⟩ = some r ∧ W.frozen? ⟨p, n, none⟩ = false := by
  have c := h.top.cells (g := p) rfl n _ hr
  rw [addr4, Nat.zero_add] at c
  obtain ⟨cu, hcu⟩ := own_kind h.top (g := p) rfl
  exact ⟨c, frz hcu n⟩
theorem Mt.at (h : Mt W B m p q dv D X La R) {j : Nat} {l : Int × Int} (hl : La[j]? = some l) : W.cell? ⟨q, j * 2, none⟩ = some (.int .i64 l.1) ∧ W.cell? ⟨q, j * 2 + 1, none⟩ = some (.int .i64 l.2) ∧ (∀ o, W.frozen? ⟨q, o, none⟩ = false) := by
  have f0 := flat_at cR 2 cR_len La j _ hl 0 (by decide)
  have f1 := flat_at cR 2 cR_len La j _ hl 1 (by decide)
  have c0 := h.last.cells (g := q) rfl _ _ f0
  have c1 := h.last.cells (g := q) rfl _ _ f1
  rw [addr4, Nat.zero_add] at c0 c1
  obtain ⟨cu, hcu⟩ := own_kind h.last (g := q) rfl
  exact ⟨c0, c1, fun o => frz hcu o⟩
theorem Mt.bounds (h : Mt W B m p q dv D X La R) : B ≤ m ∧ B ≤ p ∧ B ≤ q ∧ m < W.heap.size ∧ p < W.heap.size ∧ q < W.heap.size := by
  have h1 := h.top.lt p rfl
  have h2 := h.last.lt q rfl
  exact ⟨h.hm, h1.1, h2.1, lt_heap h.box, h1.2, h2.2⟩
end
/-- The table of rest while the row's first e atoms are through. -/
def tabN (D : List (List (Nat × Int))) (i : Nat) (row : List (Nat × Int)) (e nn : Nat) : List (List Pl) := (List.range nn).map fun n => if n ∈ (row.take e).map Prod.fst then plc D (i + 1) n else plc D i n
def tabP (D : List (List (Nat × Int))) (i nn : Nat) : List (List Pl) := (List.range nn).map (plc D i)
theorem tabN_len (D : List (List (Nat × Int))) (i : Nat) (row : List (Nat × Int)) (e nn : Nat) : (tabN D i row e nn).length = nn := by simp [tabN]
theorem tabP_len (D : List (List (Nat × Int))) (i nn : Nat) : (tabP D i nn).length = nn := by simp [tabP]
theorem tabN_zero (D : List (List (Nat × Int))) (i : Nat) (row : List (Nat × Int)) (nn : Nat) : tabN D i row 0 nn = tabP D i nn := by simp [tabN, tabP]
theorem tabP_zero (D : List (List (Nat × Int))) (nn : Nat) : tabP D 0 nn = tabR (evD D) nn := by
  unfold tabP tabR
  exact List.map_congr_left fun n _ => plc_zero D n
theorem tabN_at {D : List (List (Nat × Int))} {i : Nat} {row : List (Nat × Int)} {e nn : Nat} {x : Nat × Int} (h : D[i]? = some row) (hs : sndD row = true) (hx : row[e]? = some x) (hn : x.1 < nn) : (tabN D i row e nn)[x.1]? = some ((i, e, x.2) :: plc D (i + 1) x.1) := by
  have hlt : e < row.length := (List.getElem?_eq_some_iff.1 hx).1
  have hnd : (row.map Prod.fst).Nodup := by simpa [sndD] using hs
  have hne : x.1 ∉ (row.take e).map Prod.fst := by
    intro hm
    obtain ⟨y, hy, he⟩ := List.mem_map.1 hm
    obtain ⟨k, hk⟩ := List.getElem?_of_mem hy
    rw [List.getElem?_take] at hk
    split at hk
    · rename_i hke
      have a := fd_at row k y hnd hk
      rw [he, fd_at row e x hnd hx] at a
      injection a with a
      injection a with a
      omega
    · cases hk
  simp only [tabN, List.getElem?_map, List.getElem?_range hn, Option.map_some]
  rw [if_neg hne, plc_own h hs hx]
theorem tabN_step {D : List (List (Nat × Int))} {i : Nat} {row : List (Nat × Int)} {e nn : Nat} {x : Nat × Int} (hx : row[e]? = some x) (hn : x.1 < nn) : (tabN D i row e nn).set x.1 (plc D (i + 1) x.1) = tabN D i row (e + 1) nn := by
  have hlt : e < row.length := (List.getElem?_eq_some_iff.1 hx).1
  have e1 : row.take (e + 1) = row.take e ++ [x] := by
    rw [List.take_succ_eq_append_getElem hlt]
    rw [List.getElem?_eq_getElem hlt] at hx
    cases hx
    rfl
  apply List.ext_getElem?
  intro n
  by_cases hlt2 : n < nn
  · by_cases hnx : x.1 = n
    · subst hnx
      rw [List.getElem?_set_self (by rw [tabN_len]; exact hn)]
      simp only [tabN, List.getElem?_map, List.getElem?_range hlt2, Option.map_some]
      rw [if_pos (by rw [e1]; simp)]
    · rw [List.getElem?_set_ne hnx]
      simp only [tabN, List.getElem?_map, List.getElem?_range hlt2, Option.map_some]
      have hiff : n ∈ (row.take (e + 1)).map Prod.fst ↔ n ∈ (row.take e).map Prod.fst := by
        rw [e1, List.map_append, List.mem_append]
        constructor
        · rintro (a | a)
          · exact a
          · simp at a; exact absurd a.symm hnx
        · exact .inl
      by_cases hm : n ∈ (row.take e).map Prod.fst
      · rw [if_pos hm, if_pos (hiff.2 hm)]
      · rw [if_neg hm, if_neg (fun q => hm (hiff.1 q))]
  · rw [List.getElem?_eq_none (by rw [List.length_set, tabN_len]; omega), List.getElem?_eq_none (by rw [tabN_len]; omega)]
theorem tabN_end {D : List (List (Nat × Int))} {i : Nat} {row : List (Nat × Int)} {nn : Nat} (h : D[i]? = some row) : tabN D i row row.length nn = tabP D (i + 1) nn := by
  unfold tabN tabP
  refine List.map_congr_left fun n _ => ?_
  rw [List.take_length]
  split
  · rfl
  · rename_i hn
    exact plc_not h hn
/-- Behind an atom's places no document that agrees so far has its name. -/
theorem out_all {D : List (List (Nat × Int))} {i n f k : Nat} (hk : (plc D (i + 1) n).length ≤ k ∨ ∃ y, (plc D (i + 1) n)[k]? = some y ∧ f ≤ y.1) :
    ∀ j r, i < j → j < f → D[j]? = some r → sndD r = true → ¬ (∃ t y, t < k ∧ (plc D (i + 1) n)[t]? = some y ∧ y.1 = j) → fd r n = none := by
  intro j r h1 h2 h3 h4 h5
  cases hf : fd r n with
  | none => rfl
  | some y =>
    exfalso
    have hm : (j, y.1, y.2) ∈ plc D (i + 1) n := plc_mem.2 ⟨r, by simp; omega, h3, h4, hf⟩
    obtain ⟨t, ht⟩ := List.getElem?_of_mem hm
    rcases hk with hk | ⟨z, hz, hfz⟩
    · exact h5 ⟨t, _, by have := (List.getElem?_eq_some_iff.1 ht).1; omega, ht, rfl⟩
    · by_cases htk : t < k
      · exact h5 ⟨t, _, htk, ht, rfl⟩
      · have hup := plc_up D (i + 1) n
        have hkl := (List.getElem?_eq_some_iff.1 hz).1
        have htl := (List.getElem?_eq_some_iff.1 ht).1
        by_cases hkt : k = t
        · subst hkt
          rw [hz] at ht
          cases ht
          simp at hfz
          omega
        · have h6 := List.pairwise_iff_getElem.1 hup k t hkl htl (by omega)
          rw [(List.getElem?_eq_some_iff.1 hz).2, (List.getElem?_eq_some_iff.1 ht).2] at h6
          simp at h6
          omega
end Go.Proofs.Ytjimolafoihnpaa.tc
