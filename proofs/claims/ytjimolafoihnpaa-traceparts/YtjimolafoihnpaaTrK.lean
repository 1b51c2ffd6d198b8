/-
  What Check answers, as data.
-/
import Derived.Test.YtjimolafoihnpaaTrE
import Derived.Test.YtjimolafoihnpaaTrI
namespace Go.Proofs.Ytjimolafoihnpaa.tc
open Go.Maps Go.ChangeShapes Go.WideShapes Go.ChangeAt Go.RowKit Go.PlainAid

/-- Nothing speaks against a document, held against those behind it. -/
def Fine (D : List (List (Nat × Int))) (i : Nat) : Prop := ∀ row, D[i]? = some row → sndD row = true ∧ ∀ j r, i < j → D[j]? = some r → sndD r = true → agF r row ≠ none
/-- What Check answers. -/
def ChkIs (D : List (List (Nat × Int))) (a b : Nat) (ok : Bool) : Prop :=
  (ok = true ∧ a = 0 ∧ b = 0 ∧ ∀ i, Fine D i) ∨
  (ok = false ∧ (∀ i, i < a → Fine D i) ∧ ∃ row, D[a]? = some row ∧ ((sndD row = false ∧ b = a) ∨ (sndD row = true ∧ a < b ∧ (∃ r, D[b]? = some r ∧ sndD r = true ∧ agF r row = none) ∧ ∀ j r, a < j → j < b → D[j]? = some r → sndD r = true → agF r row ≠ none)))
theorem chk_one {D : List (List (Nat × Int))} {a b c d : Nat} {x y : Bool} (h : ChkIs D a b x) (k : ChkIs D c d y) : a = c ∧ b = d ∧ x = y := by
  rcases h with ⟨rfl, rfl, rfl, h⟩ | ⟨rfl, h, row, h1, h2⟩ <;> rcases k with ⟨rfl, rfl, rfl, k⟩ | ⟨rfl, k, row', k1, k2⟩
  · exact ⟨rfl, rfl, rfl⟩
  · exfalso
    obtain ⟨f1, f2⟩ := h c row' k1
    rcases k2 with ⟨q, -⟩ | ⟨q, q1, ⟨r, q2, q3, q4⟩, -⟩
    · rw [f1] at q; cases q
    · exact f2 d r q1 q2 q3 q4
  · exfalso
    obtain ⟨f1, f2⟩ := k a row h1
    rcases h2 with ⟨q, -⟩ | ⟨q, q1, ⟨r, q2, q3, q4⟩, -⟩
    · rw [f1] at q; cases q
    · exact f2 b r q1 q2 q3 q4
  · have not : ∀ {e f : Nat} {rw' : List (Nat × Int)}, D[e]? = some rw' → ((sndD rw' = false ∧ f = e) ∨ (sndD rw' = true ∧ e < f ∧ (∃ r, D[f]? = some r ∧ sndD r = true ∧ agF r rw' = none) ∧ ∀ j r, e < j → j < f → D[j]? = some r → sndD r = true → agF r rw' ≠ none)) → ¬ Fine D e := by
      intro e f rw' h1 h2 hF
      obtain ⟨f1, f2⟩ := hF rw' h1
      rcases h2 with ⟨q, -⟩ | ⟨q, q1, ⟨r, q2, q3, q4⟩, -⟩
      · rw [f1] at q; cases q
      · exact f2 f r q1 q2 q3 q4
    have hac : a = c := by
      rcases Nat.lt_trichotomy a c with q | q | q
      · exact absurd (k a q) (not h1 h2)
      · exact q
      · exact absurd (h c q) (not k1 k2)
    subst hac
    rw [h1] at k1
    cases k1
    refine ⟨rfl, ?_, rfl⟩
    rcases h2 with ⟨q, rfl⟩ | ⟨q, q1, ⟨r, q2, q3, q4⟩, q5⟩ <;> rcases k2 with ⟨p, rfl⟩ | ⟨p, p1, ⟨s, p2, p3, p4⟩, p5⟩
    · rfl
    · rw [q] at p; cases p
    · rw [q] at p; cases p
    · rcases Nat.lt_trichotomy b d with t | t | t
      · exact absurd q4 (p5 b r q1 t q2 q3)
      · exact t
      · exact absurd p4 (q5 d s p1 t p2 p3)
theorem dA_row {L : List (List RunD)} {l : List RunD} (hl : l ∈ L) : ∀ x ∈ dA (nmA (aTs L)) (aT l), x.1 < (nmA (aTs L)).length := by
  intro x hx
  obtain ⟨y, hy, rfl⟩ := List.mem_map.1 hx
  have hm : y.key ∈ nmA (aTs L) := nmA_mem.2 ⟨y, List.mem_flatten.2 ⟨aT l, List.mem_map.2 ⟨l, hl, rfl⟩, hy⟩, rfl⟩
  exact List.idxOf_lt_length_of_mem hm
theorem evG_tot : ∀ (D : List (List (Nat × Int))) (i : Nat), (evG i D).length ≤ (D.map List.length).sum
  | [], _ => by simp [evG]
  | r :: D, i => by
    rw [evG, List.length_append, List.map_cons, List.sum_cons]
    have h := evG_tot D (i + 1)
    have h2 : (if sndD r then evR i r else []).length ≤ r.length := by
      split
      · rw [evR_len]; exact Nat.le_refl _
      · simp
    omega
theorem docs_tot (N : List AtK) : ∀ (L : List (List RunD)), ((L.map fun l => dA N (aT l)).map List.length).sum = (aTs L).length
  | [] => rfl
  | l :: L => by
    rw [List.map_cons, List.map_cons, List.sum_cons, docs_tot N L]
    simp [aTs, dA]
theorem aT_mem_le {L : List (List RunD)} {l : List RunD} (hl : l ∈ L) : (aT l).length ≤ (aTs L).length := by
  obtain ⟨s, t, rfl⟩ := List.append_of_mem hl
  simp [aTs]
  omega
/-- Documents by names' places. -/
def dcs (L : List (List RunD)) : List (List (Nat × Int)) := L.map fun l => dA (nmA (aTs L)) (aT l)
theorem fine_of {D : List (List (Nat × Int))} {i f : Nat} {row : List (Nat × Int)} {La : List (Int × Int)} (hi : D[i]? = some row) (hs : sndD row = true) (h : NxI D i row row.length (fun _ => False) f La) (hf : ¬ f < D.length) : Fine D i := by
  intro row' h1
  rw [hi] at h1
  cases h1
  refine ⟨hs, fun j r hj hr hsr => ?_⟩
  have hjD : j < D.length := (List.getElem?_eq_some_iff.1 hr).1
  obtain ⟨l, hl⟩ : ∃ l, La[j]? = some l := ⟨_, List.getElem?_eq_getElem (by rw [h.len]; exact hjD)⟩
  have := ((h.good j r l hj (by omega) hr hsr hl).2 (fun q => q)).1
  rw [List.take_length] at this
  rw [this]
  simp
theorem bad_of {D : List (List (Nat × Int))} {i f : Nat} {row : List (Nat × Int)} {La : List (Int × Int)} (hi : D[i]? = some row) (hs : sndD row = true) (hF : ∀ j, j < i → Fine D j) (h : NxI D i row row.length (fun _ => False) f La) (hf : f < D.length) : ChkIs D i f false := by
  refine .inr ⟨rfl, hF, row, hi, .inr ⟨hs, ?_⟩⟩
  obtain ⟨a, r, b, c, d⟩ := h.bad hf
  rw [List.take_of_length_le (by omega)] at d
  refine ⟨a, ⟨r, b, c, d⟩, fun j r hj hjf hr hsr => ?_⟩
  have hjD : j < D.length := (List.getElem?_eq_some_iff.1 hr).1
  obtain ⟨l, hl⟩ : ∃ l, La[j]? = some l := ⟨_, List.getElem?_eq_getElem (by rw [h.len]; exact hjD)⟩
  have := ((h.good j r l hj hjf hr hsr hl).2 (fun q => q)).1
  rw [List.take_length] at this
  rw [this]
  simp
theorem LaOk.zero (D : List (List (Nat × Int))) : LaOk D 0 (List.replicate D.length (0, 0)) := by
  refine ⟨by simp, fun j l hl => ?_⟩
  rw [List.getElem?_replicate] at hl
  split at hl
  · cases hl; exact .inl rfl
  · cases hl
theorem NxI.next {D : List (List (Nat × Int))} {i e f : Nat} {row : List (Nat × Int)} {Q : Nat → Prop} {La : List (Int × Int)} (h : NxI D i row e Q f La) : LaOk D (i + 1) La :=
  ⟨h.len, fun j l hl => by rcases h.old j l hl with q | ⟨a, b⟩; exact .inl q; exact .inr ⟨a, by omega⟩⟩
theorem Mt.up {W : World} {B B' m p q : Nat} {dv : Value} {D : List (List (Nat × Int))} {X : List (List Pl)} {La : List (Int × Int)} {R : List Value} (h : Mt W B m p q dv D X La R) (hB : B' ≤ B) : Mt W B' m p q dv D X La R := ⟨h.box, h.docs, own_mono h.top hB, h.rows, own_mono h.last hB, Nat.le_trans hB h.hm⟩
end Go.Proofs.Ytjimolafoihnpaa.tc
