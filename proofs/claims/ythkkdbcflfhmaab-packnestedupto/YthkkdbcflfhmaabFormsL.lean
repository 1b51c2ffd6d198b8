/-
  Plain: the forms of lists and words, as for numbers and texts.
-/
import Derived.Test.YthkkdbcflfhmaabForms
namespace Go.Proofs.Ythkkdbcflfhmaab
open Go.RowKit Go.PlainAid

/-- The bytes F stand in s from place a on, but for their last one, which is behind the end. -/
def AtCut (s : ByteArray) (a : Nat) (F : List UInt8) : Prop := s.size + 1 = a + F.length ∧ ∀ i (h : i + 1 < F.length), bt s (a + i) = (F[i].toNat : Int)

theorem atCut_append {s : ByteArray} {a : Nat} {F G : List UInt8} (h : AtCut s a (F ++ G)) (hG : 0 < G.length) : At s a F ∧ AtCut s (a + F.length) G := by
  obtain ⟨h1, h2⟩ := h
  rw [List.length_append] at h1
  refine ⟨⟨by omega, fun i hi => ?_⟩, ⟨by omega, fun i hi => ?_⟩⟩
  · rw [h2 i (by rw [List.length_append]; omega), List.getElem_append_left hi]
  · rw [show a + F.length + i = a + (F.length + i) by omega, h2 (F.length + i) (by rw [List.length_append]; omega), List.getElem_append_right (by omega)]
    simp

theorem size_ext (s : ByteArray) (n : Nat) (h : n ≤ s.size) : (s.extract 0 n).size = n := by
  rw [ByteArray.size_extract]; omega
theorem bt_ext (s : ByteArray) (n i : Nat) (h : n ≤ s.size) (hi : i < n) : bt (s.extract 0 n) i = bt s i := by
  rw [bt_data _ _ (by rw [size_ext s n h]; exact hi), bt_data s i (by omega)]
  congr 2
  simp only [Lib.extract_data]
  simp

theorem atCut_of {s : ByteArray} {a : Nat} {F : List UInt8} (h : At s a F) (hF : 0 < F.length) : AtCut (s.extract 0 (a + F.length - 1)) a F := by
  obtain ⟨h1, h2⟩ := h
  refine ⟨by rw [size_ext _ _ (by omega)]; omega, fun i hi => ?_⟩
  rw [bt_ext _ _ _ (by omega) (by omega)]
  exact h2 i (by omega)

theorem textB_pos (t : ByteArray) : 0 < (textB t).length := by
  have := numB_pos t.size
  simp only [textB, List.length_append]
  omega

theorem tkLgo_at {s : ByteArray} : ∀ (xs : List ByteArray) (p : Nat) (acc : List ByteArray), (∀ t ∈ xs, t.size ≤ 20000) → At s p ((xs.map textB).flatten) →
    tkLgo s xs.length (p : Int) acc = (acc ++ xs, ((p + ((xs.map textB).flatten).length : Nat) : Int), 0)
  | [], p, acc, _, _ => by simp [tkLgo]
  | x :: xs, p, acc, hx, hat => by
    simp only [List.map_cons, List.flatten_cons] at hat
    obtain ⟨h1, h2⟩ := at_append.1 hat
    have e := tkT_at (hx x (List.mem_cons_self ..)) h1
    have ih := tkLgo_at xs (p + (textB x).length) (acc ++ [x]) (fun t ht => hx t (List.mem_cons_of_mem _ ht)) h2
    simp only [List.length_cons]
    rw [tkLgo, e]
    simp only [if_pos]
    rw [ih]
    simp
    omega

theorem tkL_at {s : ByteArray} {xs : List ByteArray} {a : Nat} (hl : xs.length ≤ 8000) (hx : ∀ t ∈ xs, t.size ≤ 20000) (h : At s a (listB xs)) : tkL s (a : Int) = (xs, ((a + (listB xs).length : Nat) : Int), 0) := by
  obtain ⟨h1, h2⟩ := at_append.1 h
  have e := tk_at (most := 8000) (by decide) (by omega) h1
  have e2 := tkLgo_at xs _ [] hx h2
  rw [tkL, e]
  simp only [if_pos]
  rw [show ((xs.length : Nat) : Int).toNat = xs.length by omega, e2]
  simp [listB]
  omega

theorem tkLgo_of {s : ByteArray} : ∀ (n p : Nat) (acc l : List ByteArray) (q : Int), p ≤ s.size → tkLgo s n (p : Int) acc = (l, q, 0) →
    ∃ xs, l = acc ++ xs ∧ xs.length = n ∧ (∀ t ∈ xs, t.size ≤ 20000) ∧ At s p ((xs.map textB).flatten) ∧ q = ((p + ((xs.map textB).flatten).length : Nat) : Int)
  | 0, p, acc, l, q, hp, h => by
    simp only [tkLgo, Prod.mk.injEq] at h
    refine ⟨[], by simp [h.1], rfl, by simp, ⟨by simpa using hp, fun i hi => by simp at hi⟩, by simp [← h.2.1]⟩
  | n + 1, p, acc, l, q, hp, h => by
    rw [tkLgo] at h
    split at h
    · rename_i h0
      obtain ⟨b, h1, h2, h3, h4⟩ := tkT_of (s := s) (t := (tkT s p).1) (a := (p : Int)) (q := (tkT s p).2.1) (by
        apply Prod.ext
        · rfl
        · apply Prod.ext
          · rfl
          · exact h0)
      have hb : b = p := by omega
      subst hb
      rw [h4] at h
      obtain ⟨xs, g1, g2, g3, g4, g5⟩ := tkLgo_of n (b + (textB (tkT s b).1).length) _ l q h3.1 h
      refine ⟨(tkT s b).1 :: xs, by simp [g1], by simp [g2], ?_, ?_, ?_⟩
      · intro t ht
        rcases List.mem_cons.1 ht with e | e
        · rw [e]; exact h2
        · exact g3 t e
      · simp only [List.map_cons, List.flatten_cons]
        exact at_append.2 ⟨h3, g4⟩
      · rw [g5]; simp; omega
    · rename_i h0
      simp only [Prod.mk.injEq] at h
      exact absurd h.2.2 h0

theorem tkL_of {s : ByteArray} {l : List ByteArray} {a q : Int} (h : tkL s a = (l, q, 0)) : ∃ b : Nat, a = (b : Int) ∧ l.length ≤ 8000 ∧ (∀ t ∈ l, t.size ≤ 20000) ∧ At s b (listB l) ∧ q = ((b + (listB l).length : Nat) : Int) := by
  rw [tkL] at h
  split at h
  · rename_i h0
    have e : tk s a 8000 = ((tk s a 8000).1, (tk s a 8000).2.1, 0) := by
      apply Prod.ext
      · rfl
      · apply Prod.ext
        · rfl
        · exact h0
    obtain ⟨b, m, h1, h2, h3, h4, h5⟩ := tk_of (by decide) e
    rw [h2, h5, show ((m : Nat) : Int).toNat = m by omega] at h
    obtain ⟨xs, g1, g2, g3, g4, g5⟩ := tkLgo_of m _ [] l q h4.1 h
    simp only [List.nil_append] at g1
    subst g1
    refine ⟨b, h1, by omega, g3, ?_, ?_⟩
    · rw [listB, at_append, g2]; exact ⟨h4, g4⟩
    · rw [g5, listB, List.length_append, g2]; congr 1; omega
  · rename_i h0
    simp only [Prod.mk.injEq] at h
    exact absurd h.2.2 h0

theorem tkLgo_cutoff {s : ByteArray} : ∀ (xs : List ByteArray) (p : Nat) (acc : List ByteArray), xs ≠ [] → (∀ t ∈ xs, t.size ≤ 20000) → AtCut s p ((xs.map textB).flatten) → (tkLgo s xs.length (p : Int) acc).2.2 = 21
  | [], _, _, h, _, _ => absurd rfl h
  | [x], p, acc, _, hx, hat => by
    simp only [List.map_cons, List.map_nil, List.flatten_cons, List.flatten_nil, List.append_nil] at hat
    have e := tkT_cutoff (hx x (List.mem_cons_self ..)) hat.1 hat.2
    simp only [List.length_cons, List.length_nil]
    rw [tkLgo, if_neg (by omega)]
    exact e
  | x :: y :: xs, p, acc, _, hx, hat => by
    have hpos : 0 < (((y :: xs).map textB).flatten).length := by
      have := textB_pos y
      simp only [List.map_cons, List.flatten_cons, List.length_append]
      omega
    rw [List.map_cons, List.flatten_cons] at hat
    obtain ⟨h1, h2⟩ := atCut_append hat hpos
    have e := tkT_at (hx x (List.mem_cons_self ..)) h1
    have ih := tkLgo_cutoff (y :: xs) (p + (textB x).length) (acc ++ [x]) (by simp) (fun t ht => hx t (List.mem_cons_of_mem _ ht)) h2
    rw [List.length_cons, tkLgo, e]
    simp only [if_pos]
    exact ih

theorem tkL_cutoff {s : ByteArray} {xs : List ByteArray} {a : Nat} (hl : xs.length ≤ 8000) (hx : ∀ t ∈ xs, t.size ≤ 20000) (h : AtCut s a (listB xs)) : (tkL s (a : Int)).2.2 = 21 := by
  by_cases h0 : xs = []
  · subst h0
    simp only [listB, List.map_nil, List.flatten_nil, List.append_nil] at h
    have e := tk_cutoff (s := s) (a := a) (m := ([] : List ByteArray).length) (most := 8000) (by simp) h.1 h.2
    rw [tkL, e]
    rfl
  · have hpos : 0 < ((xs.map textB).flatten).length := by
      cases xs with
      | nil => exact absurd rfl h0
      | cons y ys =>
        have := textB_pos y
        simp only [List.map_cons, List.flatten_cons, List.length_append]
        omega
    obtain ⟨h1, h2⟩ := atCut_append h hpos
    have e := tk_at (most := 8000) (by decide) (by omega) h1
    rw [tkL, e]
    simp only [if_pos]
    rw [show ((xs.length : Nat) : Int).toNat = xs.length by omega]
    exact tkLgo_cutoff xs _ [] h0 hx h2

/-! ### Words -/

theorem wordB_len (x : Nat) : (wordB x).length = 4 := rfl

theorem tkW_at {s : ByteArray} {a x : Nat} (hx : x ≤ 4294967295) (h : At s a (wordB x)) : tkW s (a : Int) = ((x : Int), ((a + 4 : Nat) : Int), 0) := by
  have h1 := h.1
  rw [wordB_len] at h1
  have b0 := h.2 0 (by simp [wordB])
  have b1 := h.2 1 (by simp [wordB])
  have b2 := h.2 2 (by simp [wordB])
  have b3 := h.2 3 (by simp [wordB])
  simp only [wordB, List.getElem_cons_zero, List.getElem_cons_succ] at b0 b1 b2 b3
  rw [ofNat_toNat (by omega)] at b0 b1 b2 b3
  rw [tkW, if_pos (by omega), if_neg (by omega), show ((a : Int)).toNat = a by omega]
  simp only [wv, b0, b1, b2, b3]
  refine Prod.ext ?_ (Prod.ext ?_ rfl)
  · simp only; omega
  · simp only; omega

theorem tkW_of {s : ByteArray} {a v q : Int} (h : tkW s a = (v, q, 0)) : ∃ b x : Nat, a = (b : Int) ∧ v = (x : Int) ∧ x ≤ 4294967295 ∧ q = ((b + 4 : Nat) : Int) ∧ At s b (wordB x) := by
  rw [tkW] at h
  split at h
  · split at h
    · simp at h
    · rename_i h0 h1
      simp only [Prod.mk.injEq] at h
      obtain ⟨h2, h3, _⟩ := h
      have n0 := bt_nonneg s a.toNat
      have n1 := bt_nonneg s (a.toNat + 1)
      have n2 := bt_nonneg s (a.toNat + 2)
      have n3 := bt_nonneg s (a.toNat + 3)
      have m0 := bt_le s a.toNat
      have m1 := bt_le s (a.toNat + 1)
      have m2 := bt_le s (a.toNat + 2)
      have m3 := bt_le s (a.toNat + 3)
      have e : v = ((bt s a.toNat * 256 + bt s (a.toNat + 1)) * 256 + bt s (a.toNat + 2)) * 256 + bt s (a.toNat + 3) := by
        rw [← h2]; simp [wv]
      refine ⟨a.toNat, v.toNat, by omega, by omega, by omega, by omega, ⟨by rw [wordB_len]; omega, fun i hi => ?_⟩⟩
      rw [wordB_len] at hi
      rcases (show i = 0 ∨ i = 1 ∨ i = 2 ∨ i = 3 by omega) with rfl | rfl | rfl | rfl
      all_goals simp only [wordB, List.getElem_cons_zero, List.getElem_cons_succ]
      all_goals rw [ofNat_toNat (by omega)]
      · simp only [Nat.add_zero]; omega
      · omega
      · omega
      · omega
  · simp at h
end Go.Proofs.Ythkkdbcflfhmaab
