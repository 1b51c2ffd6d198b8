/-
  Lists within a list: what the law PackNested needs of the readers and the writers.
-/
import Derived.Test.YthkkdbcflfhmaabArgs
import Derived.Deep.Slices
namespace Go.Proofs.Ythkkdbcflfhmaab.packNested
open Go.ChangeShapes Go.WideShapes Go.ChangeAt Go.RowKit Go.PlainAid

/-- The slice v reads as these lists of texts. -/
def ReadsN (w : World) (v : Value) (L : List (List ByteArray)) : Prop :=
  (L = [] ∧ ∃ ao cp, v = .slice ao 0 cp) ∨ ∃ b off cp, v = .slice (some ⟨b, off, none⟩) L.length cp ∧
    ∀ i, i < L.length → ∃ ao n cp', w.cell? ⟨b, off + i, none⟩ = some (.slice ao n cp') ∧ Reads w (.slice ao n cp') (L.getD i [])

def Good (xs : List ByteArray) : Prop := xs.length ≤ 8000 ∧ ∀ s ∈ xs, s.size ≤ 20000
def form (xs : List ByteArray) : ByteArray := mk (listB xs)
def allB (L : List (List ByteArray)) : Nat → List UInt8
  | 0 => []
  | k + 1 => allB L k ++ listB (L.getD k []) ++ wordB k
def fm (L : List (List ByteArray)) (k : Nat) : List ByteArray := (L.take k).map form

theorem mk_append (a b : List UInt8) : mk (a ++ b) = mk a ++ mk b := by
  apply ByteArray.ext
  simp [mk]

theorem form_len {xs : List ByteArray} (h : Good xs) : (listB xs).length ≤ 160080010 := by
  have h1 : (listB xs).length ≤ 10 + xs.length * 20010 := by rw [← part_all]; exact part_len xs _ h.2
  have h2 := h.1
  omega

theorem all_len (L : List (List ByteArray)) : ∀ k, (∀ j, j < k → Good (L.getD j [])) → (allB L k).length ≤ k * 160080014
  | 0, _ => by simp [allB]
  | k + 1, h => by
    have h1 := all_len L k (fun j hj => h j (by omega))
    have h2 := form_len (h k (by omega))
    have h3 := wordB_len k
    simp only [allB, List.length_append]
    omega

theorem all_prefix (L : List (List ByteArray)) (j : Nat) : ∀ n, j ≤ n → ∃ R, allB L n = allB L j ++ R
  | 0, h => by obtain rfl : j = 0 := by omega
               exact ⟨[], by simp⟩
  | n + 1, h => by
    by_cases e : j = n + 1
    · subst e; exact ⟨[], by simp⟩
    · obtain ⟨R, hR⟩ := all_prefix L j n (by omega)
      exact ⟨R ++ listB (L.getD n []) ++ wordB n, by simp only [allB, hR, List.append_assoc]⟩

theorem fm_length (L : List (List ByteArray)) (k : Nat) (h : k ≤ L.length) : (fm L k).length = k := by simp [fm]; omega
theorem fm_succ (L : List (List ByteArray)) (k : Nat) (h : k < L.length) : fm L (k + 1) = fm L k ++ [form (L.getD k [])] := by
  rw [fm, fm, List.take_add_one, List.map_append]
  congr 1
  rw [List.getElem?_eq_getElem h, List.getD_eq_getElem?_getD, List.getElem?_eq_getElem h]
  rfl
theorem fm_get (L : List (List ByteArray)) (k : Nat) (h : k < L.length) : (fm L L.length).getD k ⟨#[]⟩ = form (L.getD k []) := by
  simp [fm, h]

theorem list_good {xs : List ByteArray} (hg : Good xs) (v : Value) (W : World) (hr : Reads W v xs) :
    Calls Try.prog 13 #[v] W fun e w' => e = .returned (.tuple #[.string (form xs), .int .i64 0]) ∧ Below W.heap.size W w' := by
  have hR : listR xs = (mk (listB xs), 0) := by rw [listR, if_pos (show xs.length ≤ 8000 ∧ ∀ s ∈ xs, s.size ≤ 20000 from hg)]
  have := list_any v xs W (by have := hg.1; unfold maxLen; omega) hr
  rwa [hR] at this

theorem list_bad {xs : List ByteArray} (hg : ¬ Good xs) (hm : xs.length ≤ maxLen) (v : Value) (W : World) (hr : Reads W v xs) :
    Calls Try.prog 13 #[v] W fun e w' => e = .returned (.tuple #[.string ⟨#[]⟩, .int .i64 2]) ∧ Below W.heap.size W w' := by
  have hR : listR xs = (⟨#[]⟩, 2) := by rw [listR, if_neg (show ¬ (xs.length ≤ 8000 ∧ ∀ s ∈ xs, s.size ≤ 20000) from hg)]
  have := list_any v xs W hm hr
  rwa [hR] at this

theorem take_form {xs : List ByteArray} (hg : Good xs) (W : World) :
    Calls Try.prog 26 #[.string (form xs), .int .i64 0] W fun e w' => ∃ v, e = .returned (.tuple #[v, .int .i64 ((form xs).size : Int), .int .i64 0]) ∧ Reads w' v xs ∧ Below W.heap.size W w' := by
  have hl := form_len hg
  have hm : (form xs).size = (listB xs).length := mk_size _
  have ha : At (form xs) 0 (listB xs) := by
    have := at_mid ⟨#[]⟩ ⟨#[]⟩ (listB xs)
    have e : (⟨#[]⟩ ++ mk (listB xs) ++ ⟨#[]⟩ : ByteArray) = form xs := by apply ByteArray.ext; simp [form, mk]
    rw [e] at this
    exact this
  have e := tkL_at hg.1 hg.2 ha
  refine (takeList_any (form xs) 0 W (by rw [hm]; unfold maxLen; omega)).mono ?_
  rintro e' w' ⟨v, he, ho, hb⟩
  rw [show ((0 : Nat) : Int) = 0 from rfl] at e
  rw [e] at he ho
  refine ⟨v, ?_, reads_own ho, hb⟩
  rw [hm]
  simpa using he

theorem take_all (L : List (List ByteArray)) (hL : L.length ≤ 1048576) (hg : ∀ j, j < L.length → Good (L.getD j [])) (k : Nat) (hk : k < L.length) :
    ∃ m : Int, (∀ W, Calls Try.prog 26 #[.string (mk (allB L L.length)), .int .i64 ((allB L k).length : Int)] W fun e w' => ∃ v, e = .returned (.tuple #[v, .int .i64 m, .int .i64 0]) ∧ Reads w' v (L.getD k []) ∧ Below W.heap.size W w') ∧
      (∀ W, Calls Try.prog 23 #[.string (mk (allB L L.length)), .int .i64 m] W fun e w' => e = .returned (.tuple #[.int .u32 (k : Int), .int .i64 ((allB L (k + 1)).length : Int), .int .i64 0]) ∧ W = w') := by
  have hl := all_len L L.length hg
  have hs : (mk (allB L L.length)).size ≤ maxLen := by rw [mk_size]; unfold maxLen; omega
  have gk := hg k hk
  obtain ⟨R, hR⟩ := all_prefix L (k + 1) L.length (by omega)
  have a1 : At (mk (allB L L.length)) (allB L k).length (listB (L.getD k [])) := by
    have := at_mid (mk (allB L k)) (mk (wordB k ++ R)) (listB (L.getD k []))
    rw [← mk_append, ← mk_append, mk_size] at this
    rw [hR, allB]
    simpa [List.append_assoc] using this
  have a2 : At (mk (allB L L.length)) ((allB L k).length + (listB (L.getD k [])).length) (wordB k) := by
    have := at_mid (mk (allB L k ++ listB (L.getD k []))) (mk R) (wordB k)
    rw [← mk_append, ← mk_append, mk_size, List.length_append] at this
    rw [hR, allB]
    exact this
  have e1 := tkL_at gk.1 gk.2 a1
  have e2 := tkW_at (show k ≤ 4294967295 by omega) a2
  refine ⟨(((allB L k).length + (listB (L.getD k [])).length : Nat) : Int), fun W => ?_, fun W => ?_⟩
  · refine (takeList_any _ _ W hs).mono ?_
    rintro e' w' ⟨v, he, ho, hb⟩
    rw [e1] at he ho
    exact ⟨v, he, reads_own ho, hb⟩
  · have := takeWord_any _ (((allB L k).length + (listB (L.getD k [])).length : Nat) : Int) W hs
    rw [e2] at this
    have h3 : (allB L (k + 1)).length = (allB L k).length + (listB (L.getD k [])).length + 4 := by simp only [allB, List.length_append, wordB_len]
    rw [h3]
    exact this

theorem round1 (L : List (List ByteArray)) (k : Nat) (hL : L.length ≤ 1048576) (hk : k < L.length) (hg : ∀ j, j < k → Good (L.getD j [])) (gk : Good (L.getD k [])) :
    ∃ F Wd S0 S1 : ByteArray, F = form (L.getD k []) ∧ S1 = mk (allB L (k + 1)) ∧
      (∀ x : Int, x = (k : Int) → ∀ W, Calls Try.prog 17 #[.int .u32 x] W fun e w' => e = .returned (.string Wd) ∧ Below W.heap.size W w') ∧
      (∀ W, (Op.stringOp .add (mk (allB L k)) F).run Try.prog W = .ok (.string S0) W) ∧ (∀ W, (Op.stringOp .add S0 Wd).run Try.prog W = .ok (.string S1) W) := by
  have h1 := all_len L k hg
  have h2 := form_len gk
  have h3 := wordB_len k
  refine ⟨_, mk (wordB k), mk (allB L k) ++ form (L.getD k []), mk (allB L k) ++ form (L.getD k []) ++ mk (wordB k), rfl, ?_, fun x hx W => ?_, fun W => run_string_add_sum W _ _ ?_, fun W => run_string_add_sum W _ _ ?_⟩
  · simp only [allB, mk_append, form]
  · subst hx
    exact word_any k W (by omega)
  · simp only [form, mk_size]; omega
  · simp only [form, mk_size, ByteArray.size_append]; omega

theorem readsN_below {w w' : World} {v : Value} {L : List (List ByteArray)} (h : ReadsN w v L) (hb : Below w.heap.size w w') : ReadsN w' v L := by
  rcases h with h | ⟨b, off, cp, rfl, h⟩
  · exact .inl h
  · refine .inr ⟨b, off, cp, rfl, fun i hi => ?_⟩
    obtain ⟨ao, n, cp', h1, h2⟩ := h i hi
    exact ⟨ao, n, cp', (hb.cell (World.block_lt_of_cell? w _ h1)).trans h1, reads_below h2 hb⟩

theorem own_below {w w' : World} {base e n : Nat} {v : Value} {l : List Value} (h : w.ownsRow base e 1 v n l) (hb : Below w.heap.size w w') : w'.ownsRow base e 1 v n l :=
  h.kept (row := none) ⟨hb.os, hb.tape, hb.output, hb.size, fun k hk _ => hb.block k hk⟩ (by cases v.ownBlock <;> simp)
end Go.Proofs.Ythkkdbcflfhmaab.packNested
