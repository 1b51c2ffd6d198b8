/-
  Contracts: strings.Clone, pack.TakeText and the reference's, pack.TakeWord and the reference's.
-/
import Derived.Test.YtgceileakcjmdaaPkTakeR
import Derived.Lib.UnsafeStr
import Derived.Laws.MakeOwn
import Derived.Lib.Strings
import Derived.Laws.DeepStrings4
namespace Go.Proofs.Ytgceileakcjmdaa.pk
open Go.Proofs.Ytgceileakcjmdaa
open Go.ChangeShapes Go.WideShapes Go.ChangeAt Go.RowKit Go.PlainAid

theorem slice_ok {P : Program} {t : TypeId} (ht : P.underlying t = some .string) (s : ByteArray) (p n : Nat) (W : World) (h : p + n ≤ s.size) :
    (Instr.slice t (.string s) (some (.int .i64 (p : Int))) (some (.int .i64 ((p : Int) + (n : Int)))) none).run P W = .ok (.string (s.extract p (p + n))) W := by
  rw [run_slice_string_if (P := P) (w := W) t s .i64 .i64 (p : Int) ((p : Int) + (n : Int)) ht, if_pos (by omega), if_pos (by omega)]
  have e1 : ((p : Int) + (n : Int)).toNat = p + n := by omega
  rw [e1]; rfl

theorem Try.cells5 : Try.prog.cellsOf 5 = 1 := by kernel_rfl

set_option maxRecDepth 20000 in
set_option maxHeartbeats 1000000 in
set_option maxRecDepth 100000 in
/-- A fresh copy has the same bytes. -/
theorem lite_any (s : ByteArray) (w : World) (hlim : s.size ≤ 281474976710656) :
    Calls Try.prog 62 #[.string s] w fun e w' => e = .returned (.string s) ∧ Below w.heap.size w w' := by
  by_cases h0 : s.size = 0
  · have hs : s = ⟨#[]⟩ := ByteArray.ext (Array.eq_empty_of_size_eq_zero h0)
    subst hs
    go_enter Try.func62, Try.ntmps62
    go_wp2
    go_ret
    exact ⟨rfl, Below.refl _ _⟩
  · obtain ⟨i0, hi, hz0, hz1, hz2⟩ := info_parts Try.info5
    have hinfo : (Try.prog.info? 5).map (·.size) = some 1 := by rw [hi]; simp [hz1]
    obtain ⟨M, hM⟩ : ∃ M, M = madeCells (Value.int .u8 0).cells (((s.size : Nat) : Int).toNat * i0.size) := ⟨_, rfl⟩
    have hMs : M.size = s.size := by rw [hM, size_madeCells, hz1]; simp
    have hmk : ∀ W : World, (Instr.makeSlice 40 (.int .i64 (s.size : Int)) (.int .i64 (s.size : Int))).run Try.prog W = .ok (.slice (some ⟨W.heap.size, 0, none⟩) s.size s.size) (W.alloc (.cells M 5)) := fun W => by
      have h := run_make (P := Try.prog) W 40 5 i0 (.int .u8 0) Try.underlying40 hi hz0 .i64 .i64 (s.size : Int) (s.size : Int) (by omega) (by omega) (by rw [hz2]; omega) (by omega)
      rw [← hM] at h
      simpa using h
    clear hM
    have hcp := Lib.run_copy_row_string (P := Try.prog) (w.alloc (.cells M 5)) 40 9 3 5 w.heap.size 0 s.size s.size s M 5 Try.underlying40 hinfo (heap_alloc_new w _) (Nat.le_refl _) (by omega)
    obtain ⟨Y, hY⟩ : ∃ Y, Y = (M.toList.take 0 ++ Lib.byteCells s.data.toList ++ M.toList.drop (0 + s.size)).toArray := ⟨_, rfl⟩
    rw [← hY] at hcp
    have hYl : Y.toList = Lib.byteCells s.data.toList := by
      rw [hY, List.toList_toArray, List.take_zero, List.nil_append, List.drop_of_length_le (by rw [Array.length_toList]; omega), List.append_nil]
    have hYs : Y.size = s.size := by rw [← Array.length_toList, hYl, Lib.byteCells_length, ← Lib.size_eq]
    have hgY : ((w.alloc (.cells M 5)).setRow w.heap.size Y).heap[w.heap.size]? = some (.cells Y 5 (0, 0)) := setRow_heap _ _ M _ 5 (0, 0) (heap_alloc_new w _)
    have hne : s.data.toList ≠ [] := fun e => h0 (by rw [Lib.size_eq, e]; rfl)
    have hUS := Lib.run_unsafeString_row (P := Try.prog) ((w.alloc (.cells M 5)).setRow w.heap.size Y) 98 3 9 5 Try.underlying98 Try.cells5 w.heap.size Y.size (by unfold World.shape?; rw [hgY]) s.data.toList hne (by rw [← Lib.size_eq]; omega) (by rw [← Lib.size_eq]; omega)
      (fun j x hx => Lib.cells_of_row hgY Y.size j _ (by rw [List.take_of_length_le (by rw [Array.length_toList]; exact Nat.le_refl _), hYl]; simp [Lib.byteCells, hx]))
    rw [← Lib.size_eq] at hUS
    clear hY
    go_enter Try.func62, Try.ntmps62
    go_wp2
    go_ret
    have hb1 : Below w.heap.size w (w.alloc (.cells M 5)) := (Below.refl _ w).alloc (Nat.le_refl _) _
    have hb2 : Below w.heap.size (w.alloc (.cells M 5)) ((w.alloc (.cells M 5)).setRow w.heap.size Y) := ⟨rfl, rfl, rfl, by simp, fun k hk => setRow_other _ _ _ _ (by omega)⟩
    exact ⟨rfl, Lib.below_freeze (hb1.trans hb2) (p := ⟨w.heap.size, 0, none⟩) (Nat.le_refl _) _⟩

theorem clone_any (s : ByteArray) (w : World) (hlim : s.size ≤ 281474976710656) :
    Calls Try.prog 57 #[.string s] w fun e w' => e = .returned (.string s) ∧ Below w.heap.size w w' := by
  go_enter Try.func57, Try.ntmps57
  go_wp2_with (go_at_call 62; refine (lite_any _ _ hlim).mono ?_; rintro e w' ⟨rfl, hb⟩)
  go_ret
  exact ⟨rfl, hb⟩

/-! ### What reading gives, in plain numbers -/

theorem tkGo_ok (s : ByteArray) (at' : Nat) (most : Int) : ∀ (f k : Nat) (n : Int), 0 ≤ n →
    ((tkGo s at' most f k n).2.2 = 0 ∧ 0 ≤ (tkGo s at' most f k n).1 ∧ (tkGo s at' most f k n).1 ≤ most ∧ (at' : Int) < (tkGo s at' most f k n).2.1 ∧ (tkGo s at' most f k n).2.1 ≤ s.size) ∨
    (tkGo s at' most f k n = (0, 0, 21) ∨ tkGo s at' most f k n = (0, 0, 22))
  | 0, k, n, _ => by right; right; rfl
  | f + 1, k, n, hn => by
    have hc := bt_nonneg s (at' + k)
    have hq : 0 ≤ bt s (at' + k) % 128 * 2 ^ (k * 7) := Int.mul_nonneg (by omega) (Int.pow_nonneg (by decide))
    rw [tkGo]
    split
    · split
      · split
        · right; right; rfl
        · rename_i h1 h2 h3
          left
          simp only [not_or] at h3
          refine ⟨rfl, by simp only; omega, by simp only; omega, by simp only; omega, by simp only; omega⟩
      · exact tkGo_ok s at' most f (k + 1) _ (by omega)
    · right; left; rfl

theorem tkGo_cut (s : ByteArray) (at' : Nat) {m M : Int} (hm : m ≤ M) : ∀ (f k : Nat) (n : Int),
    tkGo s at' m f k n = if (tkGo s at' M f k n).2.2 = 0 ∧ m < (tkGo s at' M f k n).1 then (0, 0, 22) else tkGo s at' M f k n
  | 0, k, n => by simp [tkGo]
  | f + 1, k, n => by
    rw [tkGo, tkGo]
    split
    · split
      · by_cases h1 : bt s (at' + k) = 0 ∧ 0 < k
        · rw [if_pos (Or.inl h1), if_pos (Or.inl h1)]; simp
        · by_cases h2 : M < n + bt s (at' + k) % 128 * 2 ^ (k * 7)
          · rw [if_pos (Or.inr (show m < _ by omega)), if_pos (Or.inr h2)]; simp
          · rw [if_neg (c := _ ∨ M < _) (by simp only [not_or]; exact ⟨h1, h2⟩)]
            by_cases h3 : m < n + bt s (at' + k) % 128 * 2 ^ (k * 7)
            · rw [if_pos (Or.inr h3), if_pos ⟨rfl, h3⟩]
            · rw [if_neg (by simp only [not_or]; exact ⟨h1, h3⟩), if_neg (by simp only [not_and]; exact fun _ => h3)]
      · exact tkGo_cut s at' hm f (k + 1) _
    · simp

/-- Of a reading: it went, and its number and place are in range; or one of the three errors. -/
theorem tk_cases (s : ByteArray) (a most : Int) :
    (∃ n p : Nat, tk s a most = ((n : Int), (p : Int), 0) ∧ (n : Int) ≤ most ∧ a < (p : Int) ∧ p ≤ s.size ∧ 0 ≤ a) ∨ (∃ e : Int, tk s a most = (0, 0, e) ∧ (e = 1 ∨ e = 21 ∨ e = 22)) := by
  unfold tk
  split
  · rename_i h
    rcases tkGo_ok s a.toNat most 8 0 0 (by omega) with ⟨h1, h2, h3, h4, h5⟩ | h1 | h1
    · left
      refine ⟨(tkGo s a.toNat most 8 0 0).1.toNat, (tkGo s a.toNat most 8 0 0).2.1.toNat, ?_, by omega, by omega, by omega, by omega⟩
      apply Prod.ext
      · simp only; omega
      · apply Prod.ext
        · simp only; omega
        · exact h1
    · right; exact ⟨21, h1, by omega⟩
    · right; exact ⟨22, h1, by omega⟩
  · right; exact ⟨1, rfl, by omega⟩

theorem tk_cut (s : ByteArray) (a : Int) {m M : Int} (hm : m ≤ M) : tk s a m = if (tk s a M).2.2 = 0 ∧ m < (tk s a M).1 then (0, 0, 22) else tk s a M := by
  unfold tk
  split
  · exact tkGo_cut s a.toNat hm 8 0 0
  · simp

/-- What reading a text gives. -/
def tkT (s : ByteArray) (a : Int) : ByteArray × Int × Int :=
  if (tk s a 20000).2.2 = 0 then
    if (s.size : Int) - (tk s a 20000).2.1 < (tk s a 20000).1 then (⟨#[]⟩, 0, 21)
    else (s.extract (tk s a 20000).2.1.toNat ((tk s a 20000).2.1.toNat + (tk s a 20000).1.toNat), (tk s a 20000).2.1 + (tk s a 20000).1, 0)
  else (⟨#[]⟩, 0, (tk s a 20000).2.2)

set_option maxRecDepth 20000 in
set_option maxHeartbeats 1000000 in
theorem takeText_any (s : ByteArray) (a : Int) (w : World) (hs : s.size ≤ maxLen) :
    Calls Try.prog 47 #[.string s, .int .i64 a] w fun e w' => e = .returned (.tuple #[.string (tkT s a).1, .int .i64 (tkT s a).2.1, .int .i64 (tkT s a).2.2]) ∧ Below w.heap.size w w' := by
  have hc := upTo_any s a 20000 w hs
  unfold maxLen at hs
  rcases tk_cases s a 20000 with ⟨n, p, hr, hn, hap, hp, ha⟩ | ⟨er, hr, her⟩
  · rw [hr] at hc
    simp only at hc
    have hn' : n ≤ 20000 := by omega
    by_cases hcut : (s.size : Int) - (p : Int) < (n : Int)
    · have e : tkT s a = (⟨#[]⟩, 0, 21) := by unfold tkT; rw [hr]; simp only [if_pos]; rw [if_pos hcut]
      rw [e]
      clear hr
      go_enter Try.func47, Try.ntmps47
      go_wp2_with (go_at_call 56; refine hc.mono ?_; rintro e w' ⟨rfl, rfl⟩)
      go_ret3
      exact ⟨rfl, Below.refl _ _⟩
    · have e : tkT s a = (s.extract p (p + n), ((p + n : Nat) : Int), 0) := by unfold tkT; rw [hr]; simp only [if_pos]; rw [if_neg hcut]; simp
      rw [e]
      clear hr
      have hsl : ∀ W : World, (Instr.slice 9 (.string s) (some (.int .i64 (p : Int))) (some (.int .i64 ((p : Int) + (n : Int)))) none).run Try.prog W = .ok (.string (s.extract p (p + n))) W := fun W => slice_ok Try.underlying9 s p n W (by omega)
      have hsz : (s.extract p (p + n)).size ≤ 281474976710656 := by simp; omega
      go_enter Try.func47, Try.ntmps47
      go_wp2_with (first | (go_at_call 56; refine hc.mono ?_; rintro e w' ⟨rfl, rfl⟩) | (go_at_call 57; refine (clone_any _ _ hsz).mono ?_; rintro e w' ⟨rfl, hb⟩))
      go_ret3
      exact ⟨rfl, hb⟩
  · have e : tkT s a = (⟨#[]⟩, 0, er) := by
      unfold tkT; rw [hr]; simp only; rw [if_neg (by omega)]
    rw [hr] at hc
    simp only at hc
    rw [e]
    clear hr
    have hne : (er != 0) = true := by simp; omega
    go_enter Try.func47, Try.ntmps47
    go_wp2_with (go_at_call 56; refine hc.mono ?_; rintro e w' ⟨rfl, rfl⟩)
    go_ret3
    exact ⟨rfl, Below.refl _ _⟩
end Go.Proofs.Ytgceileakcjmdaa.pk
