/-
  The contracts of strings.Clone, text.Cut, text.Compare; two lists of numbers that are the same; 'live'.
-/
import Derived.Test.YthkkdbcflfhmaaaTxt2
import Derived.Lib.UnsafeStr
import Derived.Laws.MakeOwn
import Derived.Laws.DeepStrings4
import Derived.Lib.Bytealg
import Derived.Deep.QuietTactic
import Derived.BigQuiet
import Derived.WalkSmall
namespace Go.Proofs.Ythkkdbcflfhmaaa
open Go.ChangeShapes Go.WideShapes Go.ChangeAt Go.RowKit Go.PlainAid

theorem slice_ok {P : Program} {t : TypeId} (ht : P.underlying t = some .string) (s : ByteArray) (p n : Nat) (W : World) (h : p + n ≤ s.size) :
    (Instr.slice t (.string s) (some (.int .i64 (p : Int))) (some (.int .i64 ((p : Int) + (n : Int)))) none).run P W = .ok (.string (s.extract p (p + n))) W := by
  rw [run_slice_string_if (P := P) (w := W) t s .i64 .i64 (p : Int) ((p : Int) + (n : Int)) ht, if_pos (by omega), if_pos (by omega)]
  have e1 : ((p : Int) + (n : Int)).toNat = p + n := by omega
  rw [e1]; rfl

theorem Try.cells5 : Try.prog.cellsOf 5 = 1 := by kernel_rfl

set_option maxHeartbeats 1000000 in
set_option maxRecDepth 100000 in
/-- A fresh copy has the same bytes. -/
theorem lite_any (s : ByteArray) (w : World) (hlim : s.size ≤ 281474976710656) :
    Calls Try.prog 32 #[.string s] w fun e w' => e = .returned (.string s) ∧ Below w.heap.size w w' := by
  by_cases h0 : s.size = 0
  · have hs : s = ⟨#[]⟩ := ByteArray.ext (Array.eq_empty_of_size_eq_zero h0)
    subst hs
    go_enter Try.func32, Try.ntmps32
    go_wp2
    go_ret
    exact ⟨rfl, Below.refl _ _⟩
  · obtain ⟨i0, hi, hz0, hz1, hz2⟩ := info_parts Try.info5
    have hinfo : (Try.prog.info? 5).map (·.size) = some 1 := by rw [hi]; simp [hz1]
    obtain ⟨M, hM⟩ : ∃ M, M = madeCells (Value.int .u8 0).cells (((s.size : Nat) : Int).toNat * i0.size) := ⟨_, rfl⟩
    have hMs : M.size = s.size := by rw [hM, size_madeCells, hz1]; simp
    have hmk : ∀ W : World, (Instr.makeSlice 42 (.int .i64 (s.size : Int)) (.int .i64 (s.size : Int))).run Try.prog W = .ok (.slice (some ⟨W.heap.size, 0, none⟩) s.size s.size) (W.alloc (.cells M 5)) := fun W => by
      have h := run_make (P := Try.prog) W 42 5 i0 (.int .u8 0) Try.underlying42 hi hz0 .i64 .i64 (s.size : Int) (s.size : Int) (by omega) (by omega) (by rw [hz2]; omega) (by omega)
      rw [← hM] at h
      simpa using h
    clear hM
    have hcp := Lib.run_copy_row_string (P := Try.prog) (w.alloc (.cells M 5)) 42 9 3 5 w.heap.size 0 s.size s.size s M 5 Try.underlying42 hinfo (heap_alloc_new w _) (Nat.le_refl _) (by omega)
    obtain ⟨Y, hY⟩ : ∃ Y, Y = (M.toList.take 0 ++ Lib.byteCells s.data.toList ++ M.toList.drop (0 + s.size)).toArray := ⟨_, rfl⟩
    rw [← hY] at hcp
    have hYl : Y.toList = Lib.byteCells s.data.toList := by
      rw [hY, List.toList_toArray, List.take_zero, List.nil_append, List.drop_of_length_le (by rw [Array.length_toList]; omega), List.append_nil]
    have hYs : Y.size = s.size := by rw [← Array.length_toList, hYl, Lib.byteCells_length, ← Lib.size_eq]
    have hgY : ((w.alloc (.cells M 5)).setRow w.heap.size Y).heap[w.heap.size]? = some (.cells Y 5 (0, 0)) := setRow_heap _ _ M _ 5 (0, 0) (heap_alloc_new w _)
    have hne : s.data.toList ≠ [] := fun e => h0 (by rw [Lib.size_eq, e]; rfl)
    have hUS := Lib.run_unsafeString_row (P := Try.prog) ((w.alloc (.cells M 5)).setRow w.heap.size Y) 52 3 9 5 Try.underlying52 Try.cells5 w.heap.size Y.size (by unfold World.shape?; rw [hgY]) s.data.toList hne (by rw [← Lib.size_eq]; omega) (by rw [← Lib.size_eq]; omega)
      (fun j x hx => Lib.cells_of_row hgY Y.size j _ (by rw [List.take_of_length_le (by rw [Array.length_toList]; exact Nat.le_refl _), hYl]; simp [Lib.byteCells, hx]))
    rw [← Lib.size_eq] at hUS
    clear hY
    go_enter Try.func32, Try.ntmps32
    go_wp2
    go_ret
    have hb1 : Below w.heap.size w (w.alloc (.cells M 5)) := (Below.refl _ w).alloc (Nat.le_refl _) _
    have hb2 : Below w.heap.size (w.alloc (.cells M 5)) ((w.alloc (.cells M 5)).setRow w.heap.size Y) := ⟨rfl, rfl, rfl, by simp, fun k hk => setRow_other _ _ _ _ (by omega)⟩
    exact ⟨rfl, Lib.below_freeze (hb1.trans hb2) (p := ⟨w.heap.size, 0, none⟩) (Nat.le_refl _) _⟩

theorem clone_any (s : ByteArray) (w : World) (hlim : s.size ≤ 281474976710656) :
    Calls Try.prog 28 #[.string s] w fun e w' => e = .returned (.string s) ∧ Below w.heap.size w w' := by
  go_enter Try.func28, Try.ntmps28
  go_wp2_with (go_at_call 32; refine (lite_any _ _ hlim).mono ?_; rintro e w' ⟨rfl, hb⟩)
  go_ret
  exact ⟨rfl, hb⟩


theorem pos_mono {s : ByteArray} {n : Nat} (h : Ok s n) : ∀ (m k : Nat), k + m ≤ n → pos s k ≤ pos s (k + m)
  | 0, k, _ => Nat.le_refl _
  | m + 1, k, hk => by
    have ih := pos_mono h m k (by omega)
    have h1 := pos_succ (h (k + m) (by omega)).2
    have h2 := nx_zero s (pos s (k + m))
    rw [show k + (m + 1) = (k + m) + 1 by omega]
    omega

theorem cut_bad (s : ByteArray) (f t : Int) (k : Nat) (w : World) (hs : s.size ≤ maxLen) (hb : Bad s k) :
    Calls Try.prog 17 #[.string s, .int .i64 f, .int .i64 t] w fun e w' => e = .returned (.tuple #[.string ⟨#[]⟩, .int .i64 10]) ∧ w = w' := by
  have hc := len_bad s k w hs hb
  go_enter Try.func17, Try.ntmps17
  go_wp2_with (go_at_call 12; refine hc.mono ?_; rintro e w1 ⟨rfl, rfl⟩)
  go_ret2
  exact ⟨rfl, rfl⟩

set_option maxHeartbeats 1000000 in
theorem cut_arg (s : ByteArray) (f t : Int) (n : Nat) (w : World) (hs : s.size ≤ maxLen) (hv : Valid s n) (ha : f < 0 ∨ t < f ∨ (n : Int) < t) :
    Calls Try.prog 17 #[.string s, .int .i64 f, .int .i64 t] w fun e w' => e = .returned (.tuple #[.string ⟨#[]⟩, .int .i64 1]) ∧ w = w' := by
  have hc := len_ok s n w hs hv
  by_cases c1 : f < 0
  · go_enter Try.func17, Try.ntmps17
    go_wp2_with (go_at_call 12; refine hc.mono ?_; rintro e w1 ⟨rfl, rfl⟩)
    go_ret2
    exact ⟨rfl, rfl⟩
  · by_cases c2 : t < f
    · clear ha
      go_enter Try.func17, Try.ntmps17
      go_wp2_with (go_at_call 12; refine hc.mono ?_; rintro e w1 ⟨rfl, rfl⟩)
      go_ret2
      exact ⟨rfl, rfl⟩
    · have c3 : (n : Int) < t := by omega
      clear ha
      go_enter Try.func17, Try.ntmps17
      go_wp2_with (go_at_call 12; refine hc.mono ?_; rintro e w1 ⟨rfl, rfl⟩)
      go_ret2
      exact ⟨rfl, rfl⟩

set_option maxHeartbeats 1000000 in
theorem cut_ok (s : ByteArray) (f m n : Nat) (w : World) (hs : s.size ≤ 140737488351232) (hv : Valid s n) (hm : f + m ≤ n) :
    Calls Try.prog 17 #[.string s, .int .i64 (f : Int), .int .i64 ((f + m : Nat) : Int)] w fun e w' => e = .returned (.tuple #[.string (s.extract (pos s f) (pos s (f + m))), .int .i64 0]) ∧ Below w.heap.size w w' := by
  have hs' : s.size ≤ maxLen := by unfold maxLen; omega
  have hc := len_ok s n w hs' hv
  have hp0 := skip_any s n 0 f w hs' hv (by omega)
  have hp1 := skip_any s n f m w hs' hv hm
  have hnp := pos_le hv.1 n (Nat.le_refl _)
  have hle := pos_mono hv.1 m f hm
  have hle2 := (pos_le hv.1 (f + m) hm).2
  simp only [Nat.zero_add, pos] at hp0
  have e1 : pos s f + (pos s (f + m) - pos s f) = pos s (f + m) := by omega
  have hsl : ∀ W : World, (Instr.slice 9 (.string s) (some (.int .i64 (pos s f : Int))) (some (.int .i64 (pos s (f + m) : Int))) none).run Try.prog W = .ok (.string (s.extract (pos s f) (pos s (f + m)))) W := fun W => by
    have := slice_ok Try.underlying9 s (pos s f) (pos s (f + m) - pos s f) W (by omega)
    rw [show (pos s f : Int) + ((pos s (f + m) - pos s f : Nat) : Int) = (pos s (f + m) : Int) by omega, e1] at this
    exact this
  have hsz : (s.extract (pos s f) (pos s (f + m))).size ≤ 281474976710656 := by rw [ByteArray.size_extract]; omega
  have hfm : ((f + m : Nat) : Int) - (f : Int) = (m : Int) := by omega
  have ht0 : (f : Int) ≤ ((f + m : Nat) : Int) := by omega
  have ht1 : ((f + m : Nat) : Int) ≤ (n : Int) := by omega
  have hq0 : ∀ c d : Int, c = 0 → d = (f : Int) → Calls Try.prog 27 #[.string s, .int .i64 c, .int .i64 d] w fun e w' => e = .returned (.int .i64 (pos s f : Int)) ∧ w = w' := fun c d hc hd => by rw [hc, hd]; exact hp0
  have hq1 : ∀ c d : Int, c = (pos s f : Int) → d = (m : Int) → Calls Try.prog 27 #[.string s, .int .i64 c, .int .i64 d] w fun e w' => e = .returned (.int .i64 (pos s (f + m) : Int)) ∧ w = w' := fun c d hc hd => by rw [hc, hd]; exact hp1
  clear e1 hp0 hp1
  generalize s.extract (pos s f) (pos s (f + m)) = T at hsl hsz
  generalize pos s (f + m) = p1 at *
  generalize pos s f = p0 at *
  generalize ((f + m : Nat) : Int) = tt at *
  obtain rfl : tt = (f : Int) + (m : Int) := by omega
  clear hfm
  have HQ0 := hq0 0 (f : Int) rfl rfl
  have HQ1 := fun d hd => hq1 (p0 : Int) d rfl hd
  clear hq0 hq1
  go_enter Try.func17, Try.ntmps17
  go_wp2_with (go_at_call 12; refine hc.mono ?_; rintro e w1 ⟨rfl, rfl⟩)
  refine HQ0.mono ?_
  rintro e w1 ⟨rfl, rfl⟩
  clear HQ0 hc
  go_wp2_with fail
  refine (HQ1 _ (by omega)).mono ?_
  rintro e w1 ⟨rfl, rfl⟩
  clear HQ1
  go_wp2_with fail
  refine (clone_any _ _ hsz).mono ?_
  rintro e w3 ⟨rfl, hb3⟩
  go_wp2
  go_ret2
  exact ⟨rfl, hb3⟩

/-! ### Comparing -/

set_option maxRecDepth 100000 in
theorem cmp33 (a b : ByteArray) (w : World) : Calls Try.prog 33 #[.string a, .string b] w fun e w' => e = .returned (.int .i64 (Lib.compareBytes a.data.toList b.data.toList)) ∧ w = w' := by
  go_enter Try.func33, Try.ntmps33
  go_wp2
  rw [run_callFunc_extern Try.func34 (by kernel_rfl) (by kernel_rfl) (by kernel_rfl) (e := Extern.BytealgCompare.compare) (by kernel_rfl), Lib.run_compareString]
  simp only [Result.andThen]
  rw [Oper.upon_value]
  go_wp2
  go_ret
  exact ⟨rfl, rfl⟩

theorem compare_any (a b : ByteArray) (w : World) : Calls Try.prog 19 #[.string a, .string b] w fun e w' => e = .returned (.int .i64 (Lib.compareBytes a.data.toList b.data.toList)) ∧ w = w' := by
  have hc := cmp33 a b
  generalize Lib.compareBytes a.data.toList b.data.toList = r at *
  go_enter Try.func19, Try.ntmps19
  go_wp2_with (first | (go_at_call 33; refine (hc _).mono ?_; rintro e w1 ⟨rfl, rfl⟩) | go_in)
  go_ret
  exact ⟨rfl, rfl⟩

set_option maxHeartbeats 1000000 in
theorem same_true (va vb : Value) (xs : List Int) (w : World) (hx : xs.length ≤ maxLen) (ha : ReadsI w va xs) (hb : ReadsI w vb xs) :
    Calls Try.prog 11 #[va, vb] w fun e w' => e = .returned (.bool true) ∧ Below w.heap.size w w' := by
  unfold maxLen at hx
  rcases ha with ⟨rfl, ao, cp, rfl⟩ | ⟨b, off, cp, rfl, hca⟩
  · rcases hb with ⟨_, ao', cp', rfl⟩ | ⟨b', off', cp', rfl, hcb⟩
    · go_enter Try.func11, Try.ntmps11
      go_wp2
      go_rounds 1
      go_ret
      exact ⟨rfl, Below.refl _ _⟩
    · go_enter Try.func11, Try.ntmps11
      go_wp2
      go_rounds 1
      go_ret
      exact ⟨rfl, Below.refl _ _⟩
  · rcases hb with ⟨rfl, ao', cp', rfl⟩ | ⟨b', off', cp', rfl, hcb⟩
    · go_enter Try.func11, Try.ntmps11
      go_wp2
      go_rounds 1
      go_ret
      exact ⟨rfl, Below.refl _ _⟩
    · go_enter Try.func11, Try.ntmps11
      go_wp2
      go_loopw [5] (fun i wr => ∃ k : Nat, k ≤ xs.length ∧ i = .int .i64 (k : Int) ∧ Below w.heap.size w wr) (fun i _ => xs.length - (intOf i).toNat)
      case atStart => exact ⟨0, by omega, rfl, Below.refl _ _⟩
      case round =>
        obtain ⟨k, hk, rfl, hbl⟩ := hrel
        by_cases hlt : k < xs.length
        · have hlt' : (k : Int) < (xs.length : Int) := by omega
          have g1 := hca k hlt
          have g2 := hcb k hlt
          have f1 := (hbl.cell (World.block_lt_of_cell? w _ g1)).trans g1
          have f2 := (hbl.cell (World.block_lt_of_cell? w _ g2)).trans g2
          clear hca hcb g1 g2
          generalize xs.getD k 0 = x at f1 f2
          go_wp2
          go_quiet (fail)
          go_wp2
          go_roundw
          case rel => exact ⟨k + 1, by omega, by go_num, below_drewN hbl _⟩
          case measure => simp [intOf]; omega
        · clear hca hcb
          go_wp2
          go_ret
          exact ⟨rfl, hbl⟩
end Go.Proofs.Ythkkdbcflfhmaaa
