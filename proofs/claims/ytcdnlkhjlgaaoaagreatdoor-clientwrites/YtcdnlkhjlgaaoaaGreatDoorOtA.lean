/-
  Code points as Go's own decoder sees them; RuneCountInString; the operations that ot makes.
-/
import Derived.Test.YtcdnlkhjlgaaoaaGreatDoorDMa
import Derived.Test.YtcdnlkhjlgaaoaaGreatDoorDArg
import Derived.Laws.RangeString
import Derived.Laws.RangeAny
import Derived.Laws.Runes
namespace Go.Proofs.YtcdnlkhjlgaaoaaGreatDoor
open Go.ChangeShapes Go.WideShapes Go.ChangeAt Go.RowKit Go.PlainAid

theorem gb {s : ByteArray} {k : Nat} (h : k < s.size) : ((s.get! k).toNat : Int) = bt s k := by
  have := get_at s k h
  rw [Nat.add_zero] at this
  rw [this]
  exact get_bt s k h

/-- Go's decoder gives the code point that stands there. -/
theorem dec_at {s : ByteArray} {a n : Nat} (hok : szI (n : Int) ≠ 0) (h : At s a (ptB n)) : Utf8.decode s a = (n, (ptB n).length) := by
  have hb := szI_nonneg hok
  have hn : n ≤ 1114111 := by omega
  have hgap : ¬ (55296 ≤ n ∧ n ≤ 57343) := by omega
  by_cases c1 : n < 128
  · rw [ptB1 c1] at h ⊢
    have h0 := at_one.1 h
    have g0 := gb h0.1
    rw [h0.2, ofNat_toNat (by omega)] at g0
    have e0 : (s.get! (a + 0)).toNat = n := by rw [Nat.add_zero]; omega
    simp only [Utf8.decode, e0, List.length_cons, List.length_nil]
    rw [if_pos (by omega)]
  · by_cases c2 : n < 2048
    · rw [ptB2 (by omega) c2] at h ⊢
      have h0 := at_cons.1 h
      have h1 := at_one.1 h0.2
      have g0 := gb h0.1.1
      have g1 := gb h1.1
      rw [h0.1.2, ofNat_toNat (by omega)] at g0
      rw [h1.2, ofNat_toNat (by omega)] at g1
      have e0 : (s.get! (a + 0)).toNat = 192 + n / 64 := by rw [Nat.add_zero]; omega
      have e1 : (s.get! (a + 1)).toNat = 128 + n % 64 := by omega
      have s1 : a + 1 < s.size := h1.1
      simp only [Utf8.decode, e0, e1, List.length_cons, List.length_nil]
      rw [if_neg (by omega), if_pos (by simp; omega), if_pos (by omega)]
      congr 1; omega
    · by_cases c3 : n < 65536
      · rw [ptB3 (by omega) c3] at h ⊢
        have h0 := at_cons.1 h
        have h1 := at_cons.1 h0.2
        have h2 := at_one.1 h1.2
        have g0 := gb h0.1.1
        have g1 := gb h1.1.1
        have g2 := gb h2.1
        rw [h0.1.2, ofNat_toNat (by omega)] at g0
        rw [h1.1.2, ofNat_toNat (by omega)] at g1
        rw [h2.2, ofNat_toNat (by omega)] at g2
        have e0 : (s.get! (a + 0)).toNat = 224 + n / 4096 := by rw [Nat.add_zero]; omega
        have e1 : (s.get! (a + 1)).toNat = 128 + n / 64 % 64 := by omega
        have e2 : (s.get! (a + 2)).toNat = 128 + n % 64 := by rw [show a + 2 = a + 1 + 1 by omega]; omega
        have s1 : a + 1 < s.size := h1.1.1
        have s2 : a + 2 < s.size := by have := h2.1; omega
        simp only [Utf8.decode, e0, e1, e2, List.length_cons, List.length_nil]
        have ev : (224 + n / 4096) % 16 * 4096 + (128 + n / 64 % 64) % 64 * 64 + (128 + n % 64) % 64 = n := by omega
        rw [if_neg (by omega), if_neg (by simp; omega), if_pos (by simp; omega), ev, if_pos (by simp [Utf8.valid]; omega)]
      · rw [ptB4 (by omega)] at h ⊢
        have h0 := at_cons.1 h
        have h1 := at_cons.1 h0.2
        have h2 := at_cons.1 h1.2
        have h3 := at_one.1 h2.2
        have g0 := gb h0.1.1
        have g1 := gb h1.1.1
        have g2 := gb h2.1.1
        have g3 := gb h3.1
        rw [h0.1.2, ofNat_toNat (by omega)] at g0
        rw [h1.1.2, ofNat_toNat (by omega)] at g1
        rw [h2.1.2, ofNat_toNat (by omega)] at g2
        rw [h3.2, ofNat_toNat (by omega)] at g3
        have e0 : (s.get! (a + 0)).toNat = 240 + n / 262144 := by rw [Nat.add_zero]; omega
        have e1 : (s.get! (a + 1)).toNat = 128 + n / 4096 % 64 := by omega
        have e2 : (s.get! (a + 2)).toNat = 128 + n / 64 % 64 := by rw [show a + 2 = a + 1 + 1 by omega]; omega
        have e3 : (s.get! (a + 3)).toNat = 128 + n % 64 := by rw [show a + 3 = a + 1 + 1 + 1 by omega]; omega
        have s1 : a + 1 < s.size := h1.1.1
        have s2 : a + 2 < s.size := by have := h2.1.1; omega
        have s3 : a + 3 < s.size := by have := h3.1; omega
        simp only [Utf8.decode, e0, e1, e2, e3, List.length_cons, List.length_nil]
        have ev : (240 + n / 262144) % 8 * 262144 + (128 + n / 4096 % 64) % 64 * 4096 + (128 + n / 64 % 64) % 64 * 64 + (128 + n % 64) % 64 = n := by omega
        rw [if_neg (by omega), if_neg (by simp; omega), if_neg (by simp; omega), if_pos (by simp; omega), ev, if_pos (by simp [Utf8.valid]; omega)]

theorem enc_rune {z : Int} (h : szI z ≠ 0) : Utf8.encode z = mk (ptB z.toNat) := by
  have hb := szI_nonneg h
  have hv : Utf8.valid z = true := by simp [Utf8.valid]; omega
  unfold Utf8.encode ptB
  rw [hv]
  simp only [if_true]
  split
  · rfl
  · split
    · rfl
    · split <;> rfl

/-- Code point number k of a valid text, as Go's decoder sees it. -/
theorem dec_pos {s : ByteArray} {n k : Nat} (hv : Valid s n) (hk : k < n) : ((Utf8.decode s (pos s k)).1 : Int) = pt s k ∧ pos s k + (Utf8.decode s (pos s k)).2 = pos s (k + 1) ∧ szI (pt s k) ≠ 0 := by
  have h1 := (hv.1 k hk).2
  obtain ⟨m, g1, g2, g3, g4⟩ := nx_of h1
  have hd := dec_at g2 g3
  have hp := pos_succ h1
  rw [hd]
  refine ⟨?_, ?_, ?_⟩
  · rw [pt, g1]
  · simp only; omega
  · rw [pt, g1]; exact g2

set_option maxRecDepth 20000 in
set_option maxHeartbeats 1000000 in
theorem runes_big (s : ByteArray) (w : World) (hs : s.size ≤ 1125899906842624) (h : 0 ≤ cpl s) :
    Calls Tryz.prog 63 #[.string s] w fun e w' => e = .returned (.int .i64 (cpl s)) ∧ Below w.heap.size w w' := by
  have hv := cpl_valid h
  obtain ⟨n, hn⟩ := Int.eq_ofNat_of_zero_le h
  rw [hn, Int.toNat_natCast] at hv
  rw [hn]
  have hnp := pos_le hv.1 n (Nat.le_refl _)
  have hBi : ∀ p, Below w.heap.size w (w.iter s p) := fun p => (Below.refl _ w).alloc (Nat.le_refl _) _
  clear hn h
  go_enter Tryz.func63, Tryz.ntmps63
  go_wp2
  go_loopw [2] (fun c w' => ∃ k : Nat, k ≤ n ∧ w' = w.iter s (pos s k) ∧ c = .int .i64 (k : Int)) (fun c _ => n - (intOf c).toNat)
  case atStart => exact ⟨0, by omega, rfl, rfl⟩
  case round =>
    obtain ⟨k, hk, rfl, rfl⟩ := hrel
    by_cases hlt : k < n
    · have h1 := (hv.1 k hlt).1
      have hd := dec_pos hv hlt
      have hnx : ∀ ty, (Instr.next (.pointer (some ⟨w.heap.size, 0, none⟩)) true ty).run Tryz.prog (w.iter s (pos s k)) = _ := fun ty => run_next_any w s (pos s k) ty h1
      rw [hd.2.1] at hnx
      clear hd
      go_wp2
      go_roundw
      case rel => exact ⟨k + 1, by omega, rfl, by go_num⟩
      case measure => simp [intOf]; omega
    · obtain rfl : k = n := by omega
      have hne : ¬ pos s k < s.size := by rw [hv.2]; omega
      have hnx : ∀ ty, (Instr.next (.pointer (some ⟨w.heap.size, 0, none⟩)) true ty).run Tryz.prog (w.iter s (pos s k)) = _ := fun ty => run_next_end w s (pos s k) ty hne
      clear hv hnp
      go_wp2
      go_ret
      exact ⟨rfl, hBi _⟩
theorem runes_any (s : ByteArray) (w : World) (hs : s.size ≤ 1048576) (h : 0 ≤ cpl s) :
    Calls Tryz.prog 63 #[.string s] w fun e w' => e = .returned (.int .i64 (cpl s)) ∧ Below w.heap.size w w' := runes_big s w (by omega) h

set_option maxHeartbeats 400000 in
theorem otKeep_any (n : Int) (w : World) : Calls Tryz.prog 108 #[.int .i64 n] w fun e w' => e = .returned (.agg #[.int .i64 1, .int .i64 n, .string ⟨#[]⟩]) ∧ Below w.heap.size w w' := by
  go_enter Tryz.func108, Tryz.ntmps108
  go_wp2
  refine bodyPost_ret (results_cell_row rfl _ _ w.heap.size 59 _ (0, 0) _ rfl (heap_alloc_new w _) Tryz.underlying59 rfl Tryz.sizeOp) rfl ?_
  exact ⟨rfl, (Below.refl _ _).alloc (Nat.le_refl _) _⟩
set_option maxHeartbeats 400000 in
theorem otIns_any (t : ByteArray) (w : World) : Calls Tryz.prog 107 #[.string t] w fun e w' => e = .returned (.agg #[.int .i64 2, .int .i64 0, .string t]) ∧ Below w.heap.size w w' := by
  go_enter Tryz.func107, Tryz.ntmps107
  go_wp2
  refine bodyPost_ret (results_cell_row rfl _ _ w.heap.size 59 _ (0, 0) _ rfl (heap_alloc_new w _) Tryz.underlying59 rfl Tryz.sizeOp) rfl ?_
  exact ⟨rfl, (Below.refl _ _).alloc (Nat.le_refl _) _⟩
end Go.Proofs.YtcdnlkhjlgaaoaaGreatDoor
