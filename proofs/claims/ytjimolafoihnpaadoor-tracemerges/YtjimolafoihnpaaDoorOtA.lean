/-
  Code points as Go's own decoder sees them; RuneCountInString; the operations that ot makes.
-/
import Derived.Test.YtjimolafoihnpaaDoorDlP
import Derived.Test.YtjimolafoihnpaaDoorDArg
import Derived.Laws.RangeString
import Derived.Laws.RangeAny
import Derived.Laws.Runes
import Derived.Lib.ValidLaws
import Derived.Lib.MapLaws
namespace Go.Proofs.YtjimolafoihnpaaDoor
open Go.ChangeShapes Go.WideShapes Go.ChangeAt Go.RowKit Go.PlainAid

theorem gb {s : ByteArray} {k : Nat} (h : k < s.size) : ((s.get! k).toNat : Int) = bt s k := by
  have := get_at s k h
  rw [Nat.add_zero] at this
  rw [this]
  exact get_bt s k h

/-- Go's decoder gives the code point that stands there. -/
theorem dec_at {s : ByteArray} {a n : Nat} (hok : szI (n : Int) ≠ 0) (h : At s a (ptB n)) : Utf8.decode s a = (n, (ptB n).length) := by
  have hb := szI_nonneg hok
  have hn : n ≤ 1114111 := by omega
  have hgap : ¬ (55296 ≤ n ∧ n ≤ 57343) := by omega
  by_cases c1 : n < 128
  · rw [ptB1 c1] at h ⊢
    have h0 := at_one.1 h
    have g0 := gb h0.1
    rw [h0.2, ofNat_toNat (by omega)] at g0
    have e0 : (s.get! (a + 0)).toNat = n := by rw [Nat.add_zero]; omega
    simp only [Utf8.decode, e0, List.length_cons, List.length_nil]
    rw [if_pos (by omega)]
  · by_cases c2 : n < 2048
    · rw [ptB2 (by omega) c2] at h ⊢
      have h0 := at_cons.1 h
      have h1 := at_one.1 h0.2
      have g0 := gb h0.1.1
      have g1 := gb h1.1
      rw [h0.1.2, ofNat_toNat (by omega)] at g0
      rw [h1.2, ofNat_toNat (by omega)] at g1
      have e0 : (s.get! (a + 0)).toNat = 192 + n / 64 := by rw [Nat.add_zero]; omega
      have e1 : (s.get! (a + 1)).toNat = 128 + n % 64 := by omega
      have s1 : a + 1 < s.size := h1.1
      simp only [Utf8.decode, e0, e1, List.length_cons, List.length_nil]
      rw [if_neg (by omega), if_pos (by simp; omega), if_pos (by omega)]
      congr 1; omega
    · by_cases c3 : n < 65536
      · rw [ptB3 (by omega) c3] at h ⊢
        have h0 := at_cons.1 h
        have h1 := at_cons.1 h0.2
        have h2 := at_one.1 h1.2
        have g0 := gb h0.1.1
        have g1 := gb h1.1.1
        have g2 := gb h2.1
        rw [h0.1.2, ofNat_toNat (by omega)] at g0
        rw [h1.1.2, ofNat_toNat (by omega)] at g1
        rw [h2.2, ofNat_toNat (by omega)] at g2
        have e0 : (s.get! (a + 0)).toNat = 224 + n / 4096 := by rw [Nat.add_zero]; omega
        have e1 : (s.get! (a + 1)).toNat = 128 + n / 64 % 64 := by omega
        have e2 : (s.get! (a + 2)).toNat = 128 + n % 64 := by rw [show a + 2 = a + 1 + 1 by omega]; omega
        have s1 : a + 1 < s.size := h1.1.1
        have s2 : a + 2 < s.size := by have := h2.1; omega
        simp only [Utf8.decode, e0, e1, e2, List.length_cons, List.length_nil]
        have ev : (224 + n / 4096) % 16 * 4096 + (128 + n / 64 % 64) % 64 * 64 + (128 + n % 64) % 64 = n := by omega
        rw [if_neg (by omega), if_neg (by simp; omega), if_pos (by simp; omega), ev, if_pos (by simp [Utf8.valid]; omega)]
      · rw [ptB4 (by omega)] at h ⊢
        have h0 := at_cons.1 h
        have h1 := at_cons.1 h0.2
        have h2 := at_cons.1 h1.2
        have h3 := at_one.1 h2.2
        have g0 := gb h0.1.1
        have g1 := gb h1.1.1
        have g2 := gb h2.1.1
        have g3 := gb h3.1
        rw [h0.1.2, ofNat_toNat (by omega)] at g0
        rw [h1.1.2, ofNat_toNat (by omega)] at g1
        rw [h2.1.2, ofNat_toNat (by omega)] at g2
        rw [h3.2, ofNat_toNat (by omega)] at g3
        have e0 : (s.get! (a + 0)).toNat = 240 + n / 262144 := by rw [Nat.add_zero]; omega
        have e1 : (s.get! (a + 1)).toNat = 128 + n / 4096 % 64 := by omega
        have e2 : (s.get! (a + 2)).toNat = 128 + n / 64 % 64 := by rw [show a + 2 = a + 1 + 1 by omega]; omega
        have e3 : (s.get! (a + 3)).toNat = 128 + n % 64 := by rw [show a + 3 = a + 1 + 1 + 1 by omega]; omega
        have s1 : a + 1 < s.size := h1.1.1
        have s2 : a + 2 < s.size := by have := h2.1.1; omega
        have s3 : a + 3 < s.size := by have := h3.1; omega
        simp only [Utf8.decode, e0, e1, e2, e3, List.length_cons, List.length_nil]
        have ev : (240 + n / 262144) % 8 * 262144 + (128 + n / 4096 % 64) % 64 * 4096 + (128 + n / 64 % 64) % 64 * 64 + (128 + n % 64) % 64 = n := by omega
        rw [if_neg (by omega), if_neg (by simp; omega), if_neg (by simp; omega), if_pos (by simp; omega), ev, if_pos (by simp [Utf8.valid]; omega)]

theorem enc_rune {z : Int} (h : szI z ≠ 0) : Utf8.encode z = mk (ptB z.toNat) := by
  have hb := szI_nonneg h
  have hv : Utf8.valid z = true := by simp [Utf8.valid]; omega
  unfold Utf8.encode ptB
  rw [hv]
  simp only [if_true]
  split
  · rfl
  · split
    · rfl
    · split <;> rfl

/-- Code point number k of a valid text, as Go's decoder sees it. -/
theorem dec_pos {s : ByteArray} {n k : Nat} (hv : Valid s n) (hk : k < n) : ((Utf8.decode s (pos s k)).1 : Int) = pt s k ∧ pos s k + (Utf8.decode s (pos s k)).2 = pos s (k + 1) ∧ szI (pt s k) ≠ 0 := by
  have h1 := (hv.1 k hk).2
  obtain ⟨m, g1, g2, g3, g4⟩ := nx_of h1
  have hd := dec_at g2 g3
  have hp := pos_succ h1
  rw [hd]
  refine ⟨?_, ?_, ?_⟩
  · rw [pt, g1]
  · simp only; omega
  · rw [pt, g1]; exact g2

set_option maxRecDepth 20000 in
set_option maxHeartbeats 1000000 in
theorem runes_big (s : ByteArray) (w : World) (hs : s.size ≤ 1125899906842624) (h : 0 ≤ cpl s) :
    Calls Tryd.prog 72 #[.string s] w fun e w' => e = .returned (.int .i64 (cpl s)) ∧ Below w.heap.size w w' := by
  have hv := cpl_valid h
  obtain ⟨n, hn⟩ := Int.eq_ofNat_of_zero_le h
  rw [hn, Int.toNat_natCast] at hv
  rw [hn]
  have hnp := pos_le hv.1 n (Nat.le_refl _)
  have hBi : ∀ p, Below w.heap.size w (w.iter s p) := fun p => (Below.refl _ w).alloc (Nat.le_refl _) _
  clear hn h
  go_enter Tryd.func72, Tryd.ntmps72
  go_wp2
  go_loopw [2] (fun c w' => ∃ k : Nat, k ≤ n ∧ w' = w.iter s (pos s k) ∧ c = .int .i64 (k : Int)) (fun c _ => n - (intOf c).toNat)
  case atStart => exact ⟨0, by omega, rfl, rfl⟩
  case round =>
    obtain ⟨k, hk, rfl, rfl⟩ := hrel
    by_cases hlt : k < n
    · have h1 := (hv.1 k hlt).1
      have hd := dec_pos hv hlt
      have hnx : ∀ ty, (Instr.next (.pointer (some ⟨w.heap.size, 0, none⟩)) true ty).run Tryd.prog (w.iter s (pos s k)) = _ := fun ty => run_next_any w s (pos s k) ty h1
      rw [hd.2.1] at hnx
      clear hd
      go_wp2
      go_roundw
      case rel => exact ⟨k + 1, by omega, rfl, by go_num⟩
      case measure => simp [intOf]; omega
    · obtain rfl : k = n := by omega
      have hne : ¬ pos s k < s.size := by rw [hv.2]; omega
      have hnx : ∀ ty, (Instr.next (.pointer (some ⟨w.heap.size, 0, none⟩)) true ty).run Tryd.prog (w.iter s (pos s k)) = _ := fun ty => run_next_end w s (pos s k) ty hne
      clear hv hnp
      go_wp2
      go_ret
      exact ⟨rfl, hBi _⟩
theorem runes_any (s : ByteArray) (w : World) (hs : s.size ≤ 1048576) (h : 0 ≤ cpl s) :
    Calls Tryd.prog 72 #[.string s] w fun e w' => e = .returned (.int .i64 (cpl s)) ∧ Below w.heap.size w w' := runes_big s w (by omega) h

end Go.Proofs.YtjimolafoihnpaaDoor

/-
  utf8.ValidString's answer and the length of a text. No walk.
-/
namespace Go.Proofs.YtjimolafoihnpaaDoor
open Go.RowKit Go.PlainAid

theorem ptB_rune (n : Nat) (h : szI (n : Int) ≠ 0) : Lib.encodeRune (n : Int) = ptB n := by
  have hb := szI_nonneg h
  unfold szI at h
  unfold Lib.encodeRune Lib.encodeRuneZ ptB
  by_cases c1 : n < 128
  · rw [if_pos (by omega), if_pos c1]
    simp
  · by_cases c2 : n < 2048
    · rw [if_neg (by omega), if_pos (by omega), if_neg c1, if_pos c2]
      simp only [List.map_cons, List.map_nil, show (192 + (n : Int) / 64).toNat = 192 + n / 64 by omega, show (128 + (n : Int) % 64).toNat = 128 + n % 64 by omega]
    · by_cases c3 : n < 65536
      · have hg : (2048 ≤ (n : Int) ∧ (n : Int) < 55296) ∨ (57343 < (n : Int) ∧ (n : Int) ≤ 65535) := by
          by_cases q : (n : Int) < 55296
          · left; omega
          · right
            refine ⟨?_, by omega⟩
            by_cases q2 : (n : Int) ≤ 57343
            · rw [if_pos (by omega)] at h; exact absurd rfl h
            · omega
        rw [if_neg (by omega), if_neg (by omega), if_pos hg, if_neg c1, if_neg c2, if_pos c3]
        simp only [List.map_cons, List.map_nil, show (224 + (n : Int) / 4096).toNat = 224 + n / 4096 by omega, show (128 + (n : Int) / 64 % 64).toNat = 128 + n / 64 % 64 by omega, show (128 + (n : Int) % 64).toNat = 128 + n % 64 by omega]
      · have hx : (n : Int) ≤ 1114111 := by
          by_cases q : (n : Int) ≤ 1114111
          · exact q
          · rw [if_pos (by omega)] at h; exact absurd rfl h
        rw [if_neg (by omega), if_neg (by omega), if_neg (by omega), if_pos (by omega), if_neg c1, if_neg c2, if_neg c3]
        simp only [List.map_cons, List.map_nil, show (240 + (n : Int) / 262144).toNat = 240 + n / 262144 by omega, show (128 + (n : Int) / 4096 % 64).toNat = 128 + n / 4096 % 64 by omega, show (128 + (n : Int) / 64 % 64).toNat = 128 + n / 64 % 64 by omega, show (128 + (n : Int) % 64).toNat = 128 + n % 64 by omega]

theorem at_take {s : ByteArray} {a w : Nat} {F : List UInt8} (h : (s.data.toList.drop a).take w = F) (hw : w ≤ s.size - a) (ha : a < s.size) : At s a F := by
  have hl : F.length = w := by
    rw [← h, List.length_take, List.length_drop, ← Lib.size_eq]
    omega
  refine ⟨by omega, fun i hi => ?_⟩
  have e : F[i]? = s.data.toList[a + i]? := by rw [← h, List.getElem?_take_of_lt (by omega), List.getElem?_drop]
  rw [List.getElem?_eq_getElem hi] at e
  have hlt : a + i < s.data.toList.length := by rw [← Lib.size_eq]; omega
  rw [List.getElem?_eq_getElem hlt] at e
  rw [bt_data s (a + i) (by omega), Option.some.inj e]

/-- What is decoded well is a code point. -/
theorem dec_ok {s : ByteArray} {a : Nat} (ha : a < s.size) (h : ¬ ((Utf8.decode s a).1 = 65533 ∧ (Utf8.decode s a).2 = 1)) : (nx s a).2 ≠ 0 := by
  have hne : s.data.toList.drop a ≠ [] := by
    intro e
    have := congrArg List.length e
    rw [List.length_drop, ← Lib.size_eq] at this
    simp at this
    omega
  rw [← Lib.decodeL_drop] at h
  have he := Lib.encode_decode _ hne h
  have hle := Lib.decodeL_le _ hne
  rw [List.length_drop, ← Lib.size_eq] at hle
  have hz : szI (((Lib.decodeL (s.data.toList.drop a)).1 : Nat) : Int) ≠ 0 := by
    have hs := Lib.decodeN_shape (s.data.toList.drop a).length ((s.data.toList.drop a).getD 0 0).toNat ((s.data.toList.drop a).getD 1 0).toNat ((s.data.toList.drop a).getD 2 0).toNat ((s.data.toList.drop a).getD 3 0).toNat
    rw [← Lib.decodeL_N] at hs
    unfold szI
    generalize Lib.decodeL (s.data.toList.drop a) = d at *
    generalize ((s.data.toList.drop a).getD 0 0).toNat = b0 at *
    generalize ((s.data.toList.drop a).getD 1 0).toNat = b1 at *
    generalize ((s.data.toList.drop a).getD 2 0).toNat = b2 at *
    generalize ((s.data.toList.drop a).getD 3 0).toNat = b3 at *
    rcases hs with ⟨h1, e⟩ | ⟨_, _, _, _, e⟩ | ⟨_, _, _, _, _, _, e⟩ | ⟨_, _, _, _, _, _, _, e⟩ | e <;> subst e <;> simp only at h ⊢
    · repeat' split
      all_goals omega
    · repeat' split
      all_goals omega
    · repeat' split
      all_goals omega
    · repeat' split
      all_goals omega
    · exact (h ⟨trivial, trivial⟩).elim
  rw [ptB_rune _ hz] at he
  have hat := at_take he.symm hle ha
  rw [nx_at hz hat]
  have : (ptB (Lib.decodeL (s.data.toList.drop a)).1).length ≠ 0 := by
    unfold ptB
    repeat' split
    all_goals simp
  simp only
  omega

theorem validD_good {s : ByteArray} {n k : Nat} (hv : Ok s n) (hk : k < n) : Lib.validD (s.data.toList.drop (pos s k)) = Lib.validD (s.data.toList.drop (pos s (k + 1))) := by
  obtain ⟨h1, h2⟩ := hv k hk
  obtain ⟨m, g1, g2, g3, g4⟩ := nx_of h2
  have hd := dec_at g2 g3
  have hne : s.data.toList.drop (pos s k) ≠ [] := by
    intro e
    have := congrArg List.length e
    rw [List.length_drop, ← Lib.size_eq] at this
    simp at this
    omega
  rw [Lib.validD_step _ hne, Lib.decodeL_drop, hd]
  have hx : ¬ (m = 65533 ∧ (ptB m).length = 1) := by
    rintro ⟨rfl, h⟩
    revert h
    decide
  rw [if_neg hx, List.drop_drop, pos, g4, Int.toNat_natCast]
theorem validD_bad {s : ByteArray} {k : Nat} (h1 : pos s k < s.size) (h2 : (nx s (pos s k)).2 = 0) : Lib.validD (s.data.toList.drop (pos s k)) = false := by
  have hne : s.data.toList.drop (pos s k) ≠ [] := by
    intro e
    have := congrArg List.length e
    rw [List.length_drop, ← Lib.size_eq] at this
    simp at this
    omega
  rw [Lib.validD_step _ hne, Lib.decodeL_drop]
  by_cases c : (Utf8.decode s (pos s k)).1 = 65533 ∧ (Utf8.decode s (pos s k)).2 = 1
  · rw [if_pos c]
  · exact absurd h2 (dec_ok h1 c)
theorem validD_run {s : ByteArray} {n : Nat} (hv : Ok s n) : ∀ k, k ≤ n → Lib.validD s.data.toList = Lib.validD (s.data.toList.drop (pos s k))
  | 0, _ => rfl
  | k + 1, h => (validD_run hv k (by omega)).trans (validD_good hv (by omega))
/-- utf8.ValidString tells whether a text has a length. -/
theorem validD_cpl (s : ByteArray) : Lib.validD s.data.toList = decide (0 ≤ cpl s) := by
  rcases valid_or_bad s with ⟨n, hv⟩ | ⟨k, hb⟩
  · rw [cpl_ok hv, validD_run hv.1 n (Nat.le_refl _), hv.2, Lib.size_eq, List.drop_length, Lib.validD_nil]
    simp
  · rw [cpl_bad hb, validD_run hb.1 k (Nat.le_refl _), validD_bad hb.2.1 hb.2.2]
    simp
end Go.Proofs.YtjimolafoihnpaaDoor

/-
  utf8.ValidString answers; how many code points a text has: the contract of count.
-/
namespace Go.Proofs.YtjimolafoihnpaaDoor
open Go.ChangeShapes Go.WideShapes Go.ChangeAt Go.RowKit Go.PlainAid

/-- utf8.ValidString answers in this world and behind it. -/
def VS (w : World) : Prop := ∀ (t : ByteArray) (W : World), t.size ≤ 1125899906842624 → Below w.heap.size w W →
  Calls Tryd.prog 71 #[.string t] W fun e w' => e = .returned (.bool (Lib.validD t.data.toList)) ∧ Below W.heap.size W w'
theorem VS.below {w w' : World} (h : VS w) (hb : Below w.heap.size w w') : VS w' := fun t W ht hW => h t W ht (chain hb hW)

set_option maxRecDepth 20000 in
set_option maxHeartbeats 1000000 in
theorem count_any (s : ByteArray) (w : World) (hV : VS w) (hs : s.size ≤ 1125899906842624) :
    Calls Tryd.prog 43 #[.string s] w fun e w' => e = .returned (.int .i64 (cpl s)) ∧ Below w.heap.size w w' := by
  have hv := hV s w hs (Below.refl _ _)
  rw [validD_cpl] at hv
  by_cases h : 0 ≤ cpl s
  · have hr := fun W => runes_big s W hs h
    rw [decide_eq_true h] at hv
    go_enter Tryd.func43, Tryd.ntmps43
    go_wp2_with fail
    refine hv.mono ?_
    rintro e w1 ⟨rfl, hb1⟩
    clear hv
    go_wp2_with fail
    refine (hr w1).mono ?_
    rintro e w2 ⟨rfl, hb2⟩
    clear hr
    go_wp2_with fail
    go_ret
    exact ⟨rfl, chain hb1 hb2⟩
  · have e0 : cpl s = -1 := by have := cpl_le s; omega
    rw [decide_eq_false h] at hv
    rw [e0]
    clear e0 h
    go_enter Tryd.func43, Tryd.ntmps43
    go_wp2_with fail
    refine hv.mono ?_
    rintro e w1 ⟨rfl, hb1⟩
    clear hv
    go_wp2_with fail
    go_ret
    exact ⟨rfl, hb1⟩
end Go.Proofs.YtjimolafoihnpaaDoor
