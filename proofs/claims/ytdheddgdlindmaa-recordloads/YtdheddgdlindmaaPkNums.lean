/-
  Contracts: pack.Word, pack.appendNum, pack.Num.
-/
import Derived.Test.YtdheddgdlindmaaTxPlain
import Derived.WalkLawsBesides
import Derived.Handy
import Derived.Outline
import Derived.Lib.UnsafeStr
import Derived.Laws.MakeOwn
import Derived.Lib.Strings
import Derived.Laws.DeepStrings4
namespace Go.Proofs.Ytdheddgdlindmaa.pk
open Go.Proofs.Ytdheddgdlindmaa
open Go.ChangeShapes Go.WideShapes Go.ChangeAt Go.RowKit

set_option maxRecDepth 20000 in
set_option maxHeartbeats 1000000 in
theorem appendNum_any (base : Nat) (v : Value) (l : List UInt8) (N : Nat) (w : World) (hb : base ≤ w.heap.size) (hN : N ≤ 1125899906842624) (hl : l.length ≤ 70368744177664)
    (hown : w.ownsRow base 5 1 v l.length (bv l)) :
    Calls Try.prog 85 #[v, .int .i64 (N : Int)] w fun e w' => ∃ v', e = .returned v' ∧ w'.ownsRow base 5 1 v' (l ++ numB N).length (bv (l ++ numB N)) ∧ Below base w w' := by
  obtain ⟨i0, hi, hz0, hz1, hz2⟩ := info_parts Try.info5
  go_enter Try.func85, Try.ntmps85
  go_wp2
  go_loopw [0, 1] (fun v i wr => ∃ (m : Nat) (pre : List UInt8), i = .int .i64 (m : Int) ∧ m ≤ 1125899906842624 ∧ pre ++ numB m = numB N ∧ wr.ownsRow base 5 1 v (l ++ pre).length (bv (l ++ pre)) ∧ Below base w wr)
    (fun _ i _ => (intOf i).toNat)
  case atStart => exact ⟨N, [], rfl, hN, rfl, by simpa using hown, Below.refl _ _⟩
  case round =>
    obtain ⟨m, pre, rfl, hm, hpre, hown', hbl⟩ := hrel
    have hm' : (m : Int) ≤ 1125899906842624 := by omega
    have hlen : (l ++ pre).length ≤ 70368744177674 := by have := congrArg List.length hpre; have := numB_len (n := N); simp at *; omega
    have hsz := hbl.size
    by_cases hlt : 127 < (m : Int)
    · have ha := i64_and127 (x := (m : Int)) (by omega) hm'
      have ho := u8_or128' (y := (m : Int) % 128) (by omega) (by omega)
      go_wp2_with (first | (at_builtin; refine wpList_append_own _ rfl (.tmp 7) (.tmp 12) 52 rfl base 5 i0 (.int .u8 0) 1 1 Try.underlying52 hi hz0 hz1 hz2 rfl (by decide) _ _ _ rfl (hown'.alloc _) ⟨wr.heap.size, 0, none⟩ 1 1 [.int .u8 (128 + (m : Int) % 128)] rfl rfl (one_new _ _ _) (one_one _ rfl) (by unfold maxLen; omega) (by omega) (by simp; omega) ?_) | go_in)
      · intro v' w1 hown1 hgrow _
        have R1 : w1.ownsRow base 5 1 v' (l ++ (pre ++ [UInt8.ofNat (128 + m % 128)])).length (bv (l ++ (pre ++ [UInt8.ofNat (128 + m % 128)]))) := by
          rw [← List.append_assoc]
          exact own_snoc hown1 (by simp) (by rw [byte_nat _ (by omega)]; omega)
        have R2 := below_app hb hbl hown' hgrow
        have R3 : Hid ((pre ++ [UInt8.ofNat (128 + m % 128)]) ++ numB (m / 128) = numB N) := by
          show _ = _
          rw [← hpre, numB_high (n := m) (by omega) hm]; simp
        clear hown1 hgrow hown' ha ho
        go_wp2
        go_roundw
        case rel => exact ⟨m / 128, _, by go_num, by omega, R3.out, R1, R2⟩
        case measure => simp [intOf]; omega
    · go_wp2_with (first | (at_builtin; refine wpList_append_own _ rfl (.tmp 16) (.tmp 19) 52 rfl base 5 i0 (.int .u8 0) 1 1 Try.underlying52 hi hz0 hz1 hz2 rfl (by decide) _ _ _ rfl (hown'.alloc _) ⟨wr.heap.size, 0, none⟩ 1 1 [.int .u8 (m : Int)] rfl rfl (one_new _ _ _) (one_one _ rfl) (by unfold maxLen; omega) (by omega) (by simp; omega) ?_) | go_in)
      · intro v' w1 hown1 hgrow _
        have R1 : w1.ownsRow base 5 1 v' (l ++ numB N).length (bv (l ++ numB N)) := by
          rw [← hpre, numB_low (n := m) (by omega), ← List.append_assoc]
          exact own_snoc hown1 (by simp) (by rw [byte_nat _ (by omega)])
        have R2 := below_app hb hbl hown' hgrow
        clear hown1 hgrow hown'
        go_wp2
        go_ret
        exact ⟨_, rfl, R1, R2⟩

/-- pack.Num of a number that may be written. -/
theorem num_ok (N : Nat) (w : World) (hN : N ≤ 1125899906842624) :
    Calls Try.prog 70 #[.int .i64 (N : Int)] w fun e w' => e = .returned (.tuple #[.string (mk (numB N)), .int .i64 0]) ∧ Below w.heap.size w w' := by
  have h1 : (N : Int) ≤ 1125899906842624 := by omega
  go_enter Try.func70, Try.ntmps70
  go_wp2_with (go_at_call 85; refine (appendNum_any w.heap.size _ [] N _ (Nat.le_refl _) hN (by simp) (World.ownsRow_nil _ _ _ _)).mono ?_; rintro e w' ⟨v', rfl, hown, hbl⟩; have hc := conv_own (dst := 9) Try.underlying52 Try.underlying5 Try.underlying9 hown; clear hown)
  go_ret2
  exact ⟨rfl, by assumption⟩
theorem num_no (n : Int) (w : World) (h : n < 0 ∨ 1125899906842624 < n) :
    Calls Try.prog 70 #[.int .i64 n] w fun e w' => e = .returned (.tuple #[.string ⟨#[]⟩, .int .i64 20]) ∧ Below w.heap.size w w' := by
  rcases h with h | h
  · go_enter Try.func70, Try.ntmps70
    go_wp2
    go_ret2
    exact ⟨rfl, Below.refl _ _⟩
  · have h0 : ¬ n < 0 := by omega
    go_enter Try.func70, Try.ntmps70
    go_wp2
    go_ret2
    exact ⟨rfl, Below.refl _ _⟩
end Go.Proofs.Ytdheddgdlindmaa.pk

/-
  Contracts: pack.takeUpTo, pack.TakeNum, and the reference's TakeNum.
-/
namespace Go.Proofs.Ytdheddgdlindmaa.pk
open Go.Proofs.Ytdheddgdlindmaa
open Go.ChangeShapes Go.WideShapes Go.ChangeAt Go.RowKit Go.PlainAid

/-- What reading a number gives, from group k on. -/
def tkGo (s : ByteArray) (at' : Nat) (most : Int) : Nat → Nat → Int → Int × Int × Int
  | 0, _, _ => (0, 0, 22)
  | f + 1, k, n =>
    if at' + k < s.size then
      if bt s (at' + k) < 128 then
        if (bt s (at' + k) = 0 ∧ 0 < k) ∨ most < n + bt s (at' + k) % 128 * 2 ^ (k * 7) then (0, 0, 22)
        else (n + bt s (at' + k) % 128 * 2 ^ (k * 7), (at' + k + 1 : Nat), 0)
      else tkGo s at' most f (k + 1) (n + bt s (at' + k) % 128 * 2 ^ (k * 7))
    else (0, 0, 21)

set_option maxRecDepth 20000 in
set_option maxHeartbeats 1000000 in
theorem upTo_in (s : ByteArray) (at' : Nat) (most : Int) (w : World) (hs : s.size ≤ maxLen) (hat : at' ≤ s.size) :
    Calls Try.prog 91 #[.string s, .int .i64 (at' : Int), .int .i64 most] w fun e w' => e = .returned (.tuple #[.int .i64 (tkGo s at' most 8 0 0).1, .int .i64 (tkGo s at' most 8 0 0).2.1, .int .i64 (tkGo s at' most 8 0 0).2.2]) ∧ w = w' := by
  unfold maxLen at hs
  have hb := get_bt s
  have h0 : (at' : Int) ≤ (s.size : Int) := by omega
  go_enter Try.func91, Try.ntmps91
  go_wp2
  go_loop [9, 20] (fun n i => ∃ (k : Nat) (N : Int), k ≤ 8 ∧ at' + k ≤ s.size ∧ i = .int .i64 (k : Int) ∧ n = .int .i64 N ∧ 0 ≤ N ∧ N < 2 ^ (k * 7) ∧ Hid (tkGo s at' most 8 0 0 = tkGo s at' most (8 - k) k N))
    (fun _ i => 8 - (intOf i).toNat)
  case atStart => exact ⟨0, 0, by omega, hat, rfl, rfl, by omega, by decide, rfl⟩
  case round =>
    obtain ⟨k, N, hk, hak, rfl, rfl, hN0, hN1, HT⟩ := hrel
    by_cases h8 : k = 8
    · subst h8
      go_wp2
      go_ret3
      exact ⟨by rw [HT.out]; rfl, rfl⟩
    · by_cases hin : at' + k < s.size
      · have hc0 := bt_nonneg s (at' + k)
        have hc1 := bt_le s (at' + k)
        have hand := u8_and127 hc0 (by omega)
        have ho := or_shift (k := k) (N := N) (c := bt s (at' + k) % 128) (by omega) hN0 hN1 (by omega) (by omega)
        obtain ⟨ho, hq0, hq1⟩ := ho
        have hf : 8 - k = (8 - (k + 1)) + 1 := by omega
        rw [hf] at HT
        by_cases hlow : bt s (at' + k) < 128
        · by_cases hz : bt s (at' + k) = 0 ∧ 0 < k
          · obtain ⟨hz1, hz2⟩ := hz
            have HR : Hid (tkGo s at' most 8 0 0 = (0, 0, 22)) := by
              show _ = _
              rw [HT.out, tkGo, if_pos hin, if_pos hlow, if_pos (Or.inl ⟨hz1, hz2⟩)]
            clear HT ho hq0 hq1 hand
            go_wp2
            go_ret3
            exact ⟨by rw [HR.out]; rfl, rfl⟩
          · have hz' : ∀ _ : bt s (at' + k) = 0, ¬ 0 < k := fun a b => hz ⟨a, b⟩
            by_cases hm : most < N + bt s (at' + k) % 128 * 2 ^ (k * 7)
            · have HR : Hid (tkGo s at' most 8 0 0 = (0, 0, 22)) := by
                show _ = _
                rw [HT.out, tkGo, if_pos hin, if_pos hlow, if_pos (Or.inr hm)]
              clear HT
              by_cases hz0 : bt s (at' + k) ≤ 0
              · have hk0 : (k : Int) ≤ 0 := by have := hz' (by omega); omega
                have hv : Hid (N + bt s (at' + k) % 128 * 2 ^ (k * 7) = N) := by
                  show _ = _
                  rw [show bt s (at' + k) = 0 by omega]; simp
                rw [hv.out] at hm
                clear hz hz'
                go_wp2
                go_ret3
                exact ⟨by rw [HR.out]; rfl, rfl⟩
              · clear hz hz'
                go_wp2
                go_ret3
                exact ⟨by rw [HR.out]; rfl, rfl⟩
            · have HR : Hid (tkGo s at' most 8 0 0 = (N + bt s (at' + k) % 128 * 2 ^ (k * 7), ((at' + k + 1 : Nat) : Int), 0)) := by
                show _ = _
                rw [HT.out, tkGo, if_pos hin, if_pos hlow, if_neg (by simp only [not_or]; exact ⟨hz, hm⟩)]
              clear HT
              by_cases hz0 : bt s (at' + k) ≤ 0
              · have hk0 : (k : Int) ≤ 0 := by have := hz' (by omega); omega
                have hv : Hid (N + bt s (at' + k) % 128 * 2 ^ (k * 7) = N) := by
                  show _ = _
                  rw [show bt s (at' + k) = 0 by omega]; simp
                rw [hv.out] at hm
                clear hz hz'
                go_wp2
                go_ret3
                have hp : ((at' + k + 1 : Nat) : Int) = (at' : Int) + 1 := by omega
                exact ⟨by rw [HR.out, hv.out, hp]; rfl, rfl⟩
              · clear hz hz'
                go_wp2
                go_ret3
                exact ⟨by rw [HR.out]; rfl, rfl⟩
        · have HR : Hid (tkGo s at' most 8 0 0 = tkGo s at' most (8 - (k + 1)) (k + 1) (N + bt s (at' + k) % 128 * 2 ^ (k * 7))) := by
            show _ = _
            rw [HT.out, tkGo, if_pos hin, if_neg hlow]
          clear HT
          go_wp2
          go_round
          case rel => exact ⟨k + 1, _, by omega, by omega, by go_num, rfl, hq0, hq1, HR⟩
          case measure => simp [intOf]; omega
      · have hin2 : ((at' : Int) + (k : Int) == (s.size : Int)) = true := by simp; omega
        go_wp2
        go_ret3
        have hf : 8 - k = (8 - (k + 1)) + 1 := by omega
        exact ⟨by rw [HT.out, hf, tkGo, if_neg hin]; rfl, rfl⟩
end Go.Proofs.Ytdheddgdlindmaa.pk

/-
  Contracts: the reading of a number at any place, by the program and by the reference.
-/
namespace Go.Proofs.Ytdheddgdlindmaa.pk
open Go.Proofs.Ytdheddgdlindmaa
open Go.ChangeShapes Go.WideShapes Go.ChangeAt Go.RowKit Go.PlainAid

/-- What reading a number at most 'most' gives, at any place. -/
def tk (s : ByteArray) (a most : Int) : Int × Int × Int := if 0 ≤ a ∧ a ≤ (s.size : Int) then tkGo s a.toNat most 8 0 0 else (0, 0, 1)

theorem add_shift {k : Nat} {N c : Int} (hk : k < 8) (h0 : 0 ≤ N) (h1 : N < 2 ^ (k * 7)) (c0 : 0 ≤ c) (c1 : c < 128) : wrap64 (N + wrap64 (c * 2 ^ (7 * k))) = N + c * 2 ^ (k * 7) := by
  obtain ⟨_, h2, h3⟩ := or_shift hk h0 h1 c0 c1
  rw [Nat.mul_comm 7 k]
  have hp : ((2 : Int) ^ ((k + 1) * 7)) ≤ 2 ^ 56 := by
    have : 2 ^ ((k + 1) * 7) ≤ 2 ^ 56 := Nat.pow_le_pow_right (by decide) (by omega)
    exact_mod_cast this
  have hc : 0 ≤ c * 2 ^ (k * 7) := Int.mul_nonneg c0 (Int.pow_nonneg (by decide))
  generalize c * 2 ^ (k * 7) = q at *
  generalize (2 : Int) ^ ((k + 1) * 7) = r at *
  unfold wrap64
  omega

theorem upTo_any (s : ByteArray) (a most : Int) (w : World) (hs : s.size ≤ maxLen) :
    Calls Try.prog 91 #[.string s, .int .i64 a, .int .i64 most] w fun e w' => e = .returned (.tuple #[.int .i64 (tk s a most).1, .int .i64 (tk s a most).2.1, .int .i64 (tk s a most).2.2]) ∧ w = w' := by
  by_cases h0 : 0 ≤ a
  · by_cases h1 : a ≤ (s.size : Int)
    · have e : tk s a most = tkGo s a.toNat most 8 0 0 := by rw [tk, if_pos ⟨h0, h1⟩]
      rw [e]
      have := upTo_in s a.toNat most w hs (by omega)
      rwa [show ((a.toNat : Nat) : Int) = a by omega] at this
    · have e : tk s a most = (0, 0, 1) := by rw [tk, if_neg (by omega)]
      rw [e]
      unfold maxLen at hs
      go_enter Try.func91, Try.ntmps91
      go_wp2
      go_ret3
      exact ⟨rfl, rfl⟩
  · have e : tk s a most = (0, 0, 1) := by rw [tk, if_neg (by omega)]
    rw [e]
    have h2 : a < 0 := by omega
    go_enter Try.func91, Try.ntmps91
    go_wp2
    go_ret3
    exact ⟨rfl, rfl⟩

theorem takeNum_any (s : ByteArray) (a : Int) (w : World) (hs : s.size ≤ maxLen) :
    Calls Try.prog 78 #[.string s, .int .i64 a] w fun e w' => e = .returned (.tuple #[.int .i64 (tk s a 1125899906842624).1, .int .i64 (tk s a 1125899906842624).2.1, .int .i64 (tk s a 1125899906842624).2.2]) ∧ w = w' := by
  go_enter Try.func78, Try.ntmps78
  go_wp2_with (go_at_call 91; refine (upTo_any _ _ _ _ hs).mono ?_; rintro e w' ⟨rfl, rfl⟩)
  go_ret3
  exact ⟨rfl, rfl⟩

set_option maxRecDepth 20000 in
set_option maxHeartbeats 1000000 in
theorem refNum_in (s : ByteArray) (at' : Nat) (w : World) (hs : s.size ≤ maxLen) (hat : at' ≤ s.size) :
    Calls Try.prog 81 #[.string s, .int .i64 (at' : Int)] w fun e w' => e = .returned (.tuple #[.int .i64 (tkGo s at' 1125899906842624 8 0 0).1, .int .i64 (tkGo s at' 1125899906842624 8 0 0).2.1, .int .i64 (tkGo s at' 1125899906842624 8 0 0).2.2]) ∧ w = w' := by
  unfold maxLen at hs
  have hb := get_bt s
  have h0 : (at' : Int) ≤ (s.size : Int) := by omega
  go_enter Try.func81, Try.ntmps81
  go_wp2
  go_loop [7, 8] (fun n i => ∃ (k : Nat) (N : Int), k ≤ 8 ∧ at' + k ≤ s.size ∧ i = .int .i64 (k : Int) ∧ n = .int .i64 N ∧ 0 ≤ N ∧ N < 2 ^ (k * 7) ∧ Hid (tkGo s at' 1125899906842624 8 0 0 = tkGo s at' 1125899906842624 (8 - k) k N))
    (fun _ i => 8 - (intOf i).toNat)
  case atStart => exact ⟨0, 0, by omega, hat, rfl, rfl, by omega, by decide, rfl⟩
  case round =>
    obtain ⟨k, N, hk, hak, rfl, rfl, hN0, hN1, HT⟩ := hrel
    by_cases h8 : k = 8
    · subst h8
      go_wp2
      go_ret3
      exact ⟨by rw [HT.out]; rfl, rfl⟩
    · by_cases hin : at' + k < s.size
      · have hc0 := bt_nonneg s (at' + k)
        have hc1 := bt_le s (at' + k)
        have ho := or_shift (k := k) (N := N) (c := bt s (at' + k) % 128) (by omega) hN0 hN1 (by omega) (by omega)
        obtain ⟨ho', hq0, hq1⟩ := ho
        clear ho'
        have hsum := add_shift (k := k) (N := N) (c := bt s (at' + k) % 128) (by omega) hN0 hN1 (by omega) (by omega)
        have hf : 8 - k = (8 - (k + 1)) + 1 := by omega
        rw [hf] at HT
        by_cases hlow : bt s (at' + k) < 128
        · by_cases hz : bt s (at' + k) = 0 ∧ 0 < k
          · obtain ⟨hz1, hz2⟩ := hz
            have HR : Hid (tkGo s at' 1125899906842624 8 0 0 = (0, 0, 22)) := by
              show _ = _
              rw [HT.out, tkGo, if_pos hin, if_pos hlow, if_pos (Or.inl ⟨hz1, hz2⟩)]
            clear HT hsum hq0 hq1
            go_wp2
            go_ret3
            exact ⟨by rw [HR.out]; rfl, rfl⟩
          · have hz' : ∀ _ : bt s (at' + k) = 0, ¬ 0 < k := fun a b => hz ⟨a, b⟩
            by_cases hm : 1125899906842624 < N + bt s (at' + k) % 128 * 2 ^ (k * 7)
            · have HR : Hid (tkGo s at' 1125899906842624 8 0 0 = (0, 0, 22)) := by
                show _ = _
                rw [HT.out, tkGo, if_pos hin, if_pos hlow, if_pos (Or.inr hm)]
              clear HT
              by_cases hz0 : bt s (at' + k) ≤ 0
              · have hk0 : (k : Int) ≤ 0 := by have := hz' (by omega); omega
                have hv : Hid (N + bt s (at' + k) % 128 * 2 ^ (k * 7) = N) := by
                  show _ = _
                  rw [show bt s (at' + k) = 0 by omega]; simp
                rw [hv.out] at hm
                clear hz hz'
                go_wp2
                go_ret3
                exact ⟨by rw [HR.out]; rfl, rfl⟩
              · clear hz hz'
                go_wp2
                go_ret3
                exact ⟨by rw [HR.out]; rfl, rfl⟩
            · have HR : Hid (tkGo s at' 1125899906842624 8 0 0 = (N + bt s (at' + k) % 128 * 2 ^ (k * 7), ((at' + k + 1 : Nat) : Int), 0)) := by
                show _ = _
                rw [HT.out, tkGo, if_pos hin, if_pos hlow, if_neg (by simp only [not_or]; exact ⟨hz, hm⟩)]
              clear HT
              by_cases hz0 : bt s (at' + k) ≤ 0
              · have hk0 : (k : Int) ≤ 0 := by have := hz' (by omega); omega
                have hv : Hid (N + bt s (at' + k) % 128 * 2 ^ (k * 7) = N) := by
                  show _ = _
                  rw [show bt s (at' + k) = 0 by omega]; simp
                rw [hv.out] at hm
                clear hz hz'
                go_wp2
                go_ret3
                have hp : ((at' + k + 1 : Nat) : Int) = (at' : Int) + 1 := by omega
                exact ⟨by rw [HR.out, hv.out, hp]; rfl, rfl⟩
              · clear hz hz'
                go_wp2
                go_ret3
                exact ⟨by rw [HR.out]; rfl, rfl⟩
        · have HR : Hid (tkGo s at' 1125899906842624 8 0 0 = tkGo s at' 1125899906842624 (8 - (k + 1)) (k + 1) (N + bt s (at' + k) % 128 * 2 ^ (k * 7))) := by
            show _ = _
            rw [HT.out, tkGo, if_pos hin, if_neg hlow]
          clear HT
          go_wp2
          go_round
          case rel => exact ⟨k + 1, _, by omega, by omega, by go_num, by rw [hsum], hq0, hq1, HR⟩
          case measure => simp [intOf]; omega
      · go_wp2
        go_ret3
        have hf : 8 - k = (8 - (k + 1)) + 1 := by omega
        exact ⟨by rw [HT.out, hf, tkGo, if_neg hin]; rfl, rfl⟩

theorem refNum_any (s : ByteArray) (a : Int) (w : World) (hs : s.size ≤ maxLen) :
    Calls Try.prog 81 #[.string s, .int .i64 a] w fun e w' => e = .returned (.tuple #[.int .i64 (tk s a 1125899906842624).1, .int .i64 (tk s a 1125899906842624).2.1, .int .i64 (tk s a 1125899906842624).2.2]) ∧ w = w' := by
  by_cases h0 : 0 ≤ a
  · by_cases h1 : a ≤ (s.size : Int)
    · have e : tk s a 1125899906842624 = tkGo s a.toNat 1125899906842624 8 0 0 := by rw [tk, if_pos ⟨h0, h1⟩]
      rw [e]
      have := refNum_in s a.toNat w hs (by omega)
      rwa [show ((a.toNat : Nat) : Int) = a by omega] at this
    · have e : tk s a 1125899906842624 = (0, 0, 1) := by rw [tk, if_neg (by omega)]
      rw [e]
      unfold maxLen at hs
      go_enter Try.func81, Try.ntmps81
      go_wp2
      go_ret3
      exact ⟨rfl, rfl⟩
  · have e : tk s a 1125899906842624 = (0, 0, 1) := by rw [tk, if_neg (by omega)]
    rw [e]
    have h2 : a < 0 := by omega
    go_enter Try.func81, Try.ntmps81
    go_wp2
    go_ret3
    exact ⟨rfl, rfl⟩
end Go.Proofs.Ytdheddgdlindmaa.pk

/-
  Contracts: strings.Clone, pack.TakeText and the reference's, pack.TakeWord and the reference's.
-/
namespace Go.Proofs.Ytdheddgdlindmaa.pk
open Go.Proofs.Ytdheddgdlindmaa
open Go.ChangeShapes Go.WideShapes Go.ChangeAt Go.RowKit Go.PlainAid

theorem slice_ok {P : Program} {t : TypeId} (ht : P.underlying t = some .string) (s : ByteArray) (p n : Nat) (W : World) (h : p + n ≤ s.size) :
    (Instr.slice t (.string s) (some (.int .i64 (p : Int))) (some (.int .i64 ((p : Int) + (n : Int)))) none).run P W = .ok (.string (s.extract p (p + n))) W := by
  rw [run_slice_string_if (P := P) (w := W) t s .i64 .i64 (p : Int) ((p : Int) + (n : Int)) ht, if_pos (by omega), if_pos (by omega)]
  have e1 : ((p : Int) + (n : Int)).toNat = p + n := by omega
  rw [e1]; rfl

theorem Try.cells5 : Try.prog.cellsOf 5 = 1 := by kernel_rfl

set_option maxRecDepth 20000 in
set_option maxHeartbeats 1000000 in
set_option maxRecDepth 100000 in
/-- A fresh copy has the same bytes. -/
theorem lite_any (s : ByteArray) (w : World) (hlim : s.size ≤ 281474976710656) :
    Calls Try.prog 98 #[.string s] w fun e w' => e = .returned (.string s) ∧ Below w.heap.size w w' := by
  by_cases h0 : s.size = 0
  · have hs : s = ⟨#[]⟩ := ByteArray.ext (Array.eq_empty_of_size_eq_zero h0)
    subst hs
    go_enter Try.func98, Try.ntmps98
    go_wp2
    go_ret
    exact ⟨rfl, Below.refl _ _⟩
  · obtain ⟨i0, hi, hz0, hz1, hz2⟩ := info_parts Try.info5
    have hinfo : (Try.prog.info? 5).map (·.size) = some 1 := by rw [hi]; simp [hz1]
    obtain ⟨M, hM⟩ : ∃ M, M = madeCells (Value.int .u8 0).cells (((s.size : Nat) : Int).toNat * i0.size) := ⟨_, rfl⟩
    have hMs : M.size = s.size := by rw [hM, size_madeCells, hz1]; simp
    have hmk : ∀ W : World, (Instr.makeSlice 52 (.int .i64 (s.size : Int)) (.int .i64 (s.size : Int))).run Try.prog W = .ok (.slice (some ⟨W.heap.size, 0, none⟩) s.size s.size) (W.alloc (.cells M 5)) := fun W => by
      have h := run_make (P := Try.prog) W 52 5 i0 (.int .u8 0) Try.underlying52 hi hz0 .i64 .i64 (s.size : Int) (s.size : Int) (by omega) (by omega) (by rw [hz2]; omega) (by omega)
      rw [← hM] at h
      simpa using h
    clear hM
    have hcp := Lib.run_copy_row_string (P := Try.prog) (w.alloc (.cells M 5)) 52 9 3 5 w.heap.size 0 s.size s.size s M 5 Try.underlying52 hinfo (heap_alloc_new w _) (Nat.le_refl _) (by omega)
    obtain ⟨Y, hY⟩ : ∃ Y, Y = (M.toList.take 0 ++ Lib.byteCells s.data.toList ++ M.toList.drop (0 + s.size)).toArray := ⟨_, rfl⟩
    rw [← hY] at hcp
    have hYl : Y.toList = Lib.byteCells s.data.toList := by
      rw [hY, List.toList_toArray, List.take_zero, List.nil_append, List.drop_of_length_le (by rw [Array.length_toList]; omega), List.append_nil]
    have hYs : Y.size = s.size := by rw [← Array.length_toList, hYl, Lib.byteCells_length, ← Lib.size_eq]
    have hgY : ((w.alloc (.cells M 5)).setRow w.heap.size Y).heap[w.heap.size]? = some (.cells Y 5 (0, 0)) := setRow_heap _ _ M _ 5 (0, 0) (heap_alloc_new w _)
    have hne : s.data.toList ≠ [] := fun e => h0 (by rw [Lib.size_eq, e]; rfl)
    have hUS := Lib.run_unsafeString_row (P := Try.prog) ((w.alloc (.cells M 5)).setRow w.heap.size Y) 128 3 9 5 Try.underlying128 Try.cells5 w.heap.size Y.size (by unfold World.shape?; rw [hgY]) s.data.toList hne (by rw [← Lib.size_eq]; omega) (by rw [← Lib.size_eq]; omega)
      (fun j x hx => Lib.cells_of_row hgY Y.size j _ (by rw [List.take_of_length_le (by rw [Array.length_toList]; exact Nat.le_refl _), hYl]; simp [Lib.byteCells, hx]))
    rw [← Lib.size_eq] at hUS
    clear hY
    go_enter Try.func98, Try.ntmps98
    go_wp2
    go_ret
    have hb1 : Below w.heap.size w (w.alloc (.cells M 5)) := (Below.refl _ w).alloc (Nat.le_refl _) _
    have hb2 : Below w.heap.size (w.alloc (.cells M 5)) ((w.alloc (.cells M 5)).setRow w.heap.size Y) := ⟨rfl, rfl, rfl, by simp, fun k hk => setRow_other _ _ _ _ (by omega)⟩
    exact ⟨rfl, Lib.below_freeze (hb1.trans hb2) (p := ⟨w.heap.size, 0, none⟩) (Nat.le_refl _) _⟩

theorem clone_any (s : ByteArray) (w : World) (hlim : s.size ≤ 281474976710656) :
    Calls Try.prog 92 #[.string s] w fun e w' => e = .returned (.string s) ∧ Below w.heap.size w w' := by
  go_enter Try.func92, Try.ntmps92
  go_wp2_with (go_at_call 98; refine (lite_any _ _ hlim).mono ?_; rintro e w' ⟨rfl, hb⟩)
  go_ret
  exact ⟨rfl, hb⟩

/-! ### What reading gives, in plain numbers -/

theorem tkGo_ok (s : ByteArray) (at' : Nat) (most : Int) : ∀ (f k : Nat) (n : Int), 0 ≤ n →
    ((tkGo s at' most f k n).2.2 = 0 ∧ 0 ≤ (tkGo s at' most f k n).1 ∧ (tkGo s at' most f k n).1 ≤ most ∧ (at' : Int) < (tkGo s at' most f k n).2.1 ∧ (tkGo s at' most f k n).2.1 ≤ s.size) ∨
    (tkGo s at' most f k n = (0, 0, 21) ∨ tkGo s at' most f k n = (0, 0, 22))
  | 0, k, n, _ => by right; right; rfl
  | f + 1, k, n, hn => by
    have hc := bt_nonneg s (at' + k)
    have hq : 0 ≤ bt s (at' + k) % 128 * 2 ^ (k * 7) := Int.mul_nonneg (by omega) (Int.pow_nonneg (by decide))
    rw [tkGo]
    split
    · split
      · split
        · right; right; rfl
        · rename_i h1 h2 h3
          left
          simp only [not_or] at h3
          refine ⟨rfl, by simp only; omega, by simp only; omega, by simp only; omega, by simp only; omega⟩
      · exact tkGo_ok s at' most f (k + 1) _ (by omega)
    · right; left; rfl

theorem tkGo_cut (s : ByteArray) (at' : Nat) {m M : Int} (hm : m ≤ M) : ∀ (f k : Nat) (n : Int),
    tkGo s at' m f k n = if (tkGo s at' M f k n).2.2 = 0 ∧ m < (tkGo s at' M f k n).1 then (0, 0, 22) else tkGo s at' M f k n
  | 0, k, n => by simp [tkGo]
  | f + 1, k, n => by
    rw [tkGo, tkGo]
    split
    · split
      · by_cases h1 : bt s (at' + k) = 0 ∧ 0 < k
        · rw [if_pos (Or.inl h1), if_pos (Or.inl h1)]; simp
        · by_cases h2 : M < n + bt s (at' + k) % 128 * 2 ^ (k * 7)
          · rw [if_pos (Or.inr (show m < _ by omega)), if_pos (Or.inr h2)]; simp
          · rw [if_neg (c := _ ∨ M < _) (by simp only [not_or]; exact ⟨h1, h2⟩)]
            by_cases h3 : m < n + bt s (at' + k) % 128 * 2 ^ (k * 7)
            · rw [if_pos (Or.inr h3), if_pos ⟨rfl, h3⟩]
            · rw [if_neg (by simp only [not_or]; exact ⟨h1, h3⟩), if_neg (by simp only [not_and]; exact fun _ => h3)]
      · exact tkGo_cut s at' hm f (k + 1) _
    · simp

/-- Of a reading: it went, and its number and place are in range; or one of the three errors. -/
theorem tk_cases (s : ByteArray) (a most : Int) :
    (∃ n p : Nat, tk s a most = ((n : Int), (p : Int), 0) ∧ (n : Int) ≤ most ∧ a < (p : Int) ∧ p ≤ s.size ∧ 0 ≤ a) ∨ (∃ e : Int, tk s a most = (0, 0, e) ∧ (e = 1 ∨ e = 21 ∨ e = 22)) := by
  unfold tk
  split
  · rename_i h
    rcases tkGo_ok s a.toNat most 8 0 0 (by omega) with ⟨h1, h2, h3, h4, h5⟩ | h1 | h1
    · left
      refine ⟨(tkGo s a.toNat most 8 0 0).1.toNat, (tkGo s a.toNat most 8 0 0).2.1.toNat, ?_, by omega, by omega, by omega, by omega⟩
      apply Prod.ext
      · simp only; omega
      · apply Prod.ext
        · simp only; omega
        · exact h1
    · right; exact ⟨21, h1, by omega⟩
    · right; exact ⟨22, h1, by omega⟩
  · right; exact ⟨1, rfl, by omega⟩

theorem tk_cut (s : ByteArray) (a : Int) {m M : Int} (hm : m ≤ M) : tk s a m = if (tk s a M).2.2 = 0 ∧ m < (tk s a M).1 then (0, 0, 22) else tk s a M := by
  unfold tk
  split
  · exact tkGo_cut s a.toNat hm 8 0 0
  · simp

/-- What reading a text gives. -/
def tkT (s : ByteArray) (a : Int) : ByteArray × Int × Int :=
  if (tk s a 20000).2.2 = 0 then
    if (s.size : Int) - (tk s a 20000).2.1 < (tk s a 20000).1 then (⟨#[]⟩, 0, 21)
    else (s.extract (tk s a 20000).2.1.toNat ((tk s a 20000).2.1.toNat + (tk s a 20000).1.toNat), (tk s a 20000).2.1 + (tk s a 20000).1, 0)
  else (⟨#[]⟩, 0, (tk s a 20000).2.2)

set_option maxRecDepth 20000 in
set_option maxHeartbeats 1000000 in
theorem takeText_any (s : ByteArray) (a : Int) (w : World) (hs : s.size ≤ maxLen) :
    Calls Try.prog 79 #[.string s, .int .i64 a] w fun e w' => e = .returned (.tuple #[.string (tkT s a).1, .int .i64 (tkT s a).2.1, .int .i64 (tkT s a).2.2]) ∧ Below w.heap.size w w' := by
  have hc := upTo_any s a 20000 w hs
  unfold maxLen at hs
  rcases tk_cases s a 20000 with ⟨n, p, hr, hn, hap, hp, ha⟩ | ⟨er, hr, her⟩
  · rw [hr] at hc
    simp only at hc
    have hn' : n ≤ 20000 := by omega
    by_cases hcut : (s.size : Int) - (p : Int) < (n : Int)
    · have e : tkT s a = (⟨#[]⟩, 0, 21) := by unfold tkT; rw [hr]; simp only [if_pos]; rw [if_pos hcut]
      rw [e]
      clear hr
      go_enter Try.func79, Try.ntmps79
      go_wp2_with (go_at_call 91; refine hc.mono ?_; rintro e w' ⟨rfl, rfl⟩)
      go_ret3
      exact ⟨rfl, Below.refl _ _⟩
    · have e : tkT s a = (s.extract p (p + n), ((p + n : Nat) : Int), 0) := by unfold tkT; rw [hr]; simp only [if_pos]; rw [if_neg hcut]; simp
      rw [e]
      clear hr
      have hsl : ∀ W : World, (Instr.slice 9 (.string s) (some (.int .i64 (p : Int))) (some (.int .i64 ((p : Int) + (n : Int)))) none).run Try.prog W = .ok (.string (s.extract p (p + n))) W := fun W => slice_ok Try.underlying9 s p n W (by omega)
      have hsz : (s.extract p (p + n)).size ≤ 281474976710656 := by simp; omega
      go_enter Try.func79, Try.ntmps79
      go_wp2_with (first | (go_at_call 91; refine hc.mono ?_; rintro e w' ⟨rfl, rfl⟩) | (go_at_call 92; refine (clone_any _ _ hsz).mono ?_; rintro e w' ⟨rfl, hb⟩))
      go_ret3
      exact ⟨rfl, hb⟩
  · have e : tkT s a = (⟨#[]⟩, 0, er) := by
      unfold tkT; rw [hr]; simp only; rw [if_neg (by omega)]
    rw [hr] at hc
    simp only at hc
    rw [e]
    clear hr
    have hne : (er != 0) = true := by simp; omega
    go_enter Try.func79, Try.ntmps79
    go_wp2_with (go_at_call 91; refine hc.mono ?_; rintro e w' ⟨rfl, rfl⟩)
    go_ret3
    exact ⟨rfl, Below.refl _ _⟩
end Go.Proofs.Ytdheddgdlindmaa.pk

/-
  Contracts: the reference's TakeText, Num, Text and Word; pack.TakeWord and the reference's.
-/
namespace Go.Proofs.Ytdheddgdlindmaa.pk
open Go.Proofs.Ytdheddgdlindmaa
open Go.ChangeShapes Go.WideShapes Go.ChangeAt Go.RowKit Go.PlainAid

set_option maxRecDepth 20000 in
set_option maxHeartbeats 1000000 in
theorem refText_any (s : ByteArray) (a : Int) (w : World) (hs : s.size ≤ maxLen) :
    Calls Try.prog 82 #[.string s, .int .i64 a] w fun e w' => e = .returned (.tuple #[.string (tkT s a).1, .int .i64 (tkT s a).2.1, .int .i64 (tkT s a).2.2]) ∧ w = w' := by
  have hc := refNum_any s a w hs
  have hcut := tk_cut s a (m := 20000) (M := 1125899906842624) (by decide)
  unfold maxLen at hs
  rcases tk_cases s a 1125899906842624 with ⟨n, p, hr, hn, hap, hp, ha⟩ | ⟨er, hr, her⟩
  · rw [hr] at hc hcut
    simp only at hc hcut
    by_cases hbig : (20000 : Int) < (n : Int)
    · rw [if_pos ⟨trivial, hbig⟩] at hcut
      have e : tkT s a = (⟨#[]⟩, 0, 22) := by unfold tkT; rw [hcut]; rfl
      rw [e]
      clear hr hcut
      go_enter Try.func82, Try.ntmps82
      go_wp2_with (go_at_call 81; refine hc.mono ?_; rintro e w' ⟨rfl, rfl⟩)
      go_ret3
      exact ⟨rfl, rfl⟩
    · rw [if_neg (by simp only [not_and]; exact fun _ => hbig)] at hcut
      by_cases hct : (s.size : Int) - (p : Int) < (n : Int)
      · have e : tkT s a = (⟨#[]⟩, 0, 21) := by unfold tkT; rw [hcut]; simp only [if_pos]; rw [if_pos hct]
        rw [e]
        clear hr hcut
        go_enter Try.func82, Try.ntmps82
        go_wp2_with (go_at_call 81; refine hc.mono ?_; rintro e w' ⟨rfl, rfl⟩)
        go_ret3
        exact ⟨rfl, rfl⟩
      · have e : tkT s a = (s.extract p (p + n), ((p + n : Nat) : Int), 0) := by unfold tkT; rw [hcut]; simp only [if_pos]; rw [if_neg hct]; simp
        rw [e]
        clear hr hcut
        have hsl : ∀ W : World, (Instr.slice 9 (.string s) (some (.int .i64 (p : Int))) (some (.int .i64 ((p : Int) + (n : Int)))) none).run Try.prog W = .ok (.string (s.extract p (p + n))) W := fun W => slice_ok Try.underlying9 s p n W (by omega)
        go_enter Try.func82, Try.ntmps82
        go_wp2_with (go_at_call 81; refine hc.mono ?_; rintro e w' ⟨rfl, rfl⟩)
        go_ret3
        exact ⟨rfl, rfl⟩
  · rw [hr] at hc hcut
    simp only at hc hcut
    rw [if_neg (by omega)] at hcut
    have e : tkT s a = (⟨#[]⟩, 0, er) := by
      unfold tkT; rw [hcut]; simp only; rw [if_neg (by omega)]
    rw [e]
    clear hr hcut
    have hne : (er != 0) = true := by simp; omega
    go_enter Try.func82, Try.ntmps82
    go_wp2_with (go_at_call 81; refine hc.mono ?_; rintro e w' ⟨rfl, rfl⟩)
    go_ret3
    exact ⟨rfl, rfl⟩

end Go.Proofs.Ytdheddgdlindmaa.pk
