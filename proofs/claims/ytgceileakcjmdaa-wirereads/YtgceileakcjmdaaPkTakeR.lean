/-
  Contracts: the reading of a number at any place, by the program and by the reference.
-/
import Derived.Test.YtgceileakcjmdaaPkTake
namespace Go.Proofs.Ytgceileakcjmdaa.pk
open Go.Proofs.Ytgceileakcjmdaa
open Go.ChangeShapes Go.WideShapes Go.ChangeAt Go.RowKit Go.PlainAid

/-- What reading a number at most 'most' gives, at any place. -/
def tk (s : ByteArray) (a most : Int) : Int × Int × Int := if 0 ≤ a ∧ a ≤ (s.size : Int) then tkGo s a.toNat most 8 0 0 else (0, 0, 1)

theorem add_shift {k : Nat} {N c : Int} (hk : k < 8) (h0 : 0 ≤ N) (h1 : N < 2 ^ (k * 7)) (c0 : 0 ≤ c) (c1 : c < 128) : wrap64 (N + wrap64 (c * 2 ^ (7 * k))) = N + c * 2 ^ (k * 7) := by
  obtain ⟨_, h2, h3⟩ := or_shift hk h0 h1 c0 c1
  rw [Nat.mul_comm 7 k]
  have hp : ((2 : Int) ^ ((k + 1) * 7)) ≤ 2 ^ 56 := by
    have : 2 ^ ((k + 1) * 7) ≤ 2 ^ 56 := Nat.pow_le_pow_right (by decide) (by omega)
    exact_mod_cast this
  have hc : 0 ≤ c * 2 ^ (k * 7) := Int.mul_nonneg c0 (Int.pow_nonneg (by decide))
  generalize c * 2 ^ (k * 7) = q at *
  generalize (2 : Int) ^ ((k + 1) * 7) = r at *
  unfold wrap64
  omega

theorem upTo_any (s : ByteArray) (a most : Int) (w : World) (hs : s.size ≤ maxLen) :
    Calls Try.prog 56 #[.string s, .int .i64 a, .int .i64 most] w fun e w' => e = .returned (.tuple #[.int .i64 (tk s a most).1, .int .i64 (tk s a most).2.1, .int .i64 (tk s a most).2.2]) ∧ w = w' := by
  by_cases h0 : 0 ≤ a
  · by_cases h1 : a ≤ (s.size : Int)
    · have e : tk s a most = tkGo s a.toNat most 8 0 0 := by rw [tk, if_pos ⟨h0, h1⟩]
      rw [e]
      have := upTo_in s a.toNat most w hs (by omega)
      rwa [show ((a.toNat : Nat) : Int) = a by omega] at this
    · have e : tk s a most = (0, 0, 1) := by rw [tk, if_neg (by omega)]
      rw [e]
      unfold maxLen at hs
      go_enter Try.func56, Try.ntmps56
      go_wp2
      go_ret3
      exact ⟨rfl, rfl⟩
  · have e : tk s a most = (0, 0, 1) := by rw [tk, if_neg (by omega)]
    rw [e]
    have h2 : a < 0 := by omega
    go_enter Try.func56, Try.ntmps56
    go_wp2
    go_ret3
    exact ⟨rfl, rfl⟩

theorem takeNum_any (s : ByteArray) (a : Int) (w : World) (hs : s.size ≤ maxLen) :
    Calls Try.prog 55 #[.string s, .int .i64 a] w fun e w' => e = .returned (.tuple #[.int .i64 (tk s a 1125899906842624).1, .int .i64 (tk s a 1125899906842624).2.1, .int .i64 (tk s a 1125899906842624).2.2]) ∧ w = w' := by
  go_enter Try.func55, Try.ntmps55
  go_wp2_with (go_at_call 56; refine (upTo_any _ _ _ _ hs).mono ?_; rintro e w' ⟨rfl, rfl⟩)
  go_ret3
  exact ⟨rfl, rfl⟩

set_option maxRecDepth 20000 in
set_option maxHeartbeats 1000000 in
theorem refNum_in (s : ByteArray) (at' : Nat) (w : World) (hs : s.size ≤ maxLen) (hat : at' ≤ s.size) :
    Calls Try.prog 26 #[.string s, .int .i64 (at' : Int)] w fun e w' => e = .returned (.tuple #[.int .i64 (tkGo s at' 1125899906842624 8 0 0).1, .int .i64 (tkGo s at' 1125899906842624 8 0 0).2.1, .int .i64 (tkGo s at' 1125899906842624 8 0 0).2.2]) ∧ w = w' := by
  unfold maxLen at hs
  have hb := get_bt s
  have h0 : (at' : Int) ≤ (s.size : Int) := by omega
  go_enter Try.func26, Try.ntmps26
  go_wp2
  go_loop [7, 8] (fun n i => ∃ (k : Nat) (N : Int), k ≤ 8 ∧ at' + k ≤ s.size ∧ i = .int .i64 (k : Int) ∧ n = .int .i64 N ∧ 0 ≤ N ∧ N < 2 ^ (k * 7) ∧ Hid (tkGo s at' 1125899906842624 8 0 0 = tkGo s at' 1125899906842624 (8 - k) k N))
    (fun _ i => 8 - (intOf i).toNat)
  case atStart => exact ⟨0, 0, by omega, hat, rfl, rfl, by omega, by decide, rfl⟩
  case round =>
    obtain ⟨k, N, hk, hak, rfl, rfl, hN0, hN1, HT⟩ := hrel
    by_cases h8 : k = 8
    · subst h8
      go_wp2
      go_ret3
      exact ⟨by rw [HT.out]; rfl, rfl⟩
    · by_cases hin : at' + k < s.size
      · have hc0 := bt_nonneg s (at' + k)
        have hc1 := bt_le s (at' + k)
        have ho := or_shift (k := k) (N := N) (c := bt s (at' + k) % 128) (by omega) hN0 hN1 (by omega) (by omega)
        obtain ⟨ho', hq0, hq1⟩ := ho
        clear ho'
        have hsum := add_shift (k := k) (N := N) (c := bt s (at' + k) % 128) (by omega) hN0 hN1 (by omega) (by omega)
        have hf : 8 - k = (8 - (k + 1)) + 1 := by omega
        rw [hf] at HT
        by_cases hlow : bt s (at' + k) < 128
        · by_cases hz : bt s (at' + k) = 0 ∧ 0 < k
          · obtain ⟨hz1, hz2⟩ := hz
            have HR : Hid (tkGo s at' 1125899906842624 8 0 0 = (0, 0, 22)) := by
              show _ = _
              rw [HT.out, tkGo, if_pos hin, if_pos hlow, if_pos (Or.inl ⟨hz1, hz2⟩)]
            clear HT hsum hq0 hq1
            go_wp2
            go_ret3
            exact ⟨by rw [HR.out]; rfl, rfl⟩
          · have hz' : ∀ _ : bt s (at' + k) = 0, ¬ 0 < k := fun a b => hz ⟨a, b⟩
            by_cases hm : 1125899906842624 < N + bt s (at' + k) % 128 * 2 ^ (k * 7)
            · have HR : Hid (tkGo s at' 1125899906842624 8 0 0 = (0, 0, 22)) := by
                show _ = _
                rw [HT.out, tkGo, if_pos hin, if_pos hlow, if_pos (Or.inr hm)]
              clear HT
              by_cases hz0 : bt s (at' + k) ≤ 0
              · have hk0 : (k : Int) ≤ 0 := by have := hz' (by omega); omega
                have hv : Hid (N + bt s (at' + k) % 128 * 2 ^ (k * 7) = N) := by
                  show _ = _
                  rw [show bt s (at' + k) = 0 by omega]; simp
                rw [hv.out] at hm
                clear hz hz'
                go_wp2
                go_ret3
                exact ⟨by rw [HR.out]; rfl, rfl⟩
              · clear hz hz'
                go_wp2
                go_ret3
                exact ⟨by rw [HR.out]; rfl, rfl⟩
            · have HR : Hid (tkGo s at' 1125899906842624 8 0 0 = (N + bt s (at' + k) % 128 * 2 ^ (k * 7), ((at' + k + 1 : Nat) : Int), 0)) := by
                show _ = _
                rw [HT.out, tkGo, if_pos hin, if_pos hlow, if_neg (by simp only [not_or]; exact ⟨hz, hm⟩)]
              clear HT
              by_cases hz0 : bt s (at' + k) ≤ 0
              · have hk0 : (k : Int) ≤ 0 := by have := hz' (by omega); omega
                have hv : Hid (N + bt s (at' + k) % 128 * 2 ^ (k * 7) = N) := by
                  show _ = _
                  rw [show bt s (at' + k) = 0 by omega]; simp
                rw [hv.out] at hm
                clear hz hz'
                go_wp2
                go_ret3
                have hp : ((at' + k + 1 : Nat) : Int) = (at' : Int) + 1 := by omega
                exact ⟨by rw [HR.out, hv.out, hp]; rfl, rfl⟩
              · clear hz hz'
                go_wp2
                go_ret3
                exact ⟨by rw [HR.out]; rfl, rfl⟩
        · have HR : Hid (tkGo s at' 1125899906842624 8 0 0 = tkGo s at' 1125899906842624 (8 - (k + 1)) (k + 1) (N + bt s (at' + k) % 128 * 2 ^ (k * 7))) := by
            show _ = _
            rw [HT.out, tkGo, if_pos hin, if_neg hlow]
          clear HT
          go_wp2
          go_round
          case rel => exact ⟨k + 1, _, by omega, by omega, by go_num, by rw [hsum], hq0, hq1, HR⟩
          case measure => simp [intOf]; omega
      · go_wp2
        go_ret3
        have hf : 8 - k = (8 - (k + 1)) + 1 := by omega
        exact ⟨by rw [HT.out, hf, tkGo, if_neg hin]; rfl, rfl⟩

theorem refNum_any (s : ByteArray) (a : Int) (w : World) (hs : s.size ≤ maxLen) :
    Calls Try.prog 26 #[.string s, .int .i64 a] w fun e w' => e = .returned (.tuple #[.int .i64 (tk s a 1125899906842624).1, .int .i64 (tk s a 1125899906842624).2.1, .int .i64 (tk s a 1125899906842624).2.2]) ∧ w = w' := by
  by_cases h0 : 0 ≤ a
  · by_cases h1 : a ≤ (s.size : Int)
    · have e : tk s a 1125899906842624 = tkGo s a.toNat 1125899906842624 8 0 0 := by rw [tk, if_pos ⟨h0, h1⟩]
      rw [e]
      have := refNum_in s a.toNat w hs (by omega)
      rwa [show ((a.toNat : Nat) : Int) = a by omega] at this
    · have e : tk s a 1125899906842624 = (0, 0, 1) := by rw [tk, if_neg (by omega)]
      rw [e]
      unfold maxLen at hs
      go_enter Try.func26, Try.ntmps26
      go_wp2
      go_ret3
      exact ⟨rfl, rfl⟩
  · have e : tk s a 1125899906842624 = (0, 0, 1) := by rw [tk, if_neg (by omega)]
    rw [e]
    have h2 : a < 0 := by omega
    go_enter Try.func26, Try.ntmps26
    go_wp2
    go_ret3
    exact ⟨rfl, rfl⟩
end Go.Proofs.Ytgceileakcjmdaa.pk
