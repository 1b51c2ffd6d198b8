/-
  Contracts: pack.takeUpTo, pack.TakeNum, and the reference's TakeNum.
-/
import Derived.Test.YtgceileakcjmdaaPkNums
namespace Go.Proofs.Ytgceileakcjmdaa.pk
open Go.Proofs.Ytgceileakcjmdaa
open Go.ChangeShapes Go.WideShapes Go.ChangeAt Go.RowKit Go.PlainAid

/-- What reading a number gives, from group k on. -/
def tkGo (s : ByteArray) (at' : Nat) (most : Int) : Nat → Nat → Int → Int × Int × Int
  | 0, _, _ => (0, 0, 22)
  | f + 1, k, n =>
    if at' + k < s.size then
      if bt s (at' + k) < 128 then
        if (bt s (at' + k) = 0 ∧ 0 < k) ∨ most < n + bt s (at' + k) % 128 * 2 ^ (k * 7) then (0, 0, 22)
        else (n + bt s (at' + k) % 128 * 2 ^ (k * 7), (at' + k + 1 : Nat), 0)
      else tkGo s at' most f (k + 1) (n + bt s (at' + k) % 128 * 2 ^ (k * 7))
    else (0, 0, 21)

set_option maxRecDepth 20000 in
set_option maxHeartbeats 1000000 in
theorem upTo_in (s : ByteArray) (at' : Nat) (most : Int) (w : World) (hs : s.size ≤ maxLen) (hat : at' ≤ s.size) :
    Calls Try.prog 56 #[.string s, .int .i64 (at' : Int), .int .i64 most] w fun e w' => e = .returned (.tuple #[.int .i64 (tkGo s at' most 8 0 0).1, .int .i64 (tkGo s at' most 8 0 0).2.1, .int .i64 (tkGo s at' most 8 0 0).2.2]) ∧ w = w' := by
  unfold maxLen at hs
  have hb := get_bt s
  have h0 : (at' : Int) ≤ (s.size : Int) := by omega
  go_enter Try.func56, Try.ntmps56
  go_wp2
  go_loop [9, 20] (fun n i => ∃ (k : Nat) (N : Int), k ≤ 8 ∧ at' + k ≤ s.size ∧ i = .int .i64 (k : Int) ∧ n = .int .i64 N ∧ 0 ≤ N ∧ N < 2 ^ (k * 7) ∧ Hid (tkGo s at' most 8 0 0 = tkGo s at' most (8 - k) k N))
    (fun _ i => 8 - (intOf i).toNat)
  case atStart => exact ⟨0, 0, by omega, hat, rfl, rfl, by omega, by decide, rfl⟩
  case round =>
    obtain ⟨k, N, hk, hak, rfl, rfl, hN0, hN1, HT⟩ := hrel
    by_cases h8 : k = 8
    · subst h8
      go_wp2
      go_ret3
      exact ⟨by rw [HT.out]; rfl, rfl⟩
    · by_cases hin : at' + k < s.size
      · have hc0 := bt_nonneg s (at' + k)
        have hc1 := bt_le s (at' + k)
        have hand := u8_and127 hc0 (by omega)
        have ho := or_shift (k := k) (N := N) (c := bt s (at' + k) % 128) (by omega) hN0 hN1 (by omega) (by omega)
        obtain ⟨ho, hq0, hq1⟩ := ho
        have hf : 8 - k = (8 - (k + 1)) + 1 := by omega
        rw [hf] at HT
        by_cases hlow : bt s (at' + k) < 128
        · by_cases hz : bt s (at' + k) = 0 ∧ 0 < k
          · obtain ⟨hz1, hz2⟩ := hz
            have HR : Hid (tkGo s at' most 8 0 0 = (0, 0, 22)) := by
              show _ = _
              rw [HT.out, tkGo, if_pos hin, if_pos hlow, if_pos (Or.inl ⟨hz1, hz2⟩)]
            clear HT ho hq0 hq1 hand
            go_wp2
            go_ret3
            exact ⟨by rw [HR.out]; rfl, rfl⟩
          · have hz' : ∀ _ : bt s (at' + k) = 0, ¬ 0 < k := fun a b => hz ⟨a, b⟩
            by_cases hm : most < N + bt s (at' + k) % 128 * 2 ^ (k * 7)
            · have HR : Hid (tkGo s at' most 8 0 0 = (0, 0, 22)) := by
                show _ = _
                rw [HT.out, tkGo, if_pos hin, if_pos hlow, if_pos (Or.inr hm)]
              clear HT
              by_cases hz0 : bt s (at' + k) ≤ 0
              · have hk0 : (k : Int) ≤ 0 := by have := hz' (by omega); omega
                have hv : Hid (N + bt s (at' + k) % 128 * 2 ^ (k * 7) = N) := by
                  show _ = _
                  rw [show bt s (at' + k) = 0 by omega]; simp
                rw [hv.out] at hm
                clear hz hz'
                go_wp2
                go_ret3
                exact ⟨by rw [HR.out]; rfl, rfl⟩
              · clear hz hz'
                go_wp2
                go_ret3
                exact ⟨by rw [HR.out]; rfl, rfl⟩
            · have HR : Hid (tkGo s at' most 8 0 0 = (N + bt s (at' + k) % 128 * 2 ^ (k * 7), ((at' + k + 1 : Nat) : Int), 0)) := by
                show _ = _
                rw [HT.out, tkGo, if_pos hin, if_pos hlow, if_neg (by simp only [not_or]; exact ⟨hz, hm⟩)]
              clear HT
              by_cases hz0 : bt s (at' + k) ≤ 0
              · have hk0 : (k : Int) ≤ 0 := by have := hz' (by omega); omega
                have hv : Hid (N + bt s (at' + k) % 128 * 2 ^ (k * 7) = N) := by
                  show _ = _
                  rw [show bt s (at' + k) = 0 by omega]; simp
                rw [hv.out] at hm
                clear hz hz'
                go_wp2
                go_ret3
                have hp : ((at' + k + 1 : Nat) : Int) = (at' : Int) + 1 := by omega
                exact ⟨by rw [HR.out, hv.out, hp]; rfl, rfl⟩
              · clear hz hz'
                go_wp2
                go_ret3
                exact ⟨by rw [HR.out]; rfl, rfl⟩
        · have HR : Hid (tkGo s at' most 8 0 0 = tkGo s at' most (8 - (k + 1)) (k + 1) (N + bt s (at' + k) % 128 * 2 ^ (k * 7))) := by
            show _ = _
            rw [HT.out, tkGo, if_pos hin, if_neg hlow]
          clear HT
          go_wp2
          go_round
          case rel => exact ⟨k + 1, _, by omega, by omega, by go_num, rfl, hq0, hq1, HR⟩
          case measure => simp [intOf]; omega
      · have hin2 : ((at' : Int) + (k : Int) == (s.size : Int)) = true := by simp; omega
        go_wp2
        go_ret3
        have hf : 8 - k = (8 - (k + 1)) + 1 := by omega
        exact ⟨by rw [HT.out, hf, tkGo, if_neg hin]; rfl, rfl⟩
end Go.Proofs.Ytgceileakcjmdaa.pk
