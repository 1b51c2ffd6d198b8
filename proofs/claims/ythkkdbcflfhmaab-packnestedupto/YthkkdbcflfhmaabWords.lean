/-
  Contracts: the reference's TakeText, Num, Text and Word; pack.TakeWord and the reference's.
-/
import Derived.Test.YthkkdbcflfhmaabTexts
namespace Go.Proofs.Ythkkdbcflfhmaab
open Go.ChangeShapes Go.WideShapes Go.ChangeAt Go.RowKit Go.PlainAid

set_option maxHeartbeats 1000000 in
theorem refText_any (s : ByteArray) (a : Int) (w : World) (hs : s.size ≤ maxLen) :
    Calls Try.prog 22 #[.string s, .int .i64 a] w fun e w' => e = .returned (.tuple #[.string (tkT s a).1, .int .i64 (tkT s a).2.1, .int .i64 (tkT s a).2.2]) ∧ w = w' := by
  have hc := refNum_any s a w hs
  have hcut := tk_cut s a (m := 20000) (M := 1125899906842624) (by decide)
  unfold maxLen at hs
  rcases tk_cases s a 1125899906842624 with ⟨n, p, hr, hn, hap, hp, ha⟩ | ⟨er, hr, her⟩
  · rw [hr] at hc hcut
    simp only at hc hcut
    by_cases hbig : (20000 : Int) < (n : Int)
    · rw [if_pos ⟨trivial, hbig⟩] at hcut
      have e : tkT s a = (⟨#[]⟩, 0, 22) := by unfold tkT; rw [hcut]; rfl
      rw [e]
      clear hr hcut
      go_enter Try.func22, Try.ntmps22
      go_wp2_with (go_at_call 20; refine hc.mono ?_; rintro e w' ⟨rfl, rfl⟩)
      go_ret3
      exact ⟨rfl, rfl⟩
    · rw [if_neg (by simp only [not_and]; exact fun _ => hbig)] at hcut
      by_cases hct : (s.size : Int) - (p : Int) < (n : Int)
      · have e : tkT s a = (⟨#[]⟩, 0, 21) := by unfold tkT; rw [hcut]; simp only [if_pos]; rw [if_pos hct]
        rw [e]
        clear hr hcut
        go_enter Try.func22, Try.ntmps22
        go_wp2_with (go_at_call 20; refine hc.mono ?_; rintro e w' ⟨rfl, rfl⟩)
        go_ret3
        exact ⟨rfl, rfl⟩
      · have e : tkT s a = (s.extract p (p + n), ((p + n : Nat) : Int), 0) := by unfold tkT; rw [hcut]; simp only [if_pos]; rw [if_neg hct]; simp
        rw [e]
        clear hr hcut
        have hsl : ∀ W : World, (Instr.slice 9 (.string s) (some (.int .i64 (p : Int))) (some (.int .i64 ((p : Int) + (n : Int)))) none).run Try.prog W = .ok (.string (s.extract p (p + n))) W := fun W => slice_ok Try.underlying9 s p n W (by omega)
        go_enter Try.func22, Try.ntmps22
        go_wp2_with (go_at_call 20; refine hc.mono ?_; rintro e w' ⟨rfl, rfl⟩)
        go_ret3
        exact ⟨rfl, rfl⟩
  · rw [hr] at hc hcut
    simp only at hc hcut
    rw [if_neg (by omega)] at hcut
    have e : tkT s a = (⟨#[]⟩, 0, er) := by
      unfold tkT; rw [hcut]; simp only; rw [if_neg (by omega)]
    rw [e]
    clear hr hcut
    have hne : (er != 0) = true := by simp; omega
    go_enter Try.func22, Try.ntmps22
    go_wp2_with (go_at_call 20; refine hc.mono ?_; rintro e w' ⟨rfl, rfl⟩)
    go_ret3
    exact ⟨rfl, rfl⟩

/-- The word of the first k bytes from a place on. -/
def wv (s : ByteArray) (at' : Nat) : Nat → Int
  | 0 => 0
  | k + 1 => wv s at' k * 256 + bt s (at' + k)
theorem wv_lt (s : ByteArray) (at' : Nat) : ∀ k, 0 ≤ wv s at' k ∧ wv s at' k < 256 ^ k
  | 0 => by simp [wv]
  | k + 1 => by
    have := wv_lt s at' k
    have h1 := bt_nonneg s (at' + k)
    have h2 := bt_le s (at' + k)
    rw [wv, Int.pow_succ]
    generalize (256 : Int) ^ k = r at *
    omega
theorem wv_lt4 (s : ByteArray) (at' k : Nat) (h : k < 4) : wv s at' k ≤ 16777215 := by
  have h1 := (wv_lt s at' k).2
  rcases (show k = 0 ∨ k = 1 ∨ k = 2 ∨ k = 3 by omega) with rfl | rfl | rfl | rfl <;> simp at h1 <;> omega
theorem wraps_u32 (n : Int) (h₀ : 0 ≤ n) (h₁ : n < 2 ^ 32) : IntKind.u32.wrap n = n := by rw [IntKind.wrap_u32]; omega
theorem u32_or8 {x y : Int} (h0 : 0 ≤ x) (h1 : x ≤ 16777215) (h2 : 0 ≤ y) (h3 : y ≤ 255) : bits .or .u32 (x * 256) y = x * 256 + y :=
  bits_join .u32 32 (by decide) wraps_u32 8 (x * 256) y (by omega) (by omega) (by omega) h2 (by omega) (by omega)

/-- What reading a word gives. -/
def tkW (s : ByteArray) (a : Int) : Int × Int × Int :=
  if 0 ≤ a ∧ a ≤ (s.size : Int) then if (s.size : Int) - a < 4 then (0, 0, 21) else (wv s a.toNat 4, a + 4, 0) else (0, 0, 1)

set_option maxHeartbeats 1000000 in
theorem takeWord_any (s : ByteArray) (a : Int) (w : World) (hs : s.size ≤ maxLen) :
    Calls Try.prog 23 #[.string s, .int .i64 a] w fun e w' => e = .returned (.tuple #[.int .u32 (tkW s a).1, .int .i64 (tkW s a).2.1, .int .i64 (tkW s a).2.2]) ∧ w = w' := by
  unfold maxLen at hs
  have hb := get_bt s
  by_cases h0 : 0 ≤ a
  · by_cases h1 : a ≤ (s.size : Int)
    · by_cases h2 : (s.size : Int) - a < 4
      · have e : tkW s a = (0, 0, 21) := by rw [tkW, if_pos ⟨h0, h1⟩, if_pos h2]
        rw [e]
        go_enter Try.func23, Try.ntmps23
        go_wp2
        go_ret3
        exact ⟨rfl, rfl⟩
      · have e : tkW s a = (wv s a.toNat 4, a + 4, 0) := by rw [tkW, if_pos ⟨h0, h1⟩, if_neg h2]
        rw [e]
        obtain ⟨at', rfl⟩ := Int.eq_ofNat_of_zero_le h0
        have e2 : (at' : Int).toNat = at' := by omega
        rw [e2]
        clear e e2
        go_enter Try.func23, Try.ntmps23
        go_wp2
        go_loop [7, 22] (fun n i => ∃ k : Nat, k ≤ 4 ∧ i = .int .i64 (k : Int) ∧ n = .int .u32 (wv s at' k)) (fun _ i => 4 - (intOf i).toNat)
        case atStart => exact ⟨0, by omega, rfl, rfl⟩
        case round =>
          obtain ⟨k, hk, rfl, rfl⟩ := hrel
          by_cases h4 : k < 4
          · have b1 := (wv_lt s at' k).1
            have b2 := wv_lt4 s at' k h4
            have c1 := bt_nonneg s (at' + k)
            have c2 := bt_le s (at' + k)
            have ho := u32_or8 b1 b2 c1 c2
            go_wp2
            go_round
            case rel => exact ⟨k + 1, by omega, by go_num, by rw [wv]⟩
            case measure => simp [intOf]; omega
          · have : k = 4 := by omega
            subst this
            go_wp2
            go_ret3
            exact ⟨rfl, rfl⟩
    · have e : tkW s a = (0, 0, 1) := by rw [tkW, if_neg (by omega)]
      rw [e]
      go_enter Try.func23, Try.ntmps23
      go_wp2
      go_ret3
      exact ⟨rfl, rfl⟩
  · have e : tkW s a = (0, 0, 1) := by rw [tkW, if_neg (by omega)]
    rw [e]
    have h2 : a < 0 := by omega
    go_enter Try.func23, Try.ntmps23
    go_wp2
    go_ret3
    exact ⟨rfl, rfl⟩

set_option maxHeartbeats 1000000 in
theorem refWord_any (s : ByteArray) (a : Int) (w : World) (hs : s.size ≤ maxLen) :
    Calls Try.prog 24 #[.string s, .int .i64 a] w fun e w' => e = .returned (.tuple #[.int .u32 (tkW s a).1, .int .i64 (tkW s a).2.1, .int .i64 (tkW s a).2.2]) ∧ w = w' := by
  unfold maxLen at hs
  have hb := get_bt s
  by_cases h0 : 0 ≤ a
  · by_cases h1 : a ≤ (s.size : Int)
    · by_cases h2 : (s.size : Int) - a < 4
      · have e : tkW s a = (0, 0, 21) := by rw [tkW, if_pos ⟨h0, h1⟩, if_pos h2]
        rw [e]
        go_enter Try.func24, Try.ntmps24
        go_wp2
        go_ret3
        exact ⟨rfl, rfl⟩
      · have e : tkW s a = (wv s a.toNat 4, a + 4, 0) := by rw [tkW, if_pos ⟨h0, h1⟩, if_neg h2]
        rw [e]
        obtain ⟨at', rfl⟩ := Int.eq_ofNat_of_zero_le h0
        have e2 : (at' : Int).toNat = at' := by omega
        rw [e2]
        clear e e2
        go_enter Try.func24, Try.ntmps24
        go_wp2
        go_loop [7, 8] (fun n i => ∃ k : Nat, k ≤ 4 ∧ i = .int .i64 (k : Int) ∧ n = .int .i64 (wv s at' k)) (fun _ i => 4 - (intOf i).toNat)
        case atStart => exact ⟨0, by omega, rfl, rfl⟩
        case round =>
          obtain ⟨k, hk, rfl, rfl⟩ := hrel
          by_cases h4 : k < 4
          · have b1 := (wv_lt s at' k).1
            have b2 := wv_lt4 s at' k h4
            have c1 := bt_nonneg s (at' + k)
            have c2 := bt_le s (at' + k)
            go_wp2
            go_round
            case rel => exact ⟨k + 1, by omega, by go_num, by rw [wv]⟩
            case measure => simp [intOf]; omega
          · have : k = 4 := by omega
            subst this
            have b1 := (wv_lt s at' 4).1
            have b2 := (wv_lt s at' 4).2
            simp at b2
            go_wp2
            go_ret3
            exact ⟨rfl, rfl⟩
    · have e : tkW s a = (0, 0, 1) := by rw [tkW, if_neg (by omega)]
      rw [e]
      go_enter Try.func24, Try.ntmps24
      go_wp2
      go_ret3
      exact ⟨rfl, rfl⟩
  · have e : tkW s a = (0, 0, 1) := by rw [tkW, if_neg (by omega)]
    rw [e]
    have h2 : a < 0 := by omega
    go_enter Try.func24, Try.ntmps24
    go_wp2
    go_ret3
    exact ⟨rfl, rfl⟩
end Go.Proofs.Ythkkdbcflfhmaab
