/-
  A text, code point by code point; the contracts of Len, skip and Points.
-/
import Derived.Test.YtaopfdgebibpeaaTxPts
namespace Go.Proofs.Ytaopfdgebibpeaa
open Go.ChangeShapes Go.WideShapes Go.ChangeAt Go.RowKit Go.PlainAid

theorem Try.info3 : (Try.prog.info? 3).map (fun i => (i.zero, i.size, i.bytes)) = some (some (.int .i64 0), 1, 8) := by kernel_rfl

/-- The place behind so many code points. -/
def pos (s : ByteArray) : Nat → Nat
  | 0 => 0
  | k + 1 => pos s k + (nx s (pos s k)).2.toNat
/-- Code point number k. -/
def pt (s : ByteArray) (k : Nat) : Int := (nx s (pos s k)).1
/-- The first k code points. -/
def ptL (s : ByteArray) (k : Nat) : List Int := (List.range k).map (pt s)
/-- There are k code points at the beginning. -/
def Ok (s : ByteArray) (k : Nat) : Prop := ∀ j, j < k → pos s j < s.size ∧ (nx s (pos s j)).2 ≠ 0
/-- The text is n code points. -/
def Valid (s : ByteArray) (n : Nat) : Prop := Ok s n ∧ pos s n = s.size
/-- Behind k code points there is none, but something. -/
def Bad (s : ByteArray) (k : Nat) : Prop := Ok s k ∧ pos s k < s.size ∧ (nx s (pos s k)).2 = 0

theorem nx_bd (s : ByteArray) (a : Nat) (h : (nx s a).2 ≠ 0) : 1 ≤ (nx s a).2 ∧ (nx s a).2 ≤ 4 ∧ (a : Int) + (nx s a).2 ≤ s.size ∧ szI (nx s a).1 = (nx s a).2 := by
  have hb := fstB_bd (bt s a) (bt_nonneg s a) (bt_le s a)
  unfold nx at h ⊢
  split at h
  · simp at h
  · rename_i h1
    rw [if_neg h1]
    split at h
    · simp at h
    · rename_i v hv
      split at h
      · rename_i h2
        rw [if_pos h2]
        simp only at h ⊢
        omega
      · simp at h

theorem nx_zero (s : ByteArray) (a : Nat) : 0 ≤ (nx s a).2 := by
  by_cases h : (nx s a).2 = 0
  · omega
  · have := nx_bd s a h; omega

theorem pos_succ {s : ByteArray} {k : Nat} (h : (nx s (pos s k)).2 ≠ 0) : ((pos s (k + 1) : Nat) : Int) = (pos s k : Int) + (nx s (pos s k)).2 := by
  have := nx_bd s _ h
  rw [pos]; omega

theorem pos_le {s : ByteArray} {n : Nat} (h : Ok s n) : ∀ k, k ≤ n → k ≤ pos s k ∧ pos s k ≤ s.size
  | 0, _ => by simp [pos]
  | k + 1, hk => by
    have ih := pos_le h k (by omega)
    have h1 := (h k (by omega)).2
    have h2 := nx_bd s _ h1
    have h3 := pos_succ h1
    omega

theorem ok_mono {s : ByteArray} {n k : Nat} (h : Ok s n) (hk : k ≤ n) : Ok s k := fun j hj => h j (by omega)

theorem valid_lt {s : ByteArray} {n k : Nat} (h : Valid s n) (hk : k < n) : pos s k < s.size := (h.1 k hk).1

theorem valid_or_bad (s : ByteArray) : (∃ n, Valid s n) ∨ ∃ k, Bad s k := by
  have step : ∀ f k, Ok s k → s.size - pos s k ≤ f → (∃ n, Valid s n) ∨ ∃ k, Bad s k := by
    intro f
    induction f with
    | zero =>
      intro k hk hf
      have := pos_le hk k (Nat.le_refl _)
      exact .inl ⟨k, hk, by omega⟩
    | succ f ih =>
      intro k hk hf
      have hp := pos_le hk k (Nat.le_refl _)
      by_cases h1 : pos s k = s.size
      · exact .inl ⟨k, hk, h1⟩
      · by_cases h2 : (nx s (pos s k)).2 = 0
        · exact .inr ⟨k, hk, by omega, h2⟩
        · have h3 := nx_bd s _ h2
          have h4 := pos_succ h2
          refine ih (k + 1) (fun j hj => ?_) (by omega)
          by_cases e : j = k
          · subst e; exact ⟨by omega, h2⟩
          · exact hk j (by omega)
  exact step s.size 0 (fun j hj => by omega) (by simp [pos])

theorem not_both {s : ByteArray} {n k : Nat} (h : Valid s n) (hb : Bad s k) : False := by
  rcases Nat.lt_trichotomy k n with h1 | h1 | h1
  · exact (h.1 k h1).2 hb.2.2
  · subst h1; have := h.2; have := hb.2.1; omega
  · have := (hb.1 n h1).1; have := h.2; omega

set_option maxRecDepth 20000 in
set_option maxHeartbeats 1000000 in
theorem len_ok (s : ByteArray) (n : Nat) (w : World) (hs : s.size ≤ maxLen) (hv : Valid s n) :
    Calls Try.prog 49 #[.string s] w fun e w' => e = .returned (.int .i64 (n : Int)) ∧ w = w' := by
  have hs' := hs
  unfold maxLen at hs
  have hnp := pos_le hv.1 n (Nat.le_refl _)
  go_enter Try.func49, Try.ntmps49
  go_wp2
  go_loop [3, 4] (fun c t => ∃ k : Nat, k ≤ n ∧ c = .int .i64 (k : Int) ∧ t = .int .i64 (pos s k : Int)) (fun c _ => n - (intOf c).toNat)
  case atStart => exact ⟨0, by omega, rfl, rfl⟩
  case round =>
    obtain ⟨k, hk, rfl, rfl⟩ := hrel
    by_cases hlt : k < n
    · have h1 := hv.1 k hlt
      have h2 := nx_bd s _ h1.2
      have HP : Hid (((pos s (k + 1) : Nat) : Int) = (pos s k : Int) + (nx s (pos s k)).2) := pos_succ h1.2
      have hc := next_any s (pos s k) w hs' h1.1
      have hlt2 := h1.1
      have hne : ((nx s (pos s k)).2 == 0) = false := by simpa using h1.2
      clear h1
      generalize pos s k = a at *
      generalize nx s a = r at *
      obtain ⟨r1, r2⟩ := r
      simp only at hc h2 HP hne
      go_wp2_with (go_at_call 50; refine hc.mono ?_; rintro e w1 ⟨rfl, rfl⟩)
      go_round
      case rel => exact ⟨k + 1, by omega, by go_num, by rw [HP.out]⟩
      case measure => simp [intOf]; omega
    · have e : k = n := by omega
      subst e
      have e2 : ¬ (pos s k : Int) < (s.size : Int) := by rw [hv.2]; omega
      go_wp2
      go_ret
      exact ⟨rfl, rfl⟩

set_option maxRecDepth 20000 in
set_option maxHeartbeats 1000000 in
theorem len_bad (s : ByteArray) (n : Nat) (w : World) (hs : s.size ≤ maxLen) (hv : Bad s n) :
    Calls Try.prog 49 #[.string s] w fun e w' => e = .returned (.int .i64 (-1)) ∧ w = w' := by
  have hs' := hs
  unfold maxLen at hs
  have hnp := pos_le hv.1 n (Nat.le_refl _)
  go_enter Try.func49, Try.ntmps49
  go_wp2
  go_loop [3, 4] (fun c t => ∃ k : Nat, k ≤ n ∧ c = .int .i64 (k : Int) ∧ t = .int .i64 (pos s k : Int)) (fun c _ => n + 1 - (intOf c).toNat)
  case atStart => exact ⟨0, by omega, rfl, rfl⟩
  case round =>
    obtain ⟨k, hk, rfl, rfl⟩ := hrel
    by_cases hlt : k < n
    · have h1 := hv.1 k hlt
      have h2 := nx_bd s _ h1.2
      have HP : Hid (((pos s (k + 1) : Nat) : Int) = (pos s k : Int) + (nx s (pos s k)).2) := pos_succ h1.2
      have hc := next_any s (pos s k) w hs' h1.1
      have hlt2 := h1.1
      have hne : ((nx s (pos s k)).2 == 0) = false := by simpa using h1.2
      clear h1
      generalize pos s k = a at *
      generalize nx s a = r at *
      obtain ⟨r1, r2⟩ := r
      simp only at hc h2 HP hne
      go_wp2_with (go_at_call 50; refine hc.mono ?_; rintro e w1 ⟨rfl, rfl⟩)
      go_round
      case rel => exact ⟨k + 1, by omega, by go_num, by rw [HP.out]⟩
      case measure => simp [intOf]; omega
    · have e : k = n := by omega
      subst e
      obtain ⟨_, hlt2, hz⟩ := hv
      have hc := next_any s (pos s k) w hs' hlt2
      rw [hz] at hc
      go_wp2_with (go_at_call 50; refine hc.mono ?_; rintro e w1 ⟨rfl, rfl⟩)
      go_ret
      exact ⟨rfl, rfl⟩

/-- Numbers as the cells of a row. -/
def iv (l : List Int) : List Value := l.map (Value.int .i64)
theorem iv_length (l : List Int) : (iv l).length = l.length := by simp [iv]
theorem iv_append (a b : List Int) : iv (a ++ b) = iv a ++ iv b := by simp [iv]
theorem ptL_length (s : ByteArray) (k : Nat) : (ptL s k).length = k := by simp [ptL]
theorem ptL_succ (s : ByteArray) (k : Nat) : ptL s (k + 1) = ptL s k ++ [pt s k] := by simp [ptL, List.range_succ]

theorem own_snocI {w1 : World} {base e n : Nat} {v' : Value} {L : List Int} {x : Int} (h : w1.ownsRow base e 1 v' (n + 1) (iv L ++ [.int .i64 x])) :
    w1.ownsRow base e 1 v' (n + 1) (iv (L ++ [x])) := by
  rw [iv_append]
  simpa [iv] using h


end Go.Proofs.Ytaopfdgebibpeaa
