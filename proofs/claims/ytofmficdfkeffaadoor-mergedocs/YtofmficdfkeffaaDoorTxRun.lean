/-
  A text, code point by code point; the contracts of Len, skip and Points.
-/
import Derived.Test.YtofmficdfkeffaaDoorTxPts
namespace Go.Proofs.YtofmficdfkeffaaDoor
open Go.ChangeShapes Go.WideShapes Go.ChangeAt Go.RowKit Go.PlainAid

theorem Tryd.info3 : (Tryd.prog.info? 3).map (fun i => (i.zero, i.size, i.bytes)) = some (some (.int .i64 0), 1, 8) := by kernel_rfl

/-- The place behind so many code points. -/
def pos (s : ByteArray) : Nat → Nat
  | 0 => 0
  | k + 1 => pos s k + (nx s (pos s k)).2.toNat
/-- Code point number k. -/
def pt (s : ByteArray) (k : Nat) : Int := (nx s (pos s k)).1
/-- The first k code points. -/
def ptL (s : ByteArray) (k : Nat) : List Int := (List.range k).map (pt s)
/-- There are k code points at the beginning. -/
def Ok (s : ByteArray) (k : Nat) : Prop := ∀ j, j < k → pos s j < s.size ∧ (nx s (pos s j)).2 ≠ 0
/-- The text is n code points. -/
def Valid (s : ByteArray) (n : Nat) : Prop := Ok s n ∧ pos s n = s.size
/-- Behind k code points there is none, but something. -/
def Bad (s : ByteArray) (k : Nat) : Prop := Ok s k ∧ pos s k < s.size ∧ (nx s (pos s k)).2 = 0

theorem nx_bd (s : ByteArray) (a : Nat) (h : (nx s a).2 ≠ 0) : 1 ≤ (nx s a).2 ∧ (nx s a).2 ≤ 4 ∧ (a : Int) + (nx s a).2 ≤ s.size ∧ szI (nx s a).1 = (nx s a).2 := by
  have hb := fstB_bd (bt s a) (bt_nonneg s a) (bt_le s a)
  unfold nx at h ⊢
  split at h
  · simp at h
  · rename_i h1
    rw [if_neg h1]
    split at h
    · simp at h
    · rename_i v hv
      split at h
      · rename_i h2
        rw [if_pos h2]
        simp only at h ⊢
        omega
      · simp at h

theorem nx_zero (s : ByteArray) (a : Nat) : 0 ≤ (nx s a).2 := by
  by_cases h : (nx s a).2 = 0
  · omega
  · have := nx_bd s a h; omega

theorem pos_succ {s : ByteArray} {k : Nat} (h : (nx s (pos s k)).2 ≠ 0) : ((pos s (k + 1) : Nat) : Int) = (pos s k : Int) + (nx s (pos s k)).2 := by
  have := nx_bd s _ h
  rw [pos]; omega

theorem pos_le {s : ByteArray} {n : Nat} (h : Ok s n) : ∀ k, k ≤ n → k ≤ pos s k ∧ pos s k ≤ s.size
  | 0, _ => by simp [pos]
  | k + 1, hk => by
    have ih := pos_le h k (by omega)
    have h1 := (h k (by omega)).2
    have h2 := nx_bd s _ h1
    have h3 := pos_succ h1
    omega

theorem ok_mono {s : ByteArray} {n k : Nat} (h : Ok s n) (hk : k ≤ n) : Ok s k := fun j hj => h j (by omega)

theorem valid_lt {s : ByteArray} {n k : Nat} (h : Valid s n) (hk : k < n) : pos s k < s.size := (h.1 k hk).1

theorem valid_or_bad (s : ByteArray) : (∃ n, Valid s n) ∨ ∃ k, Bad s k := by
  have step : ∀ f k, Ok s k → s.size - pos s k ≤ f → (∃ n, Valid s n) ∨ ∃ k, Bad s k := by
    intro f
    induction f with
    | zero =>
      intro k hk hf
      have := pos_le hk k (Nat.le_refl _)
      exact .inl ⟨k, hk, by omega⟩
    | succ f ih =>
      intro k hk hf
      have hp := pos_le hk k (Nat.le_refl _)
      by_cases h1 : pos s k = s.size
      · exact .inl ⟨k, hk, h1⟩
      · by_cases h2 : (nx s (pos s k)).2 = 0
        · exact .inr ⟨k, hk, by omega, h2⟩
        · have h3 := nx_bd s _ h2
          have h4 := pos_succ h2
          refine ih (k + 1) (fun j hj => ?_) (by omega)
          by_cases e : j = k
          · subst e; exact ⟨by omega, h2⟩
          · exact hk j (by omega)
  exact step s.size 0 (fun j hj => by omega) (by simp [pos])

theorem not_both {s : ByteArray} {n k : Nat} (h : Valid s n) (hb : Bad s k) : False := by
  rcases Nat.lt_trichotomy k n with h1 | h1 | h1
  · exact (h.1 k h1).2 hb.2.2
  · subst h1; have := h.2; have := hb.2.1; omega
  · have := (hb.1 n h1).1; have := h.2; omega

set_option maxRecDepth 20000 in
set_option maxHeartbeats 1000000 in
theorem len_ok (s : ByteArray) (n : Nat) (w : World) (hs : s.size ≤ maxLen) (hv : Valid s n) :
    Calls Tryd.prog 41 #[.string s] w fun e w' => e = .returned (.int .i64 (n : Int)) ∧ w = w' := by
  have hs' := hs
  unfold maxLen at hs
  have hnp := pos_le hv.1 n (Nat.le_refl _)
  go_enter Tryd.func41, Tryd.ntmps41
  go_wp2
  go_loop [3, 4] (fun c t => ∃ k : Nat, k ≤ n ∧ c = .int .i64 (k : Int) ∧ t = .int .i64 (pos s k : Int)) (fun c _ => n - (intOf c).toNat)
  case atStart => exact ⟨0, by omega, rfl, rfl⟩
  case round =>
    obtain ⟨k, hk, rfl, rfl⟩ := hrel
    by_cases hlt : k < n
    · have h1 := hv.1 k hlt
      have h2 := nx_bd s _ h1.2
      have HP : Hid (((pos s (k + 1) : Nat) : Int) = (pos s k : Int) + (nx s (pos s k)).2) := pos_succ h1.2
      have hc := next_any s (pos s k) w hs' h1.1
      have hlt2 := h1.1
      have hne : ((nx s (pos s k)).2 == 0) = false := by simpa using h1.2
      clear h1
      generalize pos s k = a at *
      generalize nx s a = r at *
      obtain ⟨r1, r2⟩ := r
      simp only at hc h2 HP hne
      go_wp2_with (go_at_call 69; refine hc.mono ?_; rintro e w1 ⟨rfl, rfl⟩)
      go_round
      case rel => exact ⟨k + 1, by omega, by go_num, by rw [HP.out]⟩
      case measure => simp [intOf]; omega
    · have e : k = n := by omega
      subst e
      have e2 : ¬ (pos s k : Int) < (s.size : Int) := by rw [hv.2]; omega
      go_wp2
      go_ret
      exact ⟨rfl, rfl⟩

set_option maxRecDepth 20000 in
set_option maxHeartbeats 1000000 in
theorem len_bad (s : ByteArray) (n : Nat) (w : World) (hs : s.size ≤ maxLen) (hv : Bad s n) :
    Calls Tryd.prog 41 #[.string s] w fun e w' => e = .returned (.int .i64 (-1)) ∧ w = w' := by
  have hs' := hs
  unfold maxLen at hs
  have hnp := pos_le hv.1 n (Nat.le_refl _)
  go_enter Tryd.func41, Tryd.ntmps41
  go_wp2
  go_loop [3, 4] (fun c t => ∃ k : Nat, k ≤ n ∧ c = .int .i64 (k : Int) ∧ t = .int .i64 (pos s k : Int)) (fun c _ => n + 1 - (intOf c).toNat)
  case atStart => exact ⟨0, by omega, rfl, rfl⟩
  case round =>
    obtain ⟨k, hk, rfl, rfl⟩ := hrel
    by_cases hlt : k < n
    · have h1 := hv.1 k hlt
      have h2 := nx_bd s _ h1.2
      have HP : Hid (((pos s (k + 1) : Nat) : Int) = (pos s k : Int) + (nx s (pos s k)).2) := pos_succ h1.2
      have hc := next_any s (pos s k) w hs' h1.1
      have hlt2 := h1.1
      have hne : ((nx s (pos s k)).2 == 0) = false := by simpa using h1.2
      clear h1
      generalize pos s k = a at *
      generalize nx s a = r at *
      obtain ⟨r1, r2⟩ := r
      simp only at hc h2 HP hne
      go_wp2_with (go_at_call 69; refine hc.mono ?_; rintro e w1 ⟨rfl, rfl⟩)
      go_round
      case rel => exact ⟨k + 1, by omega, by go_num, by rw [HP.out]⟩
      case measure => simp [intOf]; omega
    · have e : k = n := by omega
      subst e
      obtain ⟨_, hlt2, hz⟩ := hv
      have hc := next_any s (pos s k) w hs' hlt2
      rw [hz] at hc
      go_wp2_with (go_at_call 69; refine hc.mono ?_; rintro e w1 ⟨rfl, rfl⟩)
      go_ret
      exact ⟨rfl, rfl⟩

/-- Numbers as the cells of a row. -/
def iv (l : List Int) : List Value := l.map (Value.int .i64)
theorem iv_length (l : List Int) : (iv l).length = l.length := by simp [iv]
theorem iv_append (a b : List Int) : iv (a ++ b) = iv a ++ iv b := by simp [iv]
theorem ptL_length (s : ByteArray) (k : Nat) : (ptL s k).length = k := by simp [ptL]
theorem ptL_succ (s : ByteArray) (k : Nat) : ptL s (k + 1) = ptL s k ++ [pt s k] := by simp [ptL, List.range_succ]

theorem own_snocI {w1 : World} {base e n : Nat} {v' : Value} {L : List Int} {x : Int} (h : w1.ownsRow base e 1 v' (n + 1) (iv L ++ [.int .i64 x])) :
    w1.ownsRow base e 1 v' (n + 1) (iv (L ++ [x])) := by
  rw [iv_append]
  simpa [iv] using h

theorem points_bad (s : ByteArray) (n : Nat) (w : World) (hs : s.size ≤ maxLen) (hv : Bad s n) :
    Calls Tryd.prog 44 #[.string s] w fun e w' => e = .returned (.tuple #[.slice none 0 0, .bool false]) ∧ w = w' := by
  have hc := len_bad s n w hs hv
  go_enter Tryd.func44, Tryd.ntmps44
  go_wp2_with (go_at_call 41; refine hc.mono ?_; rintro e w1 ⟨rfl, rfl⟩)
  go_ret2
  exact ⟨rfl, rfl⟩

set_option maxRecDepth 20000 in
set_option maxHeartbeats 2000000 in
theorem points_ok (s : ByteArray) (n : Nat) (w : World) (hs : s.size ≤ 8796093022208) (hv : Valid s n) :
    Calls Tryd.prog 44 #[.string s] w fun e w' => ∃ v, e = .returned (.tuple #[v, .bool true]) ∧ w'.ownsRow w.heap.size 3 1 v n (iv (ptL s n)) ∧ Below w.heap.size w w' := by
  have hs' : s.size ≤ maxLen := by unfold maxLen; omega
  have hnp := pos_le hv.1 n (Nat.le_refl _)
  obtain ⟨i0, hi, hz0, hz1, hz2⟩ := info_parts Tryd.info3
  have hcl := len_ok s n w hs' hv
  go_enter Tryd.func44, Tryd.ntmps44
  go_wp2_with (first | (go_at_call 41; refine hcl.mono ?_; rintro e w1 ⟨rfl, rfl⟩) | (refine wpList_make_own _ rfl _ (.tmp 13) 76 rfl w.heap.size 3 i0 (.int .i64 0) 1 Tryd.underlying76 hi hz0 hz1 .i64 .i64 (n : Int) n rfl rfl rfl (by rw [hz2]; omega) (by unfold maxLen; omega) (Nat.le_refl _) ?_; intro w2 ho2 hg2))
  have hb2 : Below w.heap.size w w2 := ⟨hg2.os, hg2.tape, hg2.output, hg2.size, fun k hk => hg2.block k hk (by simp)⟩
  clear hcl hg2
  go_loopw [5, 6] (fun v t wr => ∃ k : Nat, k ≤ n ∧ t = .int .i64 (pos s k : Int) ∧ wr.ownsRow w.heap.size 3 1 v k (iv (ptL s k)) ∧ Below w.heap.size w wr) (fun _ t _ => s.size - (intOf t).toNat)
  case atStart => exact ⟨0, by omega, rfl, ho2, hb2⟩
  case round =>
    obtain ⟨k, hk, rfl, hown, hbl⟩ := hrel
    have hsz := hbl.size
    by_cases hlt : k < n
    · have h1 := hv.1 k hlt
      have h2 := nx_bd s _ h1.2
      have HP : Hid (((pos s (k + 1) : Nat) : Int) = (pos s k : Int) + (nx s (pos s k)).2 ∧ ptL s (k + 1) = ptL s k ++ [(nx s (pos s k)).1]) := ⟨pos_succ h1.2, ptL_succ s k⟩
      have hc := next_any s (pos s k) wr hs' h1.1
      have hlt2 := h1.1
      clear h1 ho2
      generalize pos s k = a at *
      generalize nx s a = r at *
      obtain ⟨r1, r2⟩ := r
      simp only at hc h2 HP
      go_wp2_with (first | (go_at_call 69; refine hc.mono ?_; rintro e w1 ⟨rfl, rfl⟩) | (at_builtin; refine wpList_append_own _ rfl (.tmp 25) (.tmp 27) 76 rfl w.heap.size 3 i0 (.int .i64 0) 1 8 Tryd.underlying76 hi hz0 hz1 hz2 rfl (by decide) _ _ _ rfl (hown.alloc _) ⟨_, 0, none⟩ 1 1 [.int .i64 r1] rfl rfl (one_new _ _ _) (one_one _ rfl) (by unfold maxLen; omega) (by omega) (by simp; omega) ?_; intro v' w3 ho3 hg3 hnil3))
      have R1 := own_snocI ho3
      have R2 := below_app (Nat.le_refl _) hbl hown hg3
      rw [← HP.out.2] at R1
      clear ho3 hg3 hown hnil3 hc
      go_roundw
      case rel => exact ⟨k + 1, by omega, by rw [HP.out.1], R1, R2⟩
      case measure => simp [intOf]; omega
    · have e : k = n := by omega
      subst e
      have e2 : ¬ (pos s k : Int) < (s.size : Int) := by rw [hv.2]; omega
      clear ho2
      go_wp2
      go_ret2
      exact ⟨_, rfl, hown, hbl⟩
end Go.Proofs.YtofmficdfkeffaaDoor
