/-
  Contracts: pack.Word, pack.appendNum, pack.Num.
-/
import Derived.Test.YtaopfdgebibpeaaTxTxtTxTxt2
import Derived.WalkLawsBesides
import Derived.Handy
import Derived.Outline
namespace Go.Proofs.Ytaopfdgebibpeaa.pk
open Go.Proofs.Ytaopfdgebibpeaa
open Go.ChangeShapes Go.WideShapes Go.ChangeAt Go.RowKit

set_option maxRecDepth 20000 in
set_option maxHeartbeats 1000000 in
theorem appendNum_any (base : Nat) (v : Value) (l : List UInt8) (N : Nat) (w : World) (hb : base ≤ w.heap.size) (hN : N ≤ 1125899906842624) (hl : l.length ≤ 70368744177664)
    (hown : w.ownsRow base 5 1 v l.length (bv l)) :
    Calls Try.prog 41 #[v, .int .i64 (N : Int)] w fun e w' => ∃ v', e = .returned v' ∧ w'.ownsRow base 5 1 v' (l ++ numB N).length (bv (l ++ numB N)) ∧ Below base w w' := by
  obtain ⟨i0, hi, hz0, hz1, hz2⟩ := info_parts Try.info5
  go_enter Try.func41, Try.ntmps41
  go_wp2
  go_loopw [0, 1] (fun v i wr => ∃ (m : Nat) (pre : List UInt8), i = .int .i64 (m : Int) ∧ m ≤ 1125899906842624 ∧ pre ++ numB m = numB N ∧ wr.ownsRow base 5 1 v (l ++ pre).length (bv (l ++ pre)) ∧ Below base w wr)
    (fun _ i _ => (intOf i).toNat)
  case atStart => exact ⟨N, [], rfl, hN, rfl, by simpa using hown, Below.refl _ _⟩
  case round =>
    obtain ⟨m, pre, rfl, hm, hpre, hown', hbl⟩ := hrel
    have hm' : (m : Int) ≤ 1125899906842624 := by omega
    have hlen : (l ++ pre).length ≤ 70368744177674 := by have := congrArg List.length hpre; have := numB_len (n := N); simp at *; omega
    have hsz := hbl.size
    by_cases hlt : 127 < (m : Int)
    · have ha := i64_and127 (x := (m : Int)) (by omega) hm'
      have ho := u8_or128' (y := (m : Int) % 128) (by omega) (by omega)
      go_wp2_with (first | (at_builtin; refine wpList_append_own _ rfl (.tmp 7) (.tmp 12) 54 rfl base 5 i0 (.int .u8 0) 1 1 Try.underlying54 hi hz0 hz1 hz2 rfl (by decide) _ _ _ rfl (hown'.alloc _) ⟨wr.heap.size, 0, none⟩ 1 1 [.int .u8 (128 + (m : Int) % 128)] rfl rfl (one_new _ _ _) (one_one _ rfl) (by unfold maxLen; omega) (by omega) (by simp; omega) ?_) | go_in)
      · intro v' w1 hown1 hgrow _
        have R1 : w1.ownsRow base 5 1 v' (l ++ (pre ++ [UInt8.ofNat (128 + m % 128)])).length (bv (l ++ (pre ++ [UInt8.ofNat (128 + m % 128)]))) := by
          rw [← List.append_assoc]
          exact own_snoc hown1 (by simp) (by rw [byte_nat _ (by omega)]; omega)
        have R2 := below_app hb hbl hown' hgrow
        have R3 : Hid ((pre ++ [UInt8.ofNat (128 + m % 128)]) ++ numB (m / 128) = numB N) := by
          show _ = _
          rw [← hpre, numB_high (n := m) (by omega) hm]; simp
        clear hown1 hgrow hown' ha ho
        go_wp2
        go_roundw
        case rel => exact ⟨m / 128, _, by go_num, by omega, R3.out, R1, R2⟩
        case measure => simp [intOf]; omega
    · go_wp2_with (first | (at_builtin; refine wpList_append_own _ rfl (.tmp 16) (.tmp 19) 54 rfl base 5 i0 (.int .u8 0) 1 1 Try.underlying54 hi hz0 hz1 hz2 rfl (by decide) _ _ _ rfl (hown'.alloc _) ⟨wr.heap.size, 0, none⟩ 1 1 [.int .u8 (m : Int)] rfl rfl (one_new _ _ _) (one_one _ rfl) (by unfold maxLen; omega) (by omega) (by simp; omega) ?_) | go_in)
      · intro v' w1 hown1 hgrow _
        have R1 : w1.ownsRow base 5 1 v' (l ++ numB N).length (bv (l ++ numB N)) := by
          rw [← hpre, numB_low (n := m) (by omega), ← List.append_assoc]
          exact own_snoc hown1 (by simp) (by rw [byte_nat _ (by omega)])
        have R2 := below_app hb hbl hown' hgrow
        clear hown1 hgrow hown'
        go_wp2
        go_ret
        exact ⟨_, rfl, R1, R2⟩

/-- pack.Num of a number that may be written. -/
theorem num_ok (N : Nat) (w : World) (hN : N ≤ 1125899906842624) :
    Calls Try.prog 31 #[.int .i64 (N : Int)] w fun e w' => e = .returned (.tuple #[.string (mk (numB N)), .int .i64 0]) ∧ Below w.heap.size w w' := by
  have h1 : (N : Int) ≤ 1125899906842624 := by omega
  go_enter Try.func31, Try.ntmps31
  go_wp2_with (go_at_call 41; refine (appendNum_any w.heap.size _ [] N _ (Nat.le_refl _) hN (by simp) (World.ownsRow_nil _ _ _ _)).mono ?_; rintro e w' ⟨v', rfl, hown, hbl⟩; have hc := conv_own (dst := 9) Try.underlying54 Try.underlying5 Try.underlying9 hown; clear hown)
  go_ret2
  exact ⟨rfl, by assumption⟩
theorem num_no (n : Int) (w : World) (h : n < 0 ∨ 1125899906842624 < n) :
    Calls Try.prog 31 #[.int .i64 n] w fun e w' => e = .returned (.tuple #[.string ⟨#[]⟩, .int .i64 20]) ∧ Below w.heap.size w w' := by
  rcases h with h | h
  · go_enter Try.func31, Try.ntmps31
    go_wp2
    go_ret2
    exact ⟨rfl, Below.refl _ _⟩
  · have h0 : ¬ n < 0 := by omega
    go_enter Try.func31, Try.ntmps31
    go_wp2
    go_ret2
    exact ⟨rfl, Below.refl _ _⟩
end Go.Proofs.Ytaopfdgebibpeaa.pk
