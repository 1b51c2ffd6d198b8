/-
  Contracts: the reference's Num, Text, List, Word.
-/
import Derived.Test.YtdheddgdlindmaaPkWrites
namespace Go.Proofs.Ytdheddgdlindmaa.pk
open Go.Proofs.Ytdheddgdlindmaa
open Go.ChangeShapes Go.WideShapes Go.ChangeAt Go.RowKit Go.PlainAid

theorem conv_one (x : Int) (h0 : 0 ≤ x) (h1 : x < 256) (u : World) : (convert 52 9 (Value.slice (some { block := u.heap.size, off := 0 }) 1 1)).run Try.prog (u.alloc (Obj.cells #[Value.int IntKind.u8 x] 5)) = .ok (.string (mk [UInt8.ofNat x.toNat])) (u.alloc (Obj.cells #[Value.int IntKind.u8 x] 5)) :=
  run_convert_bytes_back _ 52 9 5 ⟨u.heap.size, 0, none⟩ 1 [UInt8.ofNat x.toNat] Try.underlying52 Try.underlying5 Try.underlying9 (fun j hj => by
    have e0 := byte_val x h0 h1
    match j, hj with
    | 0, _ => simp only [List.getElem_cons_zero, e0]; simp [Addr.add])

theorem conv_byte (x : Nat) (y : Int) (hy : (x : Int) = y) (h1 : x < 256) : ∃ b : UInt8, b = UInt8.ofNat x ∧ ∀ u : World, (convert 52 9 (Value.slice (some { block := u.heap.size, off := 0 }) 1 1)).run Try.prog (u.alloc (Obj.cells #[Value.int IntKind.u8 y] 5)) = .ok (.string (mk [b])) (u.alloc (Obj.cells #[Value.int IntKind.u8 y] 5)) := by
  refine ⟨_, rfl, fun u => ?_⟩
  have := conv_one y (by omega) (by omega) u
  rwa [show y.toNat = x by omega] at this

theorem add_mk (a b : List UInt8) (W : World) (h : a.length + b.length ≤ 9223372036854775807) : (Op.stringOp .add (mk a) (mk b)).run Try.prog W = .ok (.string (mk (a ++ b))) W := by
  rw [run_string_add_sum W _ _ (by rw [mk_size, mk_size]; exact h)]
  congr 2

theorem refNumW_no (n : Int) (w : World) (h : n < 0 ∨ 1125899906842624 < n) :
    Calls Try.prog 56 #[.int .i64 n] w fun e w' => e = .returned (.tuple #[.string ⟨#[]⟩, .int .i64 20]) ∧ Below w.heap.size w w' := by
  rcases h with h | h
  · go_enter Try.func56, Try.ntmps56
    go_wp2
    go_ret2
    exact ⟨rfl, Below.refl _ _⟩
  · have h0 : ¬ n < 0 := by omega
    go_enter Try.func56, Try.ntmps56
    go_wp2
    go_ret2
    exact ⟨rfl, Below.refl _ _⟩

theorem mk_nil : mk [] = ⟨#[]⟩ := rfl

set_option maxRecDepth 20000 in
set_option maxHeartbeats 1000000 in
theorem refNumW_ok (N : Nat) (w : World) (hN : N ≤ 1125899906842624) :
    Calls Try.prog 56 #[.int .i64 (N : Int)] w fun e w' => e = .returned (.tuple #[.string (mk (numB N)), .int .i64 0]) ∧ Below w.heap.size w w' := by
  have h1 : (N : Int) ≤ 1125899906842624 := by omega
  have hl := numB_len (n := N)
  go_enter Try.func56, Try.ntmps56
  go_wp2
  go_loopw [0, 4] (fun i t wr => ∃ (m : Nat) (pre : List UInt8), i = .int .i64 (m : Int) ∧ t = .string (mk pre) ∧ m ≤ 1125899906842624 ∧ Hid (pre ++ numB m = numB N) ∧ pre.length ≤ 10 ∧ Below w.heap.size w wr)
    (fun i _ _ => (intOf i).toNat)
  case atStart => exact ⟨N, [], rfl, rfl, hN, rfl, by simp, Below.refl _ _⟩
  case round =>
    obtain ⟨m, pre, rfl, rfl, hm, HP, hpl, hbl⟩ := hrel
    have hm' : (m : Int) ≤ 1125899906842624 := by omega
    by_cases hlt : (128 : Int) ≤ (m : Int)
    · obtain ⟨b, hb, hc⟩ := conv_byte (128 + m % 128) (128 + (m : Int) % 128) (by omega) (by omega)
      obtain ⟨T, hT, ha⟩ : ∃ T, T = mk (pre ++ [b]) ∧ ∀ W, (Op.stringOp .add (mk pre) (mk [b])).run Try.prog W = .ok (.string T) W := ⟨_, rfl, fun W => add_mk pre [b] W (by simp; omega)⟩
      have HR : Hid ((pre ++ [b]) ++ numB (m / 128) = numB N ∧ (pre ++ [b]).length ≤ 10 ∧ T = mk (pre ++ [b])) := by
        have e := numB_high (n := m) (by omega) hm
        have e3 : (pre ++ [b]) ++ numB (m / 128) = numB N := by rw [← HP.out, e, hb]; simp
        refine ⟨e3, ?_, hT⟩
        have := congrArg List.length e3
        rw [List.length_append] at this
        omega
      clear HP hb hT
      go_wp2
      go_roundw
      case rel => exact ⟨m / 128, _, by go_num, by rw [HR.out.2.2], by omega, HR.out.1, HR.out.2.1, hbl.alloc hbl.size _⟩
      case measure => simp [intOf]; omega
    · obtain ⟨b, hb, hc⟩ := conv_byte m (m : Int) (by omega) (by omega)
      obtain ⟨T, hT, ha⟩ : ∃ T, T = mk (pre ++ [b]) ∧ ∀ W, (Op.stringOp .add (mk pre) (mk [b])).run Try.prog W = .ok (.string T) W := ⟨_, rfl, fun W => add_mk pre [b] W (by simp; omega)⟩
      have HR : Hid (T = mk (numB N)) := by
        show _ = _
        rw [hT, ← HP.out, numB_low (n := m) (by omega), hb]
      clear HP hb hT
      go_wp2
      go_ret2
      exact ⟨by rw [← HR.out]; rfl, hbl.alloc hbl.size _⟩

theorem refTextW_any (s : ByteArray) (w : World) (hs : s.size ≤ maxLen) :
    Calls Try.prog 57 #[.string s] w fun e w' => e = .returned (.tuple #[.string (textR s).1, .int .i64 (textR s).2]) ∧ Below w.heap.size w w' := by
  unfold maxLen at hs
  by_cases h : s.size ≤ 20000
  · have e : textR s = (mk (textB s), 0) := by rw [textR, if_pos h]
    rw [e]
    have hl := numB_len (n := s.size)
    have ha : ∀ W, (Op.stringOp .add (mk (numB s.size)) s).run Try.prog W = .ok (.string (mk (textB s))) W := fun W => by
      have := add_mk (numB s.size) s.data.toList W (by rw [data_len]; omega)
      rwa [mk_data] at this
    go_enter Try.func57, Try.ntmps57
    go_wp2_with (go_at_call 56; refine (refNumW_ok s.size _ (by omega)).mono ?_; rintro e w' ⟨rfl, hbl⟩)
    go_ret2
    exact ⟨rfl, by assumption⟩
  · have e : textR s = (⟨#[]⟩, 2) := by rw [textR, if_neg h]
    rw [e]
    go_enter Try.func57, Try.ntmps57
    go_wp2
    go_ret2
    exact ⟨rfl, Below.refl _ _⟩

end Go.Proofs.Ytdheddgdlindmaa.pk
