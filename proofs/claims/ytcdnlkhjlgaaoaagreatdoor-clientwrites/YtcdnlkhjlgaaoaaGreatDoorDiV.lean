/-
  utf8.ValidString's answer and the length of a text. No walk.
-/
import Derived.Test.YtcdnlkhjlgaaoaaGreatDoorOtA
import Derived.Lib.ValidLaws
import Derived.Lib.MapLaws
namespace Go.Proofs.YtcdnlkhjlgaaoaaGreatDoor
open Go.RowKit Go.PlainAid

theorem ptB_rune (n : Nat) (h : szI (n : Int) ≠ 0) : Lib.encodeRune (n : Int) = ptB n := by
  have hb := szI_nonneg h
  unfold szI at h
  unfold Lib.encodeRune Lib.encodeRuneZ ptB
  by_cases c1 : n < 128
  · rw [if_pos (by omega), if_pos c1]
    simp
  · by_cases c2 : n < 2048
    · rw [if_neg (by omega), if_pos (by omega), if_neg c1, if_pos c2]
      simp only [List.map_cons, List.map_nil, show (192 + (n : Int) / 64).toNat = 192 + n / 64 by omega, show (128 + (n : Int) % 64).toNat = 128 + n % 64 by omega]
    · by_cases c3 : n < 65536
      · have hg : (2048 ≤ (n : Int) ∧ (n : Int) < 55296) ∨ (57343 < (n : Int) ∧ (n : Int) ≤ 65535) := by
          by_cases q : (n : Int) < 55296
          · left; omega
          · right
            refine ⟨?_, by omega⟩
            by_cases q2 : (n : Int) ≤ 57343
            · rw [if_pos (by omega)] at h; exact absurd rfl h
            · omega
        rw [if_neg (by omega), if_neg (by omega), if_pos hg, if_neg c1, if_neg c2, if_pos c3]
        simp only [List.map_cons, List.map_nil, show (224 + (n : Int) / 4096).toNat = 224 + n / 4096 by omega, show (128 + (n : Int) / 64 % 64).toNat = 128 + n / 64 % 64 by omega, show (128 + (n : Int) % 64).toNat = 128 + n % 64 by omega]
      · have hx : (n : Int) ≤ 1114111 := by
          by_cases q : (n : Int) ≤ 1114111
          · exact q
          · rw [if_pos (by omega)] at h; exact absurd rfl h
        rw [if_neg (by omega), if_neg (by omega), if_neg (by omega), if_pos (by omega), if_neg c1, if_neg c2, if_neg c3]
        simp only [List.map_cons, List.map_nil, show (240 + (n : Int) / 262144).toNat = 240 + n / 262144 by omega, show (128 + (n : Int) / 4096 % 64).toNat = 128 + n / 4096 % 64 by omega, show (128 + (n : Int) / 64 % 64).toNat = 128 + n / 64 % 64 by omega, show (128 + (n : Int) % 64).toNat = 128 + n % 64 by omega]

theorem at_take {s : ByteArray} {a w : Nat} {F : List UInt8} (h : (s.data.toList.drop a).take w = F) (hw : w ≤ s.size - a) (ha : a < s.size) : At s a F := by
  have hl : F.length = w := by
    rw [← h, List.length_take, List.length_drop, ← Lib.size_eq]
    omega
  refine ⟨by omega, fun i hi => ?_⟩
  have e : F[i]? = s.data.toList[a + i]? := by rw [← h, List.getElem?_take_of_lt (by omega), List.getElem?_drop]
  rw [List.getElem?_eq_getElem hi] at e
  have hlt : a + i < s.data.toList.length := by rw [← Lib.size_eq]; omega
  rw [List.getElem?_eq_getElem hlt] at e
  rw [bt_data s (a + i) (by omega), Option.some.inj e]

/-- What is decoded well is a code point. -/
theorem dec_ok {s : ByteArray} {a : Nat} (ha : a < s.size) (h : ¬ ((Utf8.decode s a).1 = 65533 ∧ (Utf8.decode s a).2 = 1)) : (nx s a).2 ≠ 0 := by
  have hne : s.data.toList.drop a ≠ [] := by
    intro e
    have := congrArg List.length e
    rw [List.length_drop, ← Lib.size_eq] at this
    simp at this
    omega
  rw [← Lib.decodeL_drop] at h
  have he := Lib.encode_decode _ hne h
  have hle := Lib.decodeL_le _ hne
  rw [List.length_drop, ← Lib.size_eq] at hle
  have hz : szI (((Lib.decodeL (s.data.toList.drop a)).1 : Nat) : Int) ≠ 0 := by
    have hs := Lib.decodeN_shape (s.data.toList.drop a).length ((s.data.toList.drop a).getD 0 0).toNat ((s.data.toList.drop a).getD 1 0).toNat ((s.data.toList.drop a).getD 2 0).toNat ((s.data.toList.drop a).getD 3 0).toNat
    rw [← Lib.decodeL_N] at hs
    unfold szI
    generalize Lib.decodeL (s.data.toList.drop a) = d at *
    generalize ((s.data.toList.drop a).getD 0 0).toNat = b0 at *
    generalize ((s.data.toList.drop a).getD 1 0).toNat = b1 at *
    generalize ((s.data.toList.drop a).getD 2 0).toNat = b2 at *
    generalize ((s.data.toList.drop a).getD 3 0).toNat = b3 at *
    rcases hs with ⟨h1, e⟩ | ⟨_, _, _, _, e⟩ | ⟨_, _, _, _, _, _, e⟩ | ⟨_, _, _, _, _, _, _, e⟩ | e <;> subst e <;> simp only at h ⊢
    · repeat' split
      all_goals omega
    · repeat' split
      all_goals omega
    · repeat' split
      all_goals omega
    · repeat' split
      all_goals omega
    · exact (h ⟨trivial, trivial⟩).elim
  rw [ptB_rune _ hz] at he
  have hat := at_take he.symm hle ha
  rw [nx_at hz hat]
  have : (ptB (Lib.decodeL (s.data.toList.drop a)).1).length ≠ 0 := by
    unfold ptB
    repeat' split
    all_goals simp
  simp only
  omega

theorem validD_good {s : ByteArray} {n k : Nat} (hv : Ok s n) (hk : k < n) : Lib.validD (s.data.toList.drop (pos s k)) = Lib.validD (s.data.toList.drop (pos s (k + 1))) := by
  obtain ⟨h1, h2⟩ := hv k hk
  obtain ⟨m, g1, g2, g3, g4⟩ := nx_of h2
  have hd := dec_at g2 g3
  have hne : s.data.toList.drop (pos s k) ≠ [] := by
    intro e
    have := congrArg List.length e
    rw [List.length_drop, ← Lib.size_eq] at this
    simp at this
    omega
  rw [Lib.validD_step _ hne, Lib.decodeL_drop, hd]
  have hx : ¬ (m = 65533 ∧ (ptB m).length = 1) := by
    rintro ⟨rfl, h⟩
    revert h
    decide
  rw [if_neg hx, List.drop_drop, pos, g4, Int.toNat_natCast]
theorem validD_bad {s : ByteArray} {k : Nat} (h1 : pos s k < s.size) (h2 : (nx s (pos s k)).2 = 0) : Lib.validD (s.data.toList.drop (pos s k)) = false := by
  have hne : s.data.toList.drop (pos s k) ≠ [] := by
    intro e
    have := congrArg List.length e
    rw [List.length_drop, ← Lib.size_eq] at this
    simp at this
    omega
  rw [Lib.validD_step _ hne, Lib.decodeL_drop]
  by_cases c : (Utf8.decode s (pos s k)).1 = 65533 ∧ (Utf8.decode s (pos s k)).2 = 1
  · rw [if_pos c]
  · exact absurd h2 (dec_ok h1 c)
theorem validD_run {s : ByteArray} {n : Nat} (hv : Ok s n) : ∀ k, k ≤ n → Lib.validD s.data.toList = Lib.validD (s.data.toList.drop (pos s k))
  | 0, _ => rfl
  | k + 1, h => (validD_run hv k (by omega)).trans (validD_good hv (by omega))
/-- utf8.ValidString tells whether a text has a length. -/
theorem validD_cpl (s : ByteArray) : Lib.validD s.data.toList = decide (0 ≤ cpl s) := by
  rcases valid_or_bad s with ⟨n, hv⟩ | ⟨k, hb⟩
  · rw [cpl_ok hv, validD_run hv.1 n (Nat.le_refl _), hv.2, Lib.size_eq, List.drop_length, Lib.validD_nil]
    simp
  · rw [cpl_bad hb, validD_run hb.1 k (Nat.le_refl _), validD_bad hb.2.1 hb.2.2]
    simp
end Go.Proofs.YtcdnlkhjlgaaoaaGreatDoor

/-
  utf8.ValidString answers; how many code points a text has: the contract of count.
-/
namespace Go.Proofs.YtcdnlkhjlgaaoaaGreatDoor
open Go.ChangeShapes Go.WideShapes Go.ChangeAt Go.RowKit Go.PlainAid

/-- utf8.ValidString answers in this world and behind it. -/
def VS (w : World) : Prop := ∀ (t : ByteArray) (W : World), t.size ≤ 1125899906842624 → Below w.heap.size w W →
  Calls Tryz.prog 62 #[.string t] W fun e w' => e = .returned (.bool (Lib.validD t.data.toList)) ∧ Below W.heap.size W w'
theorem VS.below {w w' : World} (h : VS w) (hb : Below w.heap.size w w') : VS w' := fun t W ht hW => h t W ht (chain hb hW)

end Go.Proofs.YtcdnlkhjlgaaoaaGreatDoor
