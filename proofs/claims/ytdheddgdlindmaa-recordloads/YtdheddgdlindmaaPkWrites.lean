/-
  Contracts: pack.Text, pack.List.
-/
import Derived.Test.YtdheddgdlindmaaPkNums
import Derived.Lib.AppendStr
namespace Go.Proofs.Ytdheddgdlindmaa.pk
open Go.Proofs.Ytdheddgdlindmaa
open Go.ChangeShapes Go.WideShapes Go.ChangeAt Go.RowKit Go.PlainAid

/-- The form of a text. -/
def textB (s : ByteArray) : List UInt8 := numB s.size ++ s.data.toList
theorem textB_len (s : ByteArray) : (textB s).length ≤ 10 + s.size := by
  have := numB_len (n := s.size)
  have e : s.data.toList.length = s.size := by rw [Array.length_toList]; rfl
  simp only [textB, List.length_append]
  omega

theorem strCells_bv (s : ByteArray) : Lib.strCells s = bv s.data.toList := rfl

theorem own_text {w1 : World} {base e n : Nat} {v' : Value} {L : List UInt8} {s : ByteArray} (h : w1.ownsRow base e 1 v' (n + s.size) (bv L ++ Lib.strCells s)) (hn : L.length = n) :
    w1.ownsRow base e 1 v' (L ++ s.data.toList).length (bv (L ++ s.data.toList)) := by
  subst hn
  rw [strCells_bv] at h
  rw [bv_append, List.length_append]
  have e : s.data.toList.length = s.size := by rw [Array.length_toList]; rfl
  rw [e]
  exact h

theorem below_grown {base : Nat} {w wr w1 : World} {e n : Nat} {v : Value} {xs : List Value} (hb : base ≤ w.heap.size) (hbl : Below base w wr) (hown : wr.ownsRow base e 1 v n xs) (hg : wr.grownBy w1 v.ownBlock) : Below base w w1 :=
  hbl.grown hg (Nat.le_trans hb hbl.size) (fun k hk => (hown.lt k hk).1)

set_option maxRecDepth 20000 in
set_option maxHeartbeats 1000000 in
theorem appendText_any (base : Nat) (v : Value) (l : List UInt8) (s : ByteArray) (w : World) (hb : base ≤ w.heap.size) (hs : s.size ≤ 20000) (hl : l.length ≤ 35184372088832)
    (hown : w.ownsRow base 5 1 v l.length (bv l)) :
    Calls Try.prog 87 #[v, .string s] w fun e w' => ∃ v', e = .returned v' ∧ w'.ownsRow base 5 1 v' (l ++ textB s).length (bv (l ++ textB s)) ∧ Below base w w' := by
  obtain ⟨i0, hi, hz0, hz1, hz2⟩ := info_parts Try.info5
  have hc := appendNum_any base v l s.size w hb (by omega) (by omega) hown
  have hn := numB_len (n := s.size)
  go_enter Try.func87, Try.ntmps87
  go_wp2_with (first | (go_at_call 85; refine hc.mono ?_; rintro e w1 ⟨v1, rfl, ho1, hb1⟩; have hsz := hb1.size; have hlen : (l ++ numB s.size).length ≤ 35184372088842 := (by simp; omega)) | (at_builtin; refine Lib.wpList_append_own_string _ rfl (.tmp 8) (.tmp 9) 52 9 rfl base 5 i0 Try.underlying52 Try.underlying9 hi hz0 hz1 hz2 _ _ _ rfl ho1 s rfl (by unfold maxLen; omega) (by omega) (by omega) ?_; intro v2 w2 ho2 hg2 hnil))
  have R1 : w2.ownsRow base 5 1 v2 (l ++ textB s).length (bv (l ++ textB s)) := by
    unfold textB
    rw [← List.append_assoc]
    exact own_text ho2 rfl
  have R2 := below_grown hb hb1 ho1 hg2
  go_ret
  exact ⟨_, rfl, R1, R2⟩

/-- What writing a text gives. -/
def textR (s : ByteArray) : ByteArray × Int := if s.size ≤ 20000 then (mk (textB s), 0) else (⟨#[]⟩, 2)

theorem text_any (s : ByteArray) (w : World) (hs : s.size ≤ maxLen) :
    Calls Try.prog 72 #[.string s] w fun e w' => e = .returned (.tuple #[.string (textR s).1, .int .i64 (textR s).2]) ∧ Below w.heap.size w w' := by
  unfold maxLen at hs
  by_cases h : s.size ≤ 20000
  · have e : textR s = (mk (textB s), 0) := by rw [textR, if_pos h]
    rw [e]
    go_enter Try.func72, Try.ntmps72
    go_wp2_with (go_at_call 87; refine (appendText_any w.heap.size _ [] s _ (Nat.le_refl _) h (by simp) (World.ownsRow_nil _ _ _ _)).mono ?_; rintro e w' ⟨v', rfl, hown, hbl⟩; have hc := conv_own (dst := 9) Try.underlying52 Try.underlying5 Try.underlying9 hown; clear hown)
    go_ret2
    exact ⟨rfl, by assumption⟩
  · have e : textR s = (⟨#[]⟩, 2) := by rw [textR, if_neg h]
    rw [e]
    go_enter Try.func72, Try.ntmps72
    go_wp2
    go_ret2
    exact ⟨rfl, Below.refl _ _⟩

end Go.Proofs.Ytdheddgdlindmaa.pk

/-
  Plain: where a form stands in a text it is read as what it is the form of, and what is read is the form that stands there; a form without its last byte is cut off.
-/
namespace Go.Proofs.Ytdheddgdlindmaa.pk
open Go.Proofs.Ytdheddgdlindmaa
open Go.RowKit Go.PlainAid

/-- What stands there as a number's form is read as that number. -/
theorem tkGo_at (s : ByteArray) (a : Nat) (most : Int) (hM : most ≤ 1125899906842624) : ∀ (f k m N : Nat), (numB m).length ≤ f → (0 < k → 0 < m) → ((N + m * 2 ^ (k * 7) : Nat) : Int) ≤ most → At s (a + k) (numB m) →
    tkGo s a most f k (N : Int) = (((N + m * 2 ^ (k * 7) : Nat) : Int), ((a + k + (numB m).length : Nat) : Int), 0)
  | 0, k, m, N, hf, _, _, _ => by have := numB_pos m; omega
  | f + 1, k, m, N, hf, hk, hm, hat => by
    have hp : 0 < 2 ^ (k * 7) := Nat.two_pow_pos _
    have hle : m ≤ m * 2 ^ (k * 7) := Nat.le_mul_of_pos_right _ hp
    by_cases hlow : m < 128
    · rw [numB_low hlow] at hat ⊢
      obtain ⟨h1, h2⟩ := at_one.1 hat
      rw [ofNat_toNat (by omega)] at h2
      have hv : (N : Int) + bt s (a + k) % 128 * 2 ^ (k * 7) = ((N + m * 2 ^ (k * 7) : Nat) : Int) := by
        rw [h2, show ((m : Int) % 128) = (m : Int) by omega]; simp
      rw [tkGo, if_pos h1, if_pos (by omega), hv, if_neg (by simp only [not_or]; exact ⟨by omega, by omega⟩)]
      simp
    · have hm2 : m ≤ 1125899906842624 := by omega
      rw [numB_high (by omega) hm2] at hat hf ⊢
      obtain ⟨⟨h1, h2⟩, h3⟩ := at_cons.1 hat
      rw [ofNat_toNat (by omega)] at h2
      have hd : m / 128 * 2 ^ ((k + 1) * 7) + m % 128 * 2 ^ (k * 7) = m * 2 ^ (k * 7) := by
        rw [Nat.add_mul, Nat.pow_add, show 2 ^ (1 * 7) = 128 by rfl, Nat.mul_comm (2 ^ (k * 7)) 128, ← Nat.mul_assoc, ← Nat.add_mul]
        congr 1
        omega
      have hv : (N : Int) + bt s (a + k) % 128 * 2 ^ (k * 7) = ((N + m % 128 * 2 ^ (k * 7) : Nat) : Int) := by
        rw [h2, show (((128 + m % 128 : Nat) : Int) % 128) = ((m % 128 : Nat) : Int) by omega]; simp
      rw [tkGo, if_pos h1, if_neg (by omega), hv]
      have ih := tkGo_at s a most hM f (k + 1) (m / 128) (N + m % 128 * 2 ^ (k * 7)) (by simpa using hf) (fun _ => by omega) (by rw [show N + m % 128 * 2 ^ (k * 7) + m / 128 * 2 ^ ((k + 1) * 7) = N + m * 2 ^ (k * 7) by omega]; exact hm) h3
      rw [ih, show N + m % 128 * 2 ^ (k * 7) + m / 128 * 2 ^ ((k + 1) * 7) = N + m * 2 ^ (k * 7) by omega]
      simp
      omega

/-- What is read as a number stands there as its form. -/
theorem tkGo_of (s : ByteArray) (a : Nat) (most : Int) (hM : most ≤ 1125899906842624) : ∀ (f k N : Nat) (n p : Int), tkGo s a most f k (N : Int) = (n, p, 0) →
    ∃ m : Nat, n = ((N + m * 2 ^ (k * 7) : Nat) : Int) ∧ At s (a + k) (numB m) ∧ p = ((a + k + (numB m).length : Nat) : Int) ∧ (0 < k → 0 < m) ∧ n ≤ most
  | 0, k, N, n, p, h => by simp [tkGo] at h
  | f + 1, k, N, n, p, h => by
    have hp : 0 < 2 ^ (k * 7) := Nat.two_pow_pos _
    rw [tkGo] at h
    have b0 := bt_nonneg s (a + k)
    have b1 := bt_le s (a + k)
    obtain ⟨c, hc⟩ := Int.eq_ofNat_of_zero_le b0
    split at h
    · rename_i hin
      have hv : (N : Int) + bt s (a + k) % 128 * 2 ^ (k * 7) = ((N + c % 128 * 2 ^ (k * 7) : Nat) : Int) := by
        rw [hc]; simp
      rw [hv] at h
      split at h
      · rename_i hlow
        split at h
        · simp at h
        · rename_i hno
          simp only [not_or] at hno
          simp only [Prod.mk.injEq] at h
          obtain ⟨h1, h2, _⟩ := h
          have hc2 : c % 128 = c := by omega
          rw [hc2] at h1 hno
          refine ⟨c, h1.symm, ?_, ?_, fun hk => by have := hno.1; omega, by omega⟩
          · rw [numB_low (by omega), at_one]
            exact ⟨hin, by rw [hc, ofNat_toNat (by omega)]⟩
          · rw [numB_low (by omega), ← h2]; rfl
      · rename_i hlow
        obtain ⟨m, h1, h2, h3, h4, h5⟩ := tkGo_of s a most hM f (k + 1) _ n p h
        have hpk : 2 ^ ((k + 1) * 7) = 2 ^ (k * 7) * 128 := by rw [Nat.add_mul, Nat.pow_add]
        have hmm : m * 2 ^ ((k + 1) * 7) = (m * 128) * 2 ^ (k * 7) := by rw [hpk, Nat.mul_comm (2 ^ (k * 7)) 128, Nat.mul_assoc]
        have hle : m ≤ m * 2 ^ ((k + 1) * 7) := Nat.le_mul_of_pos_right _ (Nat.two_pow_pos _)
        have hle2 : m * 128 + c % 128 ≤ (m * 128 + c % 128) * 2 ^ (k * 7) := Nat.le_mul_of_pos_right _ hp
        have hsum : (m * 128 + c % 128) * 2 ^ (k * 7) = m * 2 ^ ((k + 1) * 7) + c % 128 * 2 ^ (k * 7) := by rw [hmm, Nat.add_mul]
        have hbig : 128 ≤ m * 128 + c % 128 := by have := h4 (by omega); omega
        have e : numB (m * 128 + c % 128) = UInt8.ofNat c :: numB m := by
          rw [numB_high hbig (by omega)]
          have e1 : (m * 128 + c % 128) / 128 = m := by omega
          have e2 : 128 + (m * 128 + c % 128) % 128 = c := by omega
          rw [e1, e2]
        refine ⟨m * 128 + c % 128, ?_, ?_, ?_, fun _ => by omega, h5⟩
        · rw [h1, hsum]; congr 1; omega
        · rw [e, at_cons]
          exact ⟨⟨hin, by rw [hc, ofNat_toNat (by omega)]⟩, h2⟩
        · rw [h3, e]; simp; omega
    · simp at h

/-- A number's form without its last byte is cut off. -/
theorem tkGo_cutoff (s : ByteArray) (a : Nat) (most : Int) : ∀ (f k m : Nat) (N : Int), (numB m).length ≤ f → m ≤ 1125899906842624 → s.size + 1 = a + k + (numB m).length → (∀ i (h : i + 1 < (numB m).length), bt s (a + k + i) = ((numB m)[i].toNat : Int)) →
    tkGo s a most f k N = (0, 0, 21)
  | 0, k, m, N, hf, _, _, _ => by have := numB_pos m; omega
  | f + 1, k, m, N, hf, hm, hs, hb => by
    by_cases hlow : m < 128
    · rw [numB_low hlow] at hs
      simp at hs
      rw [tkGo, if_neg (by omega)]
    · have e := numB_high (by omega) hm
      have hl : (numB m).length = (numB (m / 128)).length + 1 := by rw [e]; simp
      have hpos := numB_pos (m / 128)
      have h0 := hb 0 (by omega)
      have e0 : (numB m)[0]'(by omega) = UInt8.ofNat (128 + m % 128) := by simp [e]
      rw [e0, ofNat_toNat (by omega)] at h0
      rw [tkGo, if_pos (by omega), if_neg (by simp at h0; omega)]
      refine tkGo_cutoff s a most f (k + 1) (m / 128) _ (by omega) (by omega) (by omega) (fun i hi => ?_)
      have h1 := hb (i + 1) (by omega)
      have e1 : (numB m)[i + 1]'(by omega) = (numB (m / 128))[i] := by simp [e]
      rw [e1] at h1
      rw [show a + (k + 1) + i = a + k + (i + 1) by omega]
      exact h1

theorem tk_at {s : ByteArray} {a n : Nat} {most : Int} (hM : most ≤ 1125899906842624) (hn : (n : Int) ≤ most) (h : At s a (numB n)) : tk s (a : Int) most = ((n : Int), ((a + (numB n).length : Nat) : Int), 0) := by
  have h8 : (numB n).length ≤ 8 := numB_len8 (by omega)
  have := tkGo_at s a most hM 8 0 n 0 h8 (by omega) (by simpa using hn) (by simpa using h)
  rw [tk, if_pos (by have := h.1; omega), show ((a : Int)).toNat = a by omega]
  simpa using this

theorem tk_of {s : ByteArray} {a : Int} {n p : Int} {most : Int} (hM : most ≤ 1125899906842624) (h : tk s a most = (n, p, 0)) :
    ∃ (b m : Nat), a = (b : Int) ∧ n = (m : Int) ∧ (m : Int) ≤ most ∧ At s b (numB m) ∧ p = ((b + (numB m).length : Nat) : Int) := by
  rw [tk] at h
  split at h
  · obtain ⟨m, h1, h2, h3, _, h5⟩ := tkGo_of s a.toNat most hM 8 0 0 n p (by simpa using h)
    refine ⟨a.toNat, m, by omega, by simpa using h1, by simp at h1; omega, by simpa using h2, by simpa using h3⟩
  · simp at h

theorem tk_cutoff {s : ByteArray} {a m : Nat} {most : Int} (hm : m ≤ 1125899906842624) (hs : s.size + 1 = a + (numB m).length) (hb : ∀ i (h : i + 1 < (numB m).length), bt s (a + i) = ((numB m)[i].toNat : Int)) :
    tk s (a : Int) most = (0, 0, 21) := by
  have hp := numB_pos m
  have h8 : (numB m).length ≤ 8 := numB_len8 hm
  rw [tk, if_pos (by omega), show ((a : Int)).toNat = a by omega]
  exact tkGo_cutoff s a most 8 0 m 0 h8 hm (by omega) (fun i h => by simpa using hb i h)

/-! ### Texts -/


theorem tkT_at {s t : ByteArray} {a : Nat} (ht : t.size ≤ 20000) (h : At s a (textB t)) : tkT s (a : Int) = (t, ((a + (textB t).length : Nat) : Int), 0) := by
  obtain ⟨h1, h2⟩ := at_append.1 h
  have e := tk_at (most := 20000) (by decide) (by omega) h1
  have e2 := at_extract h2
  rw [data_len] at e2
  have h3 := h2.1
  rw [data_len] at h3
  have e3 : (textB t).length = (numB t.size).length + t.size := by simp only [textB, List.length_append, data_len]
  rw [tkT, e]
  simp only [if_pos]
  rw [if_neg (by omega), e3, show (((a + (numB t.size).length : Nat) : Int)).toNat = a + (numB t.size).length by omega, show ((t.size : Nat) : Int).toNat = t.size by omega, e2, mk_data]
  simp
  omega

theorem tkT_of {s t : ByteArray} {a q : Int} (h : tkT s a = (t, q, 0)) : ∃ b : Nat, a = (b : Int) ∧ t.size ≤ 20000 ∧ At s b (textB t) ∧ q = ((b + (textB t).length : Nat) : Int) := by
  rw [tkT] at h
  split at h
  · rename_i h0
    split at h
    · simp at h
    · rename_i hc
      have e : tk s a 20000 = ((tk s a 20000).1, (tk s a 20000).2.1, 0) := by
        apply Prod.ext
        · rfl
        · apply Prod.ext
          · rfl
          · exact h0
      obtain ⟨b, m, h1, h2, h3, h4, h5⟩ := tk_of (by decide) e
      rw [h2, h5] at h hc
      simp only [Prod.mk.injEq] at h
      obtain ⟨h6, h7, _⟩ := h
      rw [show (((b + (numB m).length : Nat) : Int)).toNat = b + (numB m).length by omega, show ((m : Nat) : Int).toNat = m by omega] at h6
      have hsz : t.size = m := by rw [← h6, ByteArray.size_extract]; omega
      have hat : At s (b + (numB m).length) t.data.toList := by
        refine ⟨by rw [data_len]; omega, fun i hi => ?_⟩
        rw [data_len] at hi
        rw [bt_data s _ (by omega)]
        congr 2
        have : t.data.toList = (s.extract (b + (numB m).length) (b + (numB m).length + m)).data.toList := by rw [h6]
        simp only [this, Lib.extract_data]
        simp
      have e3 : (textB t).length = (numB m).length + m := by simp only [textB, List.length_append, data_len, hsz]
      refine ⟨b, h1, by omega, ?_, by rw [e3, ← h7]; omega⟩
      rw [textB, at_append, hsz]
      exact ⟨h4, hat⟩
  · rename_i h0
    simp only [Prod.mk.injEq] at h
    exact absurd h.2.2 h0

theorem numB_zero : numB 0 = [0] := by decide

theorem tkT_cutoff {s t : ByteArray} {a : Nat} (ht : t.size ≤ 20000) (hs : s.size + 1 = a + (textB t).length) (hb : ∀ i (h : i + 1 < (textB t).length), bt s (a + i) = ((textB t)[i].toNat : Int)) : (tkT s (a : Int)).2.2 = 21 := by
  have e3 : (textB t).length = (numB t.size).length + t.size := by simp only [textB, List.length_append, data_len]
  by_cases h0 : t.size = 0
  · have e := tk_cutoff (s := s) (a := a) (m := t.size) (most := 20000) (by omega) (by omega) (fun i h => by
      have := hb i (by omega)
      rw [this]
      congr 2
      simp only [textB]
      rw [List.getElem_append_left (by omega)])
    rw [tkT, e]
    rfl
  · have hat : At s a (numB t.size) := ⟨by omega, fun i hi => by
      rw [hb i (by omega)]
      congr 2
      simp only [textB]
      rw [List.getElem_append_left hi]⟩
    have e := tk_at (most := 20000) (by decide) (by omega) hat
    rw [tkT, e]
    simp only [if_pos]
    rw [if_pos (by omega)]
end Go.Proofs.Ytdheddgdlindmaa.pk
