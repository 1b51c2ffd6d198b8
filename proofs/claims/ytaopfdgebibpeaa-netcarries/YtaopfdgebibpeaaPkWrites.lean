/-
  Contracts: pack.Text, pack.List.
-/
import Derived.Test.YtaopfdgebibpeaaPkTakePkTakeRPkTextsPkWords
import Derived.Lib.AppendStr
namespace Go.Proofs.Ytaopfdgebibpeaa.pk
open Go.Proofs.Ytaopfdgebibpeaa
open Go.ChangeShapes Go.WideShapes Go.ChangeAt Go.RowKit Go.PlainAid

/-- The form of a text. -/
def textB (s : ByteArray) : List UInt8 := numB s.size ++ s.data.toList
theorem textB_len (s : ByteArray) : (textB s).length ≤ 10 + s.size := by
  have := numB_len (n := s.size)
  have e : s.data.toList.length = s.size := by rw [Array.length_toList]; rfl
  simp only [textB, List.length_append]
  omega

theorem strCells_bv (s : ByteArray) : Lib.strCells s = bv s.data.toList := rfl

theorem own_text {w1 : World} {base e n : Nat} {v' : Value} {L : List UInt8} {s : ByteArray} (h : w1.ownsRow base e 1 v' (n + s.size) (bv L ++ Lib.strCells s)) (hn : L.length = n) :
    w1.ownsRow base e 1 v' (L ++ s.data.toList).length (bv (L ++ s.data.toList)) := by
  subst hn
  rw [strCells_bv] at h
  rw [bv_append, List.length_append]
  have e : s.data.toList.length = s.size := by rw [Array.length_toList]; rfl
  rw [e]
  exact h

theorem below_grown {base : Nat} {w wr w1 : World} {e n : Nat} {v : Value} {xs : List Value} (hb : base ≤ w.heap.size) (hbl : Below base w wr) (hown : wr.ownsRow base e 1 v n xs) (hg : wr.grownBy w1 v.ownBlock) : Below base w w1 :=
  hbl.grown hg (Nat.le_trans hb hbl.size) (fun k hk => (hown.lt k hk).1)

set_option maxRecDepth 20000 in
set_option maxHeartbeats 1000000 in
theorem appendText_any (base : Nat) (v : Value) (l : List UInt8) (s : ByteArray) (w : World) (hb : base ≤ w.heap.size) (hs : s.size ≤ 20000) (hl : l.length ≤ 35184372088832)
    (hown : w.ownsRow base 5 1 v l.length (bv l)) :
    Calls Try.prog 35 #[v, .string s] w fun e w' => ∃ v', e = .returned v' ∧ w'.ownsRow base 5 1 v' (l ++ textB s).length (bv (l ++ textB s)) ∧ Below base w w' := by
  obtain ⟨i0, hi, hz0, hz1, hz2⟩ := info_parts Try.info5
  have hc := appendNum_any base v l s.size w hb (by omega) (by omega) hown
  have hn := numB_len (n := s.size)
  go_enter Try.func35, Try.ntmps35
  go_wp2_with (first | (go_at_call 41; refine hc.mono ?_; rintro e w1 ⟨v1, rfl, ho1, hb1⟩; have hsz := hb1.size; have hlen : (l ++ numB s.size).length ≤ 35184372088842 := (by simp; omega)) | (at_builtin; refine Lib.wpList_append_own_string _ rfl (.tmp 8) (.tmp 9) 54 9 rfl base 5 i0 Try.underlying54 Try.underlying9 hi hz0 hz1 hz2 _ _ _ rfl ho1 s rfl (by unfold maxLen; omega) (by omega) (by omega) ?_; intro v2 w2 ho2 hg2 hnil))
  have R1 : w2.ownsRow base 5 1 v2 (l ++ textB s).length (bv (l ++ textB s)) := by
    unfold textB
    rw [← List.append_assoc]
    exact own_text ho2 rfl
  have R2 := below_grown hb hb1 ho1 hg2
  go_ret
  exact ⟨_, rfl, R1, R2⟩

/-- What writing a text gives. -/
def textR (s : ByteArray) : ByteArray × Int := if s.size ≤ 20000 then (mk (textB s), 0) else (⟨#[]⟩, 2)

theorem text_any (s : ByteArray) (w : World) (hs : s.size ≤ maxLen) :
    Calls Try.prog 20 #[.string s] w fun e w' => e = .returned (.tuple #[.string (textR s).1, .int .i64 (textR s).2]) ∧ Below w.heap.size w w' := by
  unfold maxLen at hs
  by_cases h : s.size ≤ 20000
  · have e : textR s = (mk (textB s), 0) := by rw [textR, if_pos h]
    rw [e]
    go_enter Try.func20, Try.ntmps20
    go_wp2_with (go_at_call 35; refine (appendText_any w.heap.size _ [] s _ (Nat.le_refl _) h (by simp) (World.ownsRow_nil _ _ _ _)).mono ?_; rintro e w' ⟨v', rfl, hown, hbl⟩; have hc := conv_own (dst := 9) Try.underlying54 Try.underlying5 Try.underlying9 hown; clear hown)
    go_ret2
    exact ⟨rfl, by assumption⟩
  · have e : textR s = (⟨#[]⟩, 2) := by rw [textR, if_neg h]
    rw [e]
    go_enter Try.func20, Try.ntmps20
    go_wp2
    go_ret2
    exact ⟨rfl, Below.refl _ _⟩

end Go.Proofs.Ytaopfdgebibpeaa.pk
