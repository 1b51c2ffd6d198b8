/-
  The contracts of takeDelta and wire.Decode.
-/
import Derived.Test.YtaopfdgebibpeaaWrEWrF
import Derived.Test.YtaopfdgebibpeaaDrBDrC
namespace Go.Proofs.Ytaopfdgebibpeaa
open Go.ChangeShapes Go.WideShapes Go.ChangeAt Go.RowKit Go.PlainAid

/-- What was read is short. -/
theorem dec_in (s : ByteArray) : (decR s).1.length ≤ 3000 ∧ ∀ o ∈ (decR s).1, o.In := by
  unfold decR
  split
  · simp
  · rename_i hn
    have h0 : (pk.tk s 0 1125899906842624).2.2 = 0 := by omega
    rcases pk.tk_cases s 0 1125899906842624 with ⟨n, p, hr, -, -, hp, -⟩ | ⟨er, hr, her⟩
    · rw [hr] at hn ⊢
      simp only
      cases hg : decGo s (n : Int).toNat (p : Int) [] with
      | none => simp [decF]
      | some r =>
        obtain ⟨l, q⟩ := r
        unfold decF
        simp only
        split
        · simp
        · rename_i hc
          have hc0 : chk (l.map St.op) = 0 := by omega
          obtain ⟨m, e1, -, e2, -⟩ := decGo_of _ p [] l q hp hg
          rw [List.nil_append] at e1
          subst e1
          refine ⟨(chk_any hc0).2, ?_⟩
          intro o ho
          simp only [List.mem_map] at ho
          obtain ⟨st, h1, rfl⟩ := ho
          exact raw_in (e2 st h1)
    · rw [hr] at h0
      simp only at h0
      omega

/-- What takeDelta reads. -/
def tdR (s : ByteArray) (a : Int) : List OpD × Int × Bool :=
  if (pk.tkT s a).2.2 = 0 then ((decR (pk.tkT s a).1).1, (pk.tkT s a).2.1, (decR (pk.tkT s a).1).2 == 0) else ([], 0, false)
theorem tkT_size (s : ByteArray) (a : Int) : (pk.tkT s a).1.size ≤ s.size := by
  unfold pk.tkT
  split
  · split
    · exact Nat.zero_le _
    · simp only [ByteArray.size_extract]; omega
  · exact Nat.zero_le _

set_option maxRecDepth 20000 in
set_option maxHeartbeats 1000000 in
theorem takeDelta_any (s : ByteArray) (a : Int) (w : World) (hs : s.size ≤ maxLen) :
    Calls Try.prog 26 #[.string s, .int .i64 a] w fun e w' => ∃ u, e = .returned (.tuple #[u, .int .i64 (tdR s a).2.1, .bool (tdR s a).2.2]) ∧ w'.ownsRow w.heap.size 90 3 u (tdR s a).1.length (ocs (tdR s a).1) ∧ Below w.heap.size w w' := by
  have hT := pk.takeText_any s a w hs
  have hz := tkT_size s a
  have hD := fun W => decode_any (pk.tkT s a).1 W (by omega)
  by_cases h0 : (pk.tkT s a).2.2 = 0
  · have HR : Hid (tdR s a = ((decR (pk.tkT s a).1).1, (pk.tkT s a).2.1, (decR (pk.tkT s a).1).2 == 0)) := if_pos h0
    rw [h0] at hT
    generalize pk.tkT s a = R at *
    obtain ⟨t, q, e0⟩ := R
    simp only at hT hD HR
    generalize decR t = D at *
    obtain ⟨d, e1⟩ := D
    simp only at hD HR
    clear h0 hz
    go_enter Try.func26, Try.ntmps26
    go_wp2_with fail
    refine hT.mono ?_
    rintro e w1 ⟨rfl, hb1⟩
    clear hT
    go_wp2_with fail
    refine (hD w1).mono ?_
    rintro e w2 ⟨u, rfl, ho2, hb2⟩
    clear hD
    have hB := chain hb1 hb2
    have hO := own_lower ho2 hb1.size
    clear hb1 hb2 ho2
    go_wp2_with fail
    go_ret3
    rw [HR.out]
    exact ⟨u, rfl, hO, hB⟩
  · have HR : Hid (tdR s a = ([], 0, false)) := if_neg h0
    generalize pk.tkT s a = R at *
    obtain ⟨t, q, e0⟩ := R
    simp only at hT h0
    clear hD hz
    go_enter Try.func26, Try.ntmps26
    go_wp2_with fail
    refine hT.mono ?_
    rintro e w1 ⟨rfl, hb1⟩
    clear hT
    go_wp2_with fail
    go_ret3
    rw [HR.out]
    exact ⟨_, rfl, World.ownsRow_nil _ _ _ _, hb1⟩
end Go.Proofs.Ytaopfdgebibpeaa
