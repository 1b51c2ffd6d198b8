/-
  The contracts of takeStep and Decode.
-/
import Derived.Test.YtaopfdgebibpeaaDlE
namespace Go.Proofs.Ytaopfdgebibpeaa
open Go.ChangeShapes Go.WideShapes Go.ChangeAt Go.RowKit Go.PlainAid

/-- What takeStep gives. -/
def tkS (s : ByteArray) (a : Int) : Option (St × Int) :=
  if (pk.tk s a 1125899906842624).2.2 ≠ 0 then none
  else if (pk.tk s a 1125899906842624).1 = 2 then
    (if (pk.tkT s (pk.tk s a 1125899906842624).2.1).2.2 ≠ 0 then none else some (.ins (pk.tkT s (pk.tk s a 1125899906842624).2.1).1, (pk.tkT s (pk.tk s a 1125899906842624).2.1).2.1))
  else if (pk.tk s (pk.tk s a 1125899906842624).2.1 1125899906842624).2.2 ≠ 0 then none
  else if (pk.tk s a 1125899906842624).1 = 1 then some (.keep (pk.tk s (pk.tk s a 1125899906842624).2.1 1125899906842624).1.toNat, (pk.tk s (pk.tk s a 1125899906842624).2.1 1125899906842624).2.1)
  else if (pk.tk s a 1125899906842624).1 = 3 then some (.rem (pk.tk s (pk.tk s a 1125899906842624).2.1 1125899906842624).1.toNat, (pk.tk s (pk.tk s a 1125899906842624).2.1 1125899906842624).2.1)
  else none
def tkV : Option (St × Int) → Value
  | none => .tuple #[.nilIface, .int .i64 0]
  | some (st, q) => .tuple #[st.val, .int .i64 q]

theorem tkT_cases (s : ByteArray) (a : Int) : (∃ (t : ByteArray) (p : Int), pk.tkT s a = (t, p, 0)) ∨ (∃ e : Int, pk.tkT s a = (⟨#[]⟩, 0, e) ∧ e ≠ 0) := by
  rw [pk.tkT]
  rcases pk.tk_cases s a 20000 with ⟨n, p, hr, _⟩ | ⟨er, hr, her⟩
  · rw [hr]
    simp only [if_pos]
    split
    · exact .inr ⟨21, rfl, by decide⟩
    · exact .inl ⟨_, _, rfl⟩
  · rw [hr]
    simp only
    rw [if_neg (by omega)]
    exact .inr ⟨er, rfl, by omega⟩

set_option maxRecDepth 20000 in
set_option maxHeartbeats 4000000 in
theorem takeStep_any (s : ByteArray) (a : Int) (w : World) (hs : s.size ≤ maxLen) :
    Calls Try.prog 48 #[.string s, .int .i64 a] w fun e w' => e = .returned (tkV (tkS s a)) ∧ Below w.heap.size w w' := by
  have hN := pk.takeNum_any s a w hs
  rcases pk.tk_cases s a 1125899906842624 with ⟨k, p, hr, hk, _⟩ | ⟨er, hr, her⟩
  · rw [hr] at hN
    simp only at hN
    by_cases k2 : (k : Int) = 2
    · have hT := pk.takeText_any s (p : Int) w hs
      rw [k2] at hN
      rcases tkT_cases s (p : Int) with ⟨t, q, ht⟩ | ⟨e, ht, he⟩
      · have HR : tkS s a = some (.ins t, q) := by
          rw [tkS, hr]
          simp only
          rw [if_neg (by simp), if_pos k2, ht]
          simp
        rw [HR]
        rw [ht] at hT
        simp only at hT
        clear HR hr ht k2
        go_enter Try.func48, Try.ntmps48
        go_wp2_with (first | (go_at_call 46; refine hN.mono ?_; rintro e w1 ⟨rfl, rfl⟩) | (go_at_call 39; refine hT.mono ?_; rintro e w2 ⟨rfl, hb2⟩))
        go_ret2
        exact ⟨rfl, hb2⟩
      · have HR : tkS s a = none := by
          rw [tkS, hr]
          simp only
          rw [if_neg (by simp), if_pos k2, ht]
          simp [he]
        rw [HR]
        rw [ht] at hT
        simp only at hT
        have hne : (e != 0) = true := by simpa using he
        clear HR hr ht k2
        go_enter Try.func48, Try.ntmps48
        go_wp2_with (first | (go_at_call 46; refine hN.mono ?_; rintro e w1 ⟨rfl, rfl⟩) | (go_at_call 39; refine hT.mono ?_; rintro e w2 ⟨rfl, hb2⟩))
        go_ret2
        exact ⟨rfl, hb2⟩
    · have k2' : ((k : Int) == 2) = false := by simpa using k2
      have hM := pk.takeNum_any s (p : Int) w hs
      rcases pk.tk_cases s (p : Int) 1125899906842624 with ⟨n, q, hq, hn, _⟩ | ⟨e, hq, he⟩
      · rw [hq] at hM
        simp only at hM
        by_cases k1 : (k : Int) = 1
        · have HR : tkS s a = some (.keep n, (q : Int)) := by
            rw [tkS, hr]
            simp only
            rw [if_neg (by simp), if_neg k2, hq]
            simp [k1]
          rw [HR]
          rw [k1] at hN
          clear HR hr hq k2 k2' k1
          go_enter Try.func48, Try.ntmps48
          go_wp2_with fail
          refine hN.mono ?_
          rintro e w1 ⟨rfl, rfl⟩
          go_wp2_with fail
          refine hM.mono ?_
          rintro e w1 ⟨rfl, rfl⟩
          go_wp2_with fail
          go_ret2
          exact ⟨rfl, Below.refl _ _⟩
        · have k1' : ((k : Int) == 1) = false := by simpa using k1
          by_cases k3 : (k : Int) = 3
          · have HR : tkS s a = some (.rem n, (q : Int)) := by
              rw [tkS, hr]
              simp only
              rw [if_neg (by simp), if_neg k2, hq]
              simp [k3]
            rw [HR]
            rw [k3] at hN
            clear HR hr hq k2 k2' k1 k1' k3
            go_enter Try.func48, Try.ntmps48
            go_wp2_with fail
            refine hN.mono ?_
            rintro e w1 ⟨rfl, rfl⟩
            go_wp2_with fail
            refine hM.mono ?_
            rintro e w1 ⟨rfl, rfl⟩
            go_wp2_with fail
            go_ret2
            exact ⟨rfl, Below.refl _ _⟩
          · have k3' : ((k : Int) == 3) = false := by simpa using k3
            have HR : tkS s a = none := by
              rw [tkS, hr]
              simp only
              rw [if_neg (by simp), if_neg k2, hq]
              simp only [if_neg k1, if_neg k3]
              simp
            rw [HR]
            clear HR hr hq k2 k1 k3
            go_enter Try.func48, Try.ntmps48
            go_wp2_with fail
            refine hN.mono ?_
            rintro e w1 ⟨rfl, rfl⟩
            go_wp2_with fail
            refine hM.mono ?_
            rintro e w1 ⟨rfl, rfl⟩
            go_wp2_with fail
            go_ret2
            exact ⟨rfl, Below.refl _ _⟩
      · rw [hq] at hM
        simp only at hM
        have HR : tkS s a = none := by
          rw [tkS, hr]
          simp only
          rw [if_neg (by simp), if_neg k2, hq, if_pos (by simp only; omega)]
        rw [HR]
        have hne : (e != 0) = true := by simp; omega
        clear HR hr hq k2
        go_enter Try.func48, Try.ntmps48
        go_wp2_with fail
        refine hN.mono ?_
        rintro e w1 ⟨rfl, rfl⟩
        go_wp2_with fail
        refine hM.mono ?_
        rintro e w1 ⟨rfl, rfl⟩
        go_wp2_with fail
        go_ret2
        exact ⟨rfl, Below.refl _ _⟩
  · rw [hr] at hN
    simp only at hN
    have HR : tkS s a = none := by rw [tkS, hr, if_pos (by simp only; omega)]
    rw [HR]
    have hne : (er != 0) = true := by simp; omega
    clear HR hr
    go_enter Try.func48, Try.ntmps48
    go_wp2_with fail
    refine hN.mono ?_
    rintro e w1 ⟨rfl, rfl⟩
    go_wp2_with fail
    go_ret2
    exact ⟨rfl, Below.refl _ _⟩

/-- A step as it may be read. -/
def St.Raw : St → Prop
  | .keep n => n ≤ 1125899906842624
  | .rem n => n ≤ 1125899906842624
  | .ins t => t.size ≤ 20000
theorem nmB_two (m n : Nat) : nmB [m, n] = numB m ++ numB n := by simp [nmB]
theorem tkS_of {s : ByteArray} {a q : Int} {st : St} (h : tkS s a = some (st, q)) : ∃ b : Nat, a = (b : Int) ∧ st.Raw ∧ At s b (stB st) ∧ q = ((b + (stB st).length : Nat) : Int) := by
  rw [tkS] at h
  rcases pk.tk_cases s a 1125899906842624 with ⟨k, p, hr, _⟩ | ⟨er, hr, her⟩
  · obtain ⟨b, m, e1, e2, _, h3, h4⟩ := pk.tk_of (by decide) hr
    rw [hr] at h
    simp only at h
    rw [if_neg (by simp)] at h
    split at h
    · rename_i k2
      rcases tkT_cases s (p : Int) with ⟨t, q', ht⟩ | ⟨e, ht, he⟩
      · obtain ⟨b', g1, g2, g3, g4⟩ := pk.tkT_of ht
        rw [ht] at h
        simp at h
        obtain ⟨rfl, rfl⟩ := h
        have hm : m = 2 := by omega
        have hb : b' = b + (numB m).length := by omega
        subst hm; subst hb
        refine ⟨b, e1, g2, ?_, ?_⟩
        · simp only [stB, nmB_one]; exact at_append.2 ⟨h3, g3⟩
        · rw [g4]; simp only [stB, nmB_one, List.length_append]; omega
      · rw [ht] at h
        simp [he] at h
    · rcases pk.tk_cases s (p : Int) 1125899906842624 with ⟨n, q', hq, _⟩ | ⟨e, hq, he⟩
      · obtain ⟨b', m', g1, g2, g3, g4, g5⟩ := pk.tk_of (by decide) hq
        rw [hq] at h
        simp only at h
        rw [if_neg (by simp)] at h
        have hb : b' = b + (numB m).length := by omega
        have hm' : m' = n := by omega
        subst hb; subst hm'
        split at h
        · rename_i k1
          simp at h
          obtain ⟨rfl, rfl⟩ := h
          have hm : m = 1 := by omega
          subst hm
          refine ⟨b, e1, by simp only [St.Raw]; omega, ?_, ?_⟩
          · simp only [stB, nmB_two]; exact at_append.2 ⟨h3, g4⟩
          · simp only [stB, nmB_two, List.length_append]; omega
        · split at h
          · rename_i k3
            simp at h
            obtain ⟨rfl, rfl⟩ := h
            have hm : m = 3 := by omega
            subst hm
            refine ⟨b, e1, by simp only [St.Raw]; omega, ?_, ?_⟩
            · simp only [stB, nmB_two]; exact at_append.2 ⟨h3, g4⟩
            · simp only [stB, nmB_two, List.length_append]; omega
          · simp at h
      · rw [hq] at h
        rw [if_pos (by simp only; omega)] at h
        simp at h
  · rw [hr] at h
    rw [if_pos (by simp only; omega)] at h
    simp at h
theorem tkS_at {s : ByteArray} {b : Nat} {st : St} (hr : st.Raw) (h : At s b (stB st)) : tkS s (b : Int) = some (st, ((b + (stB st).length : Nat) : Int)) := by
  cases st with
  | keep n =>
    simp only [stB, nmB_two] at h ⊢
    obtain ⟨h1, h2⟩ := at_append.1 h
    have e1 := pk.tk_at (most := 1125899906842624) (by decide) (by decide) h1
    have e2 := pk.tk_at (most := 1125899906842624) (by decide) (by simp only [St.Raw] at hr; omega) h2
    rw [tkS, e1]
    simp only
    rw [if_neg (by simp), if_neg (by decide), e2]
    simp only
    rw [if_neg (by simp), if_pos (by decide), Int.toNat_natCast, List.length_append, Nat.add_assoc]
  | rem n =>
    simp only [stB, nmB_two] at h ⊢
    obtain ⟨h1, h2⟩ := at_append.1 h
    have e1 := pk.tk_at (most := 1125899906842624) (by decide) (by decide) h1
    have e2 := pk.tk_at (most := 1125899906842624) (by decide) (by simp only [St.Raw] at hr; omega) h2
    rw [tkS, e1]
    simp only
    rw [if_neg (by simp), if_neg (by decide), e2]
    simp only
    rw [if_neg (by simp), if_neg (by decide), if_pos (by decide), Int.toNat_natCast, List.length_append, Nat.add_assoc]
  | ins t =>
    simp only [stB, nmB_one] at h ⊢
    obtain ⟨h1, h2⟩ := at_append.1 h
    have e1 := pk.tk_at (most := 1125899906842624) (by decide) (by decide) h1
    have e2 := pk.tkT_at hr h2
    rw [tkS, e1]
    simp only
    rw [if_neg (by simp), if_pos (by decide), e2]
    simp only
    rw [if_neg (by simp), List.length_append, Nat.add_assoc]
end Go.Proofs.Ytaopfdgebibpeaa
