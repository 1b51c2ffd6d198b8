/-
  The contracts of takeStep and Decode.
-/
import Derived.Test.YtdheddgdlindmaaDlE
namespace Go.Proofs.Ytdheddgdlindmaa
open Go.ChangeShapes Go.WideShapes Go.ChangeAt Go.RowKit Go.PlainAid

/-- What takeStep gives. -/
def tkS (s : ByteArray) (a : Int) : Option (St × Int) :=
  if (pk.tk s a 1125899906842624).2.2 ≠ 0 then none
  else if (pk.tk s a 1125899906842624).1 = 2 then
    (if (pk.tkT s (pk.tk s a 1125899906842624).2.1).2.2 ≠ 0 then none else some (.ins (pk.tkT s (pk.tk s a 1125899906842624).2.1).1, (pk.tkT s (pk.tk s a 1125899906842624).2.1).2.1))
  else if (pk.tk s (pk.tk s a 1125899906842624).2.1 1125899906842624).2.2 ≠ 0 then none
  else if (pk.tk s a 1125899906842624).1 = 1 then some (.keep (pk.tk s (pk.tk s a 1125899906842624).2.1 1125899906842624).1.toNat, (pk.tk s (pk.tk s a 1125899906842624).2.1 1125899906842624).2.1)
  else if (pk.tk s a 1125899906842624).1 = 3 then some (.rem (pk.tk s (pk.tk s a 1125899906842624).2.1 1125899906842624).1.toNat, (pk.tk s (pk.tk s a 1125899906842624).2.1 1125899906842624).2.1)
  else none
def tkV : Option (St × Int) → Value
  | none => .tuple #[.nilIface, .int .i64 0]
  | some (st, q) => .tuple #[st.val, .int .i64 q]

theorem tkT_cases (s : ByteArray) (a : Int) : (∃ (t : ByteArray) (p : Int), pk.tkT s a = (t, p, 0)) ∨ (∃ e : Int, pk.tkT s a = (⟨#[]⟩, 0, e) ∧ e ≠ 0) := by
  rw [pk.tkT]
  rcases pk.tk_cases s a 20000 with ⟨n, p, hr, _⟩ | ⟨er, hr, her⟩
  · rw [hr]
    simp only [if_pos]
    split
    · exact .inr ⟨21, rfl, by decide⟩
    · exact .inl ⟨_, _, rfl⟩
  · rw [hr]
    simp only
    rw [if_neg (by omega)]
    exact .inr ⟨er, rfl, by omega⟩

set_option maxRecDepth 20000 in
set_option maxHeartbeats 4000000 in
theorem takeStep_any (s : ByteArray) (a : Int) (w : World) (hs : s.size ≤ maxLen) :
    Calls Try.prog 93 #[.string s, .int .i64 a] w fun e w' => e = .returned (tkV (tkS s a)) ∧ Below w.heap.size w w' := by
  have hN := pk.takeNum_any s a w hs
  rcases pk.tk_cases s a 1125899906842624 with ⟨k, p, hr, hk, _⟩ | ⟨er, hr, her⟩
  · rw [hr] at hN
    simp only at hN
    by_cases k2 : (k : Int) = 2
    · have hT := pk.takeText_any s (p : Int) w hs
      rw [k2] at hN
      rcases tkT_cases s (p : Int) with ⟨t, q, ht⟩ | ⟨e, ht, he⟩
      · have HR : tkS s a = some (.ins t, q) := by
          rw [tkS, hr]
          simp only
          rw [if_neg (by simp), if_pos k2, ht]
          simp
        rw [HR]
        rw [ht] at hT
        simp only at hT
        clear HR hr ht k2
        go_enter Try.func93, Try.ntmps93
        go_wp2_with (first | (go_at_call 78; refine hN.mono ?_; rintro e w1 ⟨rfl, rfl⟩) | (go_at_call 79; refine hT.mono ?_; rintro e w2 ⟨rfl, hb2⟩))
        go_ret2
        exact ⟨rfl, hb2⟩
      · have HR : tkS s a = none := by
          rw [tkS, hr]
          simp only
          rw [if_neg (by simp), if_pos k2, ht]
          simp [he]
        rw [HR]
        rw [ht] at hT
        simp only at hT
        have hne : (e != 0) = true := by simpa using he
        clear HR hr ht k2
        go_enter Try.func93, Try.ntmps93
        go_wp2_with (first | (go_at_call 78; refine hN.mono ?_; rintro e w1 ⟨rfl, rfl⟩) | (go_at_call 79; refine hT.mono ?_; rintro e w2 ⟨rfl, hb2⟩))
        go_ret2
        exact ⟨rfl, hb2⟩
    · have k2' : ((k : Int) == 2) = false := by simpa using k2
      have hM := pk.takeNum_any s (p : Int) w hs
      rcases pk.tk_cases s (p : Int) 1125899906842624 with ⟨n, q, hq, hn, _⟩ | ⟨e, hq, he⟩
      · rw [hq] at hM
        simp only at hM
        by_cases k1 : (k : Int) = 1
        · have HR : tkS s a = some (.keep n, (q : Int)) := by
            rw [tkS, hr]
            simp only
            rw [if_neg (by simp), if_neg k2, hq]
            simp [k1]
          rw [HR]
          rw [k1] at hN
          clear HR hr hq k2 k2' k1
          go_enter Try.func93, Try.ntmps93
          go_wp2_with fail
          refine hN.mono ?_
          rintro e w1 ⟨rfl, rfl⟩
          go_wp2_with fail
          refine hM.mono ?_
          rintro e w1 ⟨rfl, rfl⟩
          go_wp2_with fail
          go_ret2
          exact ⟨rfl, Below.refl _ _⟩
        · have k1' : ((k : Int) == 1) = false := by simpa using k1
          by_cases k3 : (k : Int) = 3
          · have HR : tkS s a = some (.rem n, (q : Int)) := by
              rw [tkS, hr]
              simp only
              rw [if_neg (by simp), if_neg k2, hq]
              simp [k3]
            rw [HR]
            rw [k3] at hN
            clear HR hr hq k2 k2' k1 k1' k3
            go_enter Try.func93, Try.ntmps93
            go_wp2_with fail
            refine hN.mono ?_
            rintro e w1 ⟨rfl, rfl⟩
            go_wp2_with fail
            refine hM.mono ?_
            rintro e w1 ⟨rfl, rfl⟩
            go_wp2_with fail
            go_ret2
            exact ⟨rfl, Below.refl _ _⟩
          · have k3' : ((k : Int) == 3) = false := by simpa using k3
            have HR : tkS s a = none := by
              rw [tkS, hr]
              simp only
              rw [if_neg (by simp), if_neg k2, hq]
              simp only [if_neg k1, if_neg k3]
              simp
            rw [HR]
            clear HR hr hq k2 k1 k3
            go_enter Try.func93, Try.ntmps93
            go_wp2_with fail
            refine hN.mono ?_
            rintro e w1 ⟨rfl, rfl⟩
            go_wp2_with fail
            refine hM.mono ?_
            rintro e w1 ⟨rfl, rfl⟩
            go_wp2_with fail
            go_ret2
            exact ⟨rfl, Below.refl _ _⟩
      · rw [hq] at hM
        simp only at hM
        have HR : tkS s a = none := by
          rw [tkS, hr]
          simp only
          rw [if_neg (by simp), if_neg k2, hq, if_pos (by simp only; omega)]
        rw [HR]
        have hne : (e != 0) = true := by simp; omega
        clear HR hr hq k2
        go_enter Try.func93, Try.ntmps93
        go_wp2_with fail
        refine hN.mono ?_
        rintro e w1 ⟨rfl, rfl⟩
        go_wp2_with fail
        refine hM.mono ?_
        rintro e w1 ⟨rfl, rfl⟩
        go_wp2_with fail
        go_ret2
        exact ⟨rfl, Below.refl _ _⟩
  · rw [hr] at hN
    simp only at hN
    have HR : tkS s a = none := by rw [tkS, hr, if_pos (by simp only; omega)]
    rw [HR]
    have hne : (er != 0) = true := by simp; omega
    clear HR hr
    go_enter Try.func93, Try.ntmps93
    go_wp2_with fail
    refine hN.mono ?_
    rintro e w1 ⟨rfl, rfl⟩
    go_wp2_with fail
    go_ret2
    exact ⟨rfl, Below.refl _ _⟩

/-- A step as it may be read. -/
def St.Raw : St → Prop
  | .keep n => n ≤ 1125899906842624
  | .rem n => n ≤ 1125899906842624
  | .ins t => t.size ≤ 20000
theorem nmB_two (m n : Nat) : nmB [m, n] = numB m ++ numB n := by simp [nmB]
theorem tkS_of {s : ByteArray} {a q : Int} {st : St} (h : tkS s a = some (st, q)) : ∃ b : Nat, a = (b : Int) ∧ st.Raw ∧ At s b (stB st) ∧ q = ((b + (stB st).length : Nat) : Int) := by
  rw [tkS] at h
  rcases pk.tk_cases s a 1125899906842624 with ⟨k, p, hr, _⟩ | ⟨er, hr, her⟩
  · obtain ⟨b, m, e1, e2, _, h3, h4⟩ := pk.tk_of (by decide) hr
    rw [hr] at h
    simp only at h
    rw [if_neg (by simp)] at h
    split at h
    · rename_i k2
      rcases tkT_cases s (p : Int) with ⟨t, q', ht⟩ | ⟨e, ht, he⟩
      · obtain ⟨b', g1, g2, g3, g4⟩ := pk.tkT_of ht
        rw [ht] at h
        simp at h
        obtain ⟨rfl, rfl⟩ := h
        have hm : m = 2 := by omega
        have hb : b' = b + (numB m).length := by omega
        subst hm; subst hb
        refine ⟨b, e1, g2, ?_, ?_⟩
        · simp only [stB, nmB_one]; exact at_append.2 ⟨h3, g3⟩
        · rw [g4]; simp only [stB, nmB_one, List.length_append]; omega
      · rw [ht] at h
        simp [he] at h
    · rcases pk.tk_cases s (p : Int) 1125899906842624 with ⟨n, q', hq, _⟩ | ⟨e, hq, he⟩
      · obtain ⟨b', m', g1, g2, g3, g4, g5⟩ := pk.tk_of (by decide) hq
        rw [hq] at h
        simp only at h
        rw [if_neg (by simp)] at h
        have hb : b' = b + (numB m).length := by omega
        have hm' : m' = n := by omega
        subst hb; subst hm'
        split at h
        · rename_i k1
          simp at h
          obtain ⟨rfl, rfl⟩ := h
          have hm : m = 1 := by omega
          subst hm
          refine ⟨b, e1, by simp only [St.Raw]; omega, ?_, ?_⟩
          · simp only [stB, nmB_two]; exact at_append.2 ⟨h3, g4⟩
          · simp only [stB, nmB_two, List.length_append]; omega
        · split at h
          · rename_i k3
            simp at h
            obtain ⟨rfl, rfl⟩ := h
            have hm : m = 3 := by omega
            subst hm
            refine ⟨b, e1, by simp only [St.Raw]; omega, ?_, ?_⟩
            · simp only [stB, nmB_two]; exact at_append.2 ⟨h3, g4⟩
            · simp only [stB, nmB_two, List.length_append]; omega
          · simp at h
      · rw [hq] at h
        rw [if_pos (by simp only; omega)] at h
        simp at h
  · rw [hr] at h
    rw [if_pos (by simp only; omega)] at h
    simp at h
theorem tkS_at {s : ByteArray} {b : Nat} {st : St} (hr : st.Raw) (h : At s b (stB st)) : tkS s (b : Int) = some (st, ((b + (stB st).length : Nat) : Int)) := by
  cases st with
  | keep n =>
    simp only [stB, nmB_two] at h ⊢
    obtain ⟨h1, h2⟩ := at_append.1 h
    have e1 := pk.tk_at (most := 1125899906842624) (by decide) (by decide) h1
    have e2 := pk.tk_at (most := 1125899906842624) (by decide) (by simp only [St.Raw] at hr; omega) h2
    rw [tkS, e1]
    simp only
    rw [if_neg (by simp), if_neg (by decide), e2]
    simp only
    rw [if_neg (by simp), if_pos (by decide), Int.toNat_natCast, List.length_append, Nat.add_assoc]
  | rem n =>
    simp only [stB, nmB_two] at h ⊢
    obtain ⟨h1, h2⟩ := at_append.1 h
    have e1 := pk.tk_at (most := 1125899906842624) (by decide) (by decide) h1
    have e2 := pk.tk_at (most := 1125899906842624) (by decide) (by simp only [St.Raw] at hr; omega) h2
    rw [tkS, e1]
    simp only
    rw [if_neg (by simp), if_neg (by decide), e2]
    simp only
    rw [if_neg (by simp), if_neg (by decide), if_pos (by decide), Int.toNat_natCast, List.length_append, Nat.add_assoc]
  | ins t =>
    simp only [stB, nmB_one] at h ⊢
    obtain ⟨h1, h2⟩ := at_append.1 h
    have e1 := pk.tk_at (most := 1125899906842624) (by decide) (by decide) h1
    have e2 := pk.tkT_at hr h2
    rw [tkS, e1]
    simp only
    rw [if_neg (by simp), if_pos (by decide), e2]
    simp only
    rw [if_neg (by simp), List.length_append, Nat.add_assoc]
end Go.Proofs.Ytdheddgdlindmaa

/-
  The contract of Decode; what is written is read again.
-/
namespace Go.Proofs.Ytdheddgdlindmaa
open Go.ChangeShapes Go.WideShapes Go.ChangeAt Go.RowKit Go.PlainAid

/-- Reading steps. -/
def decGo (s : ByteArray) : Nat → Int → List St → Option (List St × Int)
  | 0, a, acc => some (acc, a)
  | n + 1, a, acc => match tkS s a with
    | none => none
    | some (st, q) => decGo s n q (acc ++ [st])
/-- What Decode gives, behind the number of steps. -/
def decF (s : ByteArray) : Option (List St × Int) → List OpD × Int
  | none => ([], 90)
  | some (l, b) => if b ≠ (s.size : Int) ∨ chk (l.map St.op) ≠ 0 then ([], 90) else (l.map St.op, 0)
/-- What Decode gives. -/
def decR (s : ByteArray) : List OpD × Int :=
  if (pk.tk s 0 1125899906842624).2.2 ≠ 0 ∨ 3000 < (pk.tk s 0 1125899906842624).1 then ([], 90)
  else decF s (decGo s (pk.tk s 0 1125899906842624).1.toNat (pk.tk s 0 1125899906842624).2.1 [])

theorem raw_in {st : St} (h : st.Raw) : st.op.In := by
  cases st with
  | keep n => show ByteArray.size ⟨#[]⟩ ≤ _; decide
  | rem n => show ByteArray.size ⟨#[]⟩ ≤ _; decide
  | ins t => simp only [St.Raw] at h; show t.size ≤ _; omega

set_option maxRecDepth 20000 in
set_option maxHeartbeats 800000 in
theorem decode_any (s : ByteArray) (w : World) (hs : s.size ≤ maxLen) :
    Calls Try.prog 80 #[.string s] w fun e w' => ∃ u, e = .returned (.tuple #[u, .int .i64 (decR s).2]) ∧ w'.ownsRow w.heap.size 96 3 u (decR s).1.length (ocs (decR s).1) ∧ Below w.heap.size w w' := by
  obtain ⟨i0, hin, hz0, hz1, hz2⟩ := info_parts Try.infoOp
  have hN := pk.takeNum_any s 0 w hs
  rcases pk.tk_cases s 0 1125899906842624 with ⟨n, p, hr, hk, _, hp, _⟩ | ⟨er, hr, her⟩
  · rw [hr] at hN
    simp only at hN
    by_cases hbig : (3000 : Int) < (n : Int)
    · have HR : decR s = ([], 90) := by rw [decR, hr]; exact if_pos (.inr hbig)
      rw [HR]
      clear HR hr
      go_enter Try.func80, Try.ntmps80
      go_wp2_with (go_at_call 78; refine hN.mono ?_; rintro e w1 ⟨rfl, rfl⟩)
      go_ret2
      exact ⟨_, rfl, World.ownsRow_nil _ _ _ _, Below.refl _ _⟩
    · have HR : Hid (decR s = decF s (decGo s n (p : Int) [])) := by
        show _ = _
        rw [decR, hr]
        simp only
        rw [if_neg (by omega), Int.toNat_natCast]
      have hn' : (n : Int) ≤ 3000 := by omega
      have hvn := val_ne
      have hnn := nil_eq
      clear hr
      go_enter Try.func80, Try.ntmps80
      go_wp2_with (go_at_call 78; refine hN.mono ?_; rintro e w1 ⟨rfl, rfl⟩)
      clear hN
      go_loopw [5, 7, 23] (fun a d i wr => ∃ (k : Nat) (x : Int) (l : List St), k ≤ n ∧ i = .int .i64 (k : Int) ∧ a = .int .i64 x ∧ l.length = k ∧ (∀ st ∈ l, st.Raw) ∧ wr.ownsRow w.heap.size 96 3 d (l.map St.op).length (ocs (l.map St.op)) ∧ Hid (decGo s n (p : Int) [] = decGo s (n - k) x l) ∧ Below w.heap.size w wr) (fun _ _ i _ => n - (intOf i).toNat)
      case atStart => exact ⟨0, p, [], by omega, rfl, rfl, rfl, by simp, World.ownsRow_nil _ _ _ _, rfl, Below.refl _ _⟩
      case round =>
        obtain ⟨k, x, l, hk, rfl, rfl, hlk, hraw, hown, HG, hbl⟩ := hrel
        have hsz := hbl.size
        by_cases hlt : k < n
        · have hlt' : (k : Int) < (n : Int) := by omega
          have hT := takeStep_any s x wr hs
          have HG2 : Hid (decGo s n (p : Int) [] = match tkS s x with | none => none | some (st, q) => decGo s (n - (k + 1)) q (l ++ [st])) := by
            show _ = _
            rw [HG.out, show n - k = (n - (k + 1)) + 1 by omega, decGo]
          clear HG
          cases hst : tkS s x with
          | none =>
            rw [hst] at hT
            have HR2 : Hid (decR s = ([], 90)) := by show _ = _; rw [HR.out, HG2.out, hst]; rfl
            simp only [tkV] at hT
            clear HG2 HR hst
            go_wp2_with (go_at_call 93; refine hT.mono ?_; rintro e w2 ⟨rfl, hb2⟩)
            go_ret2
            exact ⟨_, by rw [HR2.out]; rfl, by rw [HR2.out]; exact World.ownsRow_nil _ _ _ _, hbl.trans (hb2.mono hsz)⟩
          | some r =>
            obtain ⟨st, q⟩ := r
            rw [hst] at hT
            have HG3 : Hid (decGo s n (p : Int) [] = decGo s (n - (k + 1)) q (l ++ [st])) := by show _ = _; rw [HG2.out, hst]
            have hrw : st.Raw := by obtain ⟨_, _, h, _⟩ := tkS_of hst; exact h
            simp only [tkV] at hT
            have HRaw : Hid (∀ y ∈ l ++ [st], y.Raw) := fun y hy => by
              rcases List.mem_append.1 hy with h | h
              · exact hraw y h
              · simp at h; subst h; exact hrw
            have hml : (l.map St.op).length = k := by rw [List.length_map]; exact hlk
            have h1 := hvn st
            clear HG2 hst hvn hraw
            cases st with
            | keep m =>
              simp only [St.val] at hT h1
              go_wp2_with (first | (go_at_call 93; refine hT.mono ?_; rintro e w2 ⟨rfl, hb2⟩) | (go_at_call 120; refine (keepOp_any _ _).mono ?_; rintro e w3 ⟨rfl, hb3⟩; have hown3 := own_belowG (own_belowG hown hb2) hb3; have hB3 := (hbl.trans (hb2.mono hsz)).trans (hb3.mono (Nat.le_trans hsz hb2.size)); have hs3 := hB3.size) | (at_builtin; refine wpList_append_own _ rfl (.tmp 33) (.tmp 36) 46 rfl w.heap.size 96 i0 (.agg #[.int .i64 0, .int .i64 0, .string ⟨#[]⟩]) 3 32 Try.underlying46 hin hz0 hz1 hz2 rfl (by decide) _ _ _ rfl (hown3.alloc _) ⟨_, 0, none⟩ 1 1 [.int .i64 1, .int .i64 (m : Int), .string ⟨#[]⟩] rfl rfl (many_new _ _ _) (three_one _ _ _) (by rw [hml]; unfold maxLen; omega) (by rw [hml]; omega) (by simp; omega) ?_; intro v4 w4 ho4 hg4 _))
              have R1 := own_op (o := ⟨1, (m : Int), ⟨#[]⟩⟩) ho4 rfl
              have R2 : Below w.heap.size w w4 := (hB3.alloc hs3 _).grown hg4 (by simp; omega) (fun k hk => (hown3.lt k hk).1)
              clear ho4 hg4 hown3 hown
              go_roundw
              case rel => exact ⟨k + 1, q, l ++ [.keep m], by omega, by go_num, rfl, by simp [hlk], HRaw.out, by simpa [St.op] using R1, HG3, R2⟩
              case measure => simp [intOf]; omega
            | rem m =>
              simp only [St.val] at hT h1
              go_wp2_with (first | (go_at_call 93; refine hT.mono ?_; rintro e w2 ⟨rfl, hb2⟩) | (go_at_call 121; refine (remOp_any _ _).mono ?_; rintro e w3 ⟨rfl, hb3⟩; have hown3 := own_belowG (own_belowG hown hb2) hb3; have hB3 := (hbl.trans (hb2.mono hsz)).trans (hb3.mono (Nat.le_trans hsz hb2.size)); have hs3 := hB3.size) | (at_builtin; refine wpList_append_own _ rfl (.tmp 33) (.tmp 36) 46 rfl w.heap.size 96 i0 (.agg #[.int .i64 0, .int .i64 0, .string ⟨#[]⟩]) 3 32 Try.underlying46 hin hz0 hz1 hz2 rfl (by decide) _ _ _ rfl (hown3.alloc _) ⟨_, 0, none⟩ 1 1 [.int .i64 3, .int .i64 (m : Int), .string ⟨#[]⟩] rfl rfl (many_new _ _ _) (three_one _ _ _) (by rw [hml]; unfold maxLen; omega) (by rw [hml]; omega) (by simp; omega) ?_; intro v4 w4 ho4 hg4 _))
              have R1 := own_op (o := ⟨3, (m : Int), ⟨#[]⟩⟩) ho4 rfl
              have R2 : Below w.heap.size w w4 := (hB3.alloc hs3 _).grown hg4 (by simp; omega) (fun k hk => (hown3.lt k hk).1)
              clear ho4 hg4 hown3 hown
              go_roundw
              case rel => exact ⟨k + 1, q, l ++ [.rem m], by omega, by go_num, rfl, by simp [hlk], HRaw.out, by simpa [St.op] using R1, HG3, R2⟩
              case measure => simp [intOf]; omega
            | ins t =>
              simp only [St.val] at hT h1
              go_wp2_with (first | (go_at_call 93; refine hT.mono ?_; rintro e w2 ⟨rfl, hb2⟩) | (go_at_call 122; refine (insOp_any _ _).mono ?_; rintro e w3 ⟨rfl, hb3⟩; have hown3 := own_belowG (own_belowG hown hb2) hb3; have hB3 := (hbl.trans (hb2.mono hsz)).trans (hb3.mono (Nat.le_trans hsz hb2.size)); have hs3 := hB3.size) | (at_builtin; refine wpList_append_own _ rfl (.tmp 33) (.tmp 36) 46 rfl w.heap.size 96 i0 (.agg #[.int .i64 0, .int .i64 0, .string ⟨#[]⟩]) 3 32 Try.underlying46 hin hz0 hz1 hz2 rfl (by decide) _ _ _ rfl (hown3.alloc _) ⟨_, 0, none⟩ 1 1 [.int .i64 2, .int .i64 0, .string t] rfl rfl (many_new _ _ _) (three_one _ _ _) (by rw [hml]; unfold maxLen; omega) (by rw [hml]; omega) (by simp; omega) ?_; intro v4 w4 ho4 hg4 _))
              have R1 := own_op (o := ⟨2, 0, t⟩) ho4 rfl
              have R2 : Below w.heap.size w w4 := (hB3.alloc hs3 _).grown hg4 (by simp; omega) (fun k hk => (hown3.lt k hk).1)
              clear ho4 hg4 hown3 hown
              go_roundw
              case rel => exact ⟨k + 1, q, l ++ [.ins t], by omega, by go_num, rfl, by simp [hlk], HRaw.out, by simpa [St.op] using R1, HG3, R2⟩
              case measure => simp [intOf]; omega
        · have e : k = n := by omega
          subst e
          rw [Nat.sub_self] at HG
          have HR2 : Hid (decR s = if x ≠ (s.size : Int) ∨ chk (l.map St.op) ≠ 0 then ([], 90) else (l.map St.op, 0)) := by show _ = _; rw [HR.out, HG.out]; rfl
          clear HG HR
          have hml : (l.map St.op).length ≤ maxLen := by rw [List.length_map]; unfold maxLen; omega
          have hcI : ∀ o ∈ l.map St.op, o.In := fun o ho => by obtain ⟨y, hy, rfl⟩ := List.mem_map.1 ho; exact raw_in (hraw y hy)
          by_cases hx : x = (s.size : Int)
          · subst hx
            have hC := check_any _ (l.map St.op) wr (rdd_own hown) hml hcI
            by_cases hc : chk (l.map St.op) = 0
            · have HR3 : Hid (decR s = (l.map St.op, 0)) := by show _ = _; rw [HR2.out, if_neg (by simp [hc])]
              rw [hc] at hC
              clear HR2 hcI hml hraw hc
              go_wp2_with (go_at_call 68; refine hC.mono ?_; rintro e w2 ⟨rfl, hb2⟩)
              go_ret2
              exact ⟨_, by rw [HR3.out]; rfl, by rw [HR3.out]; exact own_belowG hown hb2, hbl.trans (hb2.mono hsz)⟩
            · have HR3 : Hid (decR s = ([], 90)) := by show _ = _; rw [HR2.out, if_pos (.inr hc)]
              have hne : (chk (l.map St.op) != 0) = true := by simpa using hc
              clear HR2 hcI hml hraw hc
              generalize chk (l.map St.op) = c at *
              go_wp2_with (go_at_call 68; refine hC.mono ?_; rintro e w2 ⟨rfl, hb2⟩)
              go_ret2
              exact ⟨_, by rw [HR3.out]; rfl, by rw [HR3.out]; exact World.ownsRow_nil _ _ _ _, hbl.trans (hb2.mono hsz)⟩
          · have HR3 : Hid (decR s = ([], 90)) := by show _ = _; rw [HR2.out, if_pos (.inl hx)]
            have hne : (x != (s.size : Int)) = true := by simpa using hx
            clear HR2 hcI hml hraw hx hvn hnn
            go_wp2
            go_ret2
            exact ⟨_, by rw [HR3.out]; rfl, by rw [HR3.out]; exact World.ownsRow_nil _ _ _ _, hbl⟩
  · rw [hr] at hN
    simp only at hN
    have HR : decR s = ([], 90) := by rw [decR, hr]; exact if_pos (.inl (by simp only; omega))
    rw [HR]
    have hne : (er != 0) = true := by simp; omega
    clear HR hr
    go_enter Try.func80, Try.ntmps80
    go_wp2_with (go_at_call 78; refine hN.mono ?_; rintro e w1 ⟨rfl, rfl⟩)
    go_ret2
    exact ⟨_, rfl, World.ownsRow_nil _ _ _ _, Below.refl _ _⟩
end Go.Proofs.Ytdheddgdlindmaa

/-
  What is written is read again. No walk.
-/
namespace Go.Proofs.Ytdheddgdlindmaa
open Go.RowKit Go.PlainAid

theorem st_op {o : OpD} {s : St} (h : stOf o = some s) : s.op = o := by
  obtain ⟨k, n, t⟩ := o
  simp only [stOf] at h
  split at h
  · rename_i h1
    have ht := empty_eq h1.2.2
    subst ht
    split at h
    · rename_i hk
      cases h
      simp only [St.op, hk]
      congr 1; omega
    · split at h
      · rename_i hk
        cases h
        simp only [St.op, hk]
        congr 1; omega
      · cases h
  · split at h
    · rename_i h1
      cases h
      simp only [St.op, h1.1, h1.2.1]
    · cases h
theorem stl_op : ∀ {ds : List OpD}, ds.any (fun o => (stOf o).isNone) = false → (stl ds).map St.op = ds
  | [], _ => rfl
  | o :: ds, h => by
    simp only [List.any_cons, Bool.or_eq_false_iff] at h
    cases hs : stOf o with
    | none => rw [hs] at h; simp at h
    | some s =>
      have e : stl (o :: ds) = s :: stl ds := by simp [stl, hs]
      rw [e, List.map_cons, st_op hs, stl_op h.2]
theorem chk_any {ds : List OpD} (h : chk ds = 0) : ds.any (fun o => (stOf o).isNone) = false ∧ ds.length ≤ 3000 := by
  rw [chk] at h
  split at h
  · omega
  · split at h
    · omega
    · rename_i h1 h2
      exact ⟨by simpa using h2, by omega⟩
theorem stR_op {ds : List OpD} (h : chk ds = 0) : (stR ds).map St.op = ds := by
  rw [chk_yes ds h]
  exact stl_op (chk_any h).1
theorem stR_raw {ds : List OpD} (hi : ∀ o ∈ ds, o.In) : ∀ s ∈ stR ds, s.Raw := by
  intro s hs
  have h1 := stR_ok hi s hs
  have h2 := ins_small hi s hs
  cases s with
  | keep n => simp only [St.Ok] at h1; simp only [St.Raw]; omega
  | rem n => simp only [St.Ok] at h1; simp only [St.Raw]; omega
  | ins t => exact h2 t rfl
theorem decGo_at {s : ByteArray} : ∀ (l acc : List St) (b : Nat), (∀ st ∈ l, st.Raw) → At s b (stsB l) → decGo s l.length (b : Int) acc = some (acc ++ l, ((b + (stsB l).length : Nat) : Int))
  | [], acc, b, _, _ => by simp [decGo, stsB]
  | st :: l, acc, b, hr, h => by
    have e : stsB (st :: l) = stB st ++ stsB l := by simp [stsB]
    rw [e] at h ⊢
    obtain ⟨h1, h2⟩ := at_append.1 h
    have e1 := tkS_at (hr st (by simp)) h1
    rw [List.length_cons, decGo, e1]
    simp only
    rw [decGo_at l _ _ (fun x hx => hr x (by simp [hx])) h2, List.length_append, List.append_assoc, Nat.add_assoc]
    rfl
theorem decF_at {s : ByteArray} {ds : List OpD} (hi : ∀ o ∈ ds, o.In) (hc : chk ds = 0) (h : At s 0 (encB (stR ds))) : decR s = if (encB (stR ds)).length = s.size then (ds, 0) else ([], 90) := by
  rw [encB] at h
  obtain ⟨h1, h2⟩ := at_append.1 h
  have hl := stR_len ds
  have e1 := pk.tk_at (most := 1125899906842624) (by decide) (by omega) h1
  have e2 := decGo_at (stR ds) [] _ (stR_raw hi) h2
  rw [show ((0 : Nat) : Int) = 0 from rfl] at e1
  rw [decR, e1]
  simp only
  rw [if_neg (by omega), Int.toNat_natCast, e2, List.nil_append, decF, stR_op hc, hc]
  have e3 : (encB (stR ds)).length = 0 + (numB (stR ds).length).length + (stsB (stR ds)).length := by rw [encB, List.length_append]; omega
  by_cases hs : (encB (stR ds)).length = s.size
  · rw [if_neg (by rw [← e3, hs]; simp), if_pos hs]
  · rw [if_pos (by rw [← e3]; left; omega), if_neg hs]
/-- Decode of Encode. -/
theorem dec_enc {ds : List OpD} (hi : ∀ o ∈ ds, o.In) (hc : chk ds = 0) : decR (mk (encB (stR ds))) = (ds, 0) := by
  have h := at_list [] (encB (stR ds)) []
  simp only [List.nil_append, List.append_nil, List.length_nil] at h
  rw [decF_at hi hc h, if_pos (by rw [mk_size])]
theorem dec_more {ds : List OpD} (hi : ∀ o ∈ ds, o.In) (hc : chk ds = 0) (m : List UInt8) (hm : 0 < m.length) : decR (mk (encB (stR ds) ++ m)) = ([], 90) := by
  have h := at_list [] (encB (stR ds)) m
  simp only [List.nil_append, List.length_nil] at h
  rw [decF_at hi hc h, if_neg (by rw [mk_size, List.length_append]; omega)]
theorem encB_len {ds : List OpD} (hi : ∀ o ∈ ds, o.In) : (encB (stR ds)).length ≤ 70000000 := by
  have h1 := stsB_len (ins_small hi)
  have h2 := numB_len (n := (stR ds).length)
  have h3 := stR_len ds
  rw [encB, List.length_append]
  omega
end Go.Proofs.Ytdheddgdlindmaa
