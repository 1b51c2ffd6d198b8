/-
  The contract of Decode; what is written is read again.
-/
import Derived.Test.YtaopfdgebibpeaaDlF
namespace Go.Proofs.Ytaopfdgebibpeaa
open Go.ChangeShapes Go.WideShapes Go.ChangeAt Go.RowKit Go.PlainAid

/-- Reading steps. -/
def decGo (s : ByteArray) : Nat → Int → List St → Option (List St × Int)
  | 0, a, acc => some (acc, a)
  | n + 1, a, acc => match tkS s a with
    | none => none
    | some (st, q) => decGo s n q (acc ++ [st])
/-- What Decode gives, behind the number of steps. -/
def decF (s : ByteArray) : Option (List St × Int) → List OpD × Int
  | none => ([], 90)
  | some (l, b) => if b ≠ (s.size : Int) ∨ chk (l.map St.op) ≠ 0 then ([], 90) else (l.map St.op, 0)
/-- What Decode gives. -/
def decR (s : ByteArray) : List OpD × Int :=
  if (pk.tk s 0 1125899906842624).2.2 ≠ 0 ∨ 3000 < (pk.tk s 0 1125899906842624).1 then ([], 90)
  else decF s (decGo s (pk.tk s 0 1125899906842624).1.toNat (pk.tk s 0 1125899906842624).2.1 [])

theorem raw_in {st : St} (h : st.Raw) : st.op.In := by
  cases st with
  | keep n => show ByteArray.size ⟨#[]⟩ ≤ _; decide
  | rem n => show ByteArray.size ⟨#[]⟩ ≤ _; decide
  | ins t => simp only [St.Raw] at h; show t.size ≤ _; omega

set_option maxRecDepth 20000 in
set_option maxHeartbeats 800000 in
theorem decode_any (s : ByteArray) (w : World) (hs : s.size ≤ maxLen) :
    Calls Try.prog 40 #[.string s] w fun e w' => ∃ u, e = .returned (.tuple #[u, .int .i64 (decR s).2]) ∧ w'.ownsRow w.heap.size 90 3 u (decR s).1.length (ocs (decR s).1) ∧ Below w.heap.size w w' := by
  obtain ⟨i0, hin, hz0, hz1, hz2⟩ := info_parts Try.infoOp
  have hN := pk.takeNum_any s 0 w hs
  rcases pk.tk_cases s 0 1125899906842624 with ⟨n, p, hr, hk, _, hp, _⟩ | ⟨er, hr, her⟩
  · rw [hr] at hN
    simp only at hN
    by_cases hbig : (3000 : Int) < (n : Int)
    · have HR : decR s = ([], 90) := by rw [decR, hr]; exact if_pos (.inr hbig)
      rw [HR]
      clear HR hr
      go_enter Try.func40, Try.ntmps40
      go_wp2_with (go_at_call 46; refine hN.mono ?_; rintro e w1 ⟨rfl, rfl⟩)
      go_ret2
      exact ⟨_, rfl, World.ownsRow_nil _ _ _ _, Below.refl _ _⟩
    · have HR : Hid (decR s = decF s (decGo s n (p : Int) [])) := by
        show _ = _
        rw [decR, hr]
        simp only
        rw [if_neg (by omega), Int.toNat_natCast]
      have hn' : (n : Int) ≤ 3000 := by omega
      have hvn := val_ne
      have hnn := nil_eq
      clear hr
      go_enter Try.func40, Try.ntmps40
      go_wp2_with (go_at_call 46; refine hN.mono ?_; rintro e w1 ⟨rfl, rfl⟩)
      clear hN
      go_loopw [5, 7, 23] (fun a d i wr => ∃ (k : Nat) (x : Int) (l : List St), k ≤ n ∧ i = .int .i64 (k : Int) ∧ a = .int .i64 x ∧ l.length = k ∧ (∀ st ∈ l, st.Raw) ∧ wr.ownsRow w.heap.size 90 3 d (l.map St.op).length (ocs (l.map St.op)) ∧ Hid (decGo s n (p : Int) [] = decGo s (n - k) x l) ∧ Below w.heap.size w wr) (fun _ _ i _ => n - (intOf i).toNat)
      case atStart => exact ⟨0, p, [], by omega, rfl, rfl, rfl, by simp, World.ownsRow_nil _ _ _ _, rfl, Below.refl _ _⟩
      case round =>
        obtain ⟨k, x, l, hk, rfl, rfl, hlk, hraw, hown, HG, hbl⟩ := hrel
        have hsz := hbl.size
        by_cases hlt : k < n
        · have hlt' : (k : Int) < (n : Int) := by omega
          have hT := takeStep_any s x wr hs
          have HG2 : Hid (decGo s n (p : Int) [] = match tkS s x with | none => none | some (st, q) => decGo s (n - (k + 1)) q (l ++ [st])) := by
            show _ = _
            rw [HG.out, show n - k = (n - (k + 1)) + 1 by omega, decGo]
          clear HG
          cases hst : tkS s x with
          | none =>
            rw [hst] at hT
            have HR2 : Hid (decR s = ([], 90)) := by show _ = _; rw [HR.out, HG2.out, hst]; rfl
            simp only [tkV] at hT
            clear HG2 HR hst
            go_wp2_with (go_at_call 48; refine hT.mono ?_; rintro e w2 ⟨rfl, hb2⟩)
            go_ret2
            exact ⟨_, by rw [HR2.out]; rfl, by rw [HR2.out]; exact World.ownsRow_nil _ _ _ _, hbl.trans (hb2.mono hsz)⟩
          | some r =>
            obtain ⟨st, q⟩ := r
            rw [hst] at hT
            have HG3 : Hid (decGo s n (p : Int) [] = decGo s (n - (k + 1)) q (l ++ [st])) := by show _ = _; rw [HG2.out, hst]
            have hrw : st.Raw := by obtain ⟨_, _, h, _⟩ := tkS_of hst; exact h
            simp only [tkV] at hT
            have HRaw : Hid (∀ y ∈ l ++ [st], y.Raw) := fun y hy => by
              rcases List.mem_append.1 hy with h | h
              · exact hraw y h
              · simp at h; subst h; exact hrw
            have hml : (l.map St.op).length = k := by rw [List.length_map]; exact hlk
            have h1 := hvn st
            clear HG2 hst hvn hraw
            cases st with
            | keep m =>
              simp only [St.val] at hT h1
              go_wp2_with (first | (go_at_call 48; refine hT.mono ?_; rintro e w2 ⟨rfl, hb2⟩) | (go_at_call 68; refine (keepOp_any _ _).mono ?_; rintro e w3 ⟨rfl, hb3⟩; have hown3 := own_belowG (own_belowG hown hb2) hb3; have hB3 := (hbl.trans (hb2.mono hsz)).trans (hb3.mono (Nat.le_trans hsz hb2.size)); have hs3 := hB3.size) | (at_builtin; refine wpList_append_own _ rfl (.tmp 33) (.tmp 36) 32 rfl w.heap.size 90 i0 (.agg #[.int .i64 0, .int .i64 0, .string ⟨#[]⟩]) 3 32 Try.underlying32 hin hz0 hz1 hz2 rfl (by decide) _ _ _ rfl (hown3.alloc _) ⟨_, 0, none⟩ 1 1 [.int .i64 1, .int .i64 (m : Int), .string ⟨#[]⟩] rfl rfl (many_new _ _ _) (three_one _ _ _) (by rw [hml]; unfold maxLen; omega) (by rw [hml]; omega) (by simp; omega) ?_; intro v4 w4 ho4 hg4 _))
              have R1 := own_op (o := ⟨1, (m : Int), ⟨#[]⟩⟩) ho4 rfl
              have R2 : Below w.heap.size w w4 := (hB3.alloc hs3 _).grown hg4 (by simp; omega) (fun k hk => (hown3.lt k hk).1)
              clear ho4 hg4 hown3 hown
              go_roundw
              case rel => exact ⟨k + 1, q, l ++ [.keep m], by omega, by go_num, rfl, by simp [hlk], HRaw.out, by simpa [St.op] using R1, HG3, R2⟩
              case measure => simp [intOf]; omega
            | rem m =>
              simp only [St.val] at hT h1
              go_wp2_with (first | (go_at_call 48; refine hT.mono ?_; rintro e w2 ⟨rfl, hb2⟩) | (go_at_call 69; refine (remOp_any _ _).mono ?_; rintro e w3 ⟨rfl, hb3⟩; have hown3 := own_belowG (own_belowG hown hb2) hb3; have hB3 := (hbl.trans (hb2.mono hsz)).trans (hb3.mono (Nat.le_trans hsz hb2.size)); have hs3 := hB3.size) | (at_builtin; refine wpList_append_own _ rfl (.tmp 33) (.tmp 36) 32 rfl w.heap.size 90 i0 (.agg #[.int .i64 0, .int .i64 0, .string ⟨#[]⟩]) 3 32 Try.underlying32 hin hz0 hz1 hz2 rfl (by decide) _ _ _ rfl (hown3.alloc _) ⟨_, 0, none⟩ 1 1 [.int .i64 3, .int .i64 (m : Int), .string ⟨#[]⟩] rfl rfl (many_new _ _ _) (three_one _ _ _) (by rw [hml]; unfold maxLen; omega) (by rw [hml]; omega) (by simp; omega) ?_; intro v4 w4 ho4 hg4 _))
              have R1 := own_op (o := ⟨3, (m : Int), ⟨#[]⟩⟩) ho4 rfl
              have R2 : Below w.heap.size w w4 := (hB3.alloc hs3 _).grown hg4 (by simp; omega) (fun k hk => (hown3.lt k hk).1)
              clear ho4 hg4 hown3 hown
              go_roundw
              case rel => exact ⟨k + 1, q, l ++ [.rem m], by omega, by go_num, rfl, by simp [hlk], HRaw.out, by simpa [St.op] using R1, HG3, R2⟩
              case measure => simp [intOf]; omega
            | ins t =>
              simp only [St.val] at hT h1
              go_wp2_with (first | (go_at_call 48; refine hT.mono ?_; rintro e w2 ⟨rfl, hb2⟩) | (go_at_call 70; refine (insOp_any _ _).mono ?_; rintro e w3 ⟨rfl, hb3⟩; have hown3 := own_belowG (own_belowG hown hb2) hb3; have hB3 := (hbl.trans (hb2.mono hsz)).trans (hb3.mono (Nat.le_trans hsz hb2.size)); have hs3 := hB3.size) | (at_builtin; refine wpList_append_own _ rfl (.tmp 33) (.tmp 36) 32 rfl w.heap.size 90 i0 (.agg #[.int .i64 0, .int .i64 0, .string ⟨#[]⟩]) 3 32 Try.underlying32 hin hz0 hz1 hz2 rfl (by decide) _ _ _ rfl (hown3.alloc _) ⟨_, 0, none⟩ 1 1 [.int .i64 2, .int .i64 0, .string t] rfl rfl (many_new _ _ _) (three_one _ _ _) (by rw [hml]; unfold maxLen; omega) (by rw [hml]; omega) (by simp; omega) ?_; intro v4 w4 ho4 hg4 _))
              have R1 := own_op (o := ⟨2, 0, t⟩) ho4 rfl
              have R2 : Below w.heap.size w w4 := (hB3.alloc hs3 _).grown hg4 (by simp; omega) (fun k hk => (hown3.lt k hk).1)
              clear ho4 hg4 hown3 hown
              go_roundw
              case rel => exact ⟨k + 1, q, l ++ [.ins t], by omega, by go_num, rfl, by simp [hlk], HRaw.out, by simpa [St.op] using R1, HG3, R2⟩
              case measure => simp [intOf]; omega
        · have e : k = n := by omega
          subst e
          rw [Nat.sub_self] at HG
          have HR2 : Hid (decR s = if x ≠ (s.size : Int) ∨ chk (l.map St.op) ≠ 0 then ([], 90) else (l.map St.op, 0)) := by show _ = _; rw [HR.out, HG.out]; rfl
          clear HG HR
          have hml : (l.map St.op).length ≤ maxLen := by rw [List.length_map]; unfold maxLen; omega
          have hcI : ∀ o ∈ l.map St.op, o.In := fun o ho => by obtain ⟨y, hy, rfl⟩ := List.mem_map.1 ho; exact raw_in (hraw y hy)
          by_cases hx : x = (s.size : Int)
          · subst hx
            have hC := check_any _ (l.map St.op) wr (rdd_own hown) hml hcI
            by_cases hc : chk (l.map St.op) = 0
            · have HR3 : Hid (decR s = (l.map St.op, 0)) := by show _ = _; rw [HR2.out, if_neg (by simp [hc])]
              rw [hc] at hC
              clear HR2 hcI hml hraw hc
              go_wp2_with (go_at_call 29; refine hC.mono ?_; rintro e w2 ⟨rfl, hb2⟩)
              go_ret2
              exact ⟨_, by rw [HR3.out]; rfl, by rw [HR3.out]; exact own_belowG hown hb2, hbl.trans (hb2.mono hsz)⟩
            · have HR3 : Hid (decR s = ([], 90)) := by show _ = _; rw [HR2.out, if_pos (.inr hc)]
              have hne : (chk (l.map St.op) != 0) = true := by simpa using hc
              clear HR2 hcI hml hraw hc
              generalize chk (l.map St.op) = c at *
              go_wp2_with (go_at_call 29; refine hC.mono ?_; rintro e w2 ⟨rfl, hb2⟩)
              go_ret2
              exact ⟨_, by rw [HR3.out]; rfl, by rw [HR3.out]; exact World.ownsRow_nil _ _ _ _, hbl.trans (hb2.mono hsz)⟩
          · have HR3 : Hid (decR s = ([], 90)) := by show _ = _; rw [HR2.out, if_pos (.inl hx)]
            have hne : (x != (s.size : Int)) = true := by simpa using hx
            clear HR2 hcI hml hraw hx hvn hnn
            go_wp2
            go_ret2
            exact ⟨_, by rw [HR3.out]; rfl, by rw [HR3.out]; exact World.ownsRow_nil _ _ _ _, hbl⟩
  · rw [hr] at hN
    simp only at hN
    have HR : decR s = ([], 90) := by rw [decR, hr]; exact if_pos (.inl (by simp only; omega))
    rw [HR]
    have hne : (er != 0) = true := by simp; omega
    clear HR hr
    go_enter Try.func40, Try.ntmps40
    go_wp2_with (go_at_call 46; refine hN.mono ?_; rintro e w1 ⟨rfl, rfl⟩)
    go_ret2
    exact ⟨_, rfl, World.ownsRow_nil _ _ _ _, Below.refl _ _⟩
end Go.Proofs.Ytaopfdgebibpeaa
