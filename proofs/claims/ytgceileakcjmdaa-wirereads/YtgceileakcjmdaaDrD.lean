/-
  The walk of the reference's Decode.
-/
import Derived.Test.YtgceileakcjmdaaDrC
namespace Go.Proofs.Ytgceileakcjmdaa
open Go.ChangeShapes Go.WideShapes Go.ChangeAt Go.RowKit Go.PlainAid

theorem rdO_sm {s : ByteArray} {a q : Int} {o : OpD} (h : rdO s a = some (o, q)) : o.Sm := by
  rw [rdO] at h
  split at h
  · cases h
  · split at h
    · split at h
      · cases h
      · rename_i h1
        simp only [Option.some.injEq, Prod.mk.injEq] at h
        obtain ⟨rfl, rfl⟩ := h
        rcases tkT_cases s (pk.tk s a 1125899906842624).2.1 with ⟨t, q', ht⟩ | ⟨e, ht, he⟩
        · obtain ⟨_, _, g2, _⟩ := pk.tkT_of ht
          rw [ht]
          show t.size ≤ _
          omega
        · rw [ht] at h1
          simp [he] at h1
    · split at h
      · cases h
      · simp only [Option.some.injEq, Prod.mk.injEq] at h
        obtain ⟨rfl, rfl⟩ := h
        show ByteArray.size ⟨#[]⟩ ≤ _
        decide
theorem many_new2 (wr : World) (X : Obj) (l : List Value) (e : Nat) : ∀ j u, l[j]? = some u → ((wr.alloc X).alloc (.cells l.toArray e)).cell? ((⟨wr.heap.size + 1, 0, none⟩ : Addr).add j) = some u := by
  have := many_new (wr.alloc X) l e
  rw [World.size_alloc] at this
  exact this

set_option maxRecDepth 20000 in
set_option maxHeartbeats 2000000 in
theorem refDecode_any (s : ByteArray) (w : World) (hs : s.size ≤ maxLen) :
    Calls Try.prog 28 #[.string s] w fun e w' => ∃ u, e = .returned (.tuple #[u, .int .i64 (refR s).2]) ∧ w'.ownsRow w.heap.size 35 3 u (refR s).1.length (ocs (refR s).1) ∧ Below w.heap.size w w' := by
  obtain ⟨i0, hin, hz0, hz1, hz2⟩ := info_parts Try.infoOp
  have hN := pk.refNum_any s 0 w hs
  rcases pk.tk_cases s 0 1125899906842624 with ⟨n, p, hr, hk, _, hp, _⟩ | ⟨er, hr, her⟩
  · rw [hr] at hN
    simp only at hN
    by_cases hbig : (3000 : Int) < (n : Int)
    · have HR : refR s = ([], 90) := by rw [refR, hr]; exact if_pos (.inr hbig)
      rw [HR]
      clear HR hr
      go_enter Try.func28, Try.ntmps28
      go_wp2_with (go_at_call 26; refine hN.mono ?_; rintro e w1 ⟨rfl, rfl⟩)
      go_ret2
      exact ⟨_, rfl, World.ownsRow_nil _ _ _ _, Below.refl _ _⟩
    · have HR : Hid (refR s = refF s (refGo s n (p : Int) [])) := by
        show _ = _
        rw [refR, hr]
        simp only
        rw [if_neg (by omega), Int.toNat_natCast]
      have hn' : (n : Int) ≤ 3000 := by omega
      clear hr
      go_enter Try.func28, Try.ntmps28
      go_wp2_with (go_at_call 26; refine hN.mono ?_; rintro e w1 ⟨rfl, rfl⟩)
      clear hN
      go_loopw [5, 7, 8] (fun a d i wr => ∃ (k : Nat) (x : Int) (D : List OpD), k ≤ n ∧ i = .int .i64 (k : Int) ∧ a = .int .i64 x ∧ D.length = k ∧ (∀ o ∈ D, o.Sm) ∧ wr.ownsRow w.heap.size 35 3 d D.length (ocs D) ∧ Hid (refGo s n (p : Int) [] = refGo s (n - k) x D) ∧ Below w.heap.size w wr) (fun _ _ i _ => n - (intOf i).toNat)
      case atStart => exact ⟨0, p, [], by omega, rfl, rfl, rfl, by simp, World.ownsRow_nil _ _ _ _, rfl, Below.refl _ _⟩
      case round =>
        obtain ⟨k, x, D, hk, rfl, rfl, hlk, hsmD, hown, HG, hbl⟩ := hrel
        have hsz := hbl.size
        by_cases hlt : k < n
        · have hlt' : (k : Int) < (n : Int) := by omega
          have HG2 : Hid (refGo s n (p : Int) [] = match rdO s x with | none => none | some (o, q) => refGo s (n - (k + 1)) q (D ++ [o])) := by
            show _ = _
            rw [HG.out, show n - k = (n - (k + 1)) + 1 by omega, refGo]
            cases rdO s x <;> rfl
          clear HG
          have hT := fun W => pk.refNum_any s x W hs
          rcases pk.tk_cases s x 1125899906842624 with ⟨kd, p1, hr, hkd, _⟩ | ⟨er, hr, her⟩
          · rw [hr] at hT
            simp only at hT
            by_cases k2 : (kd : Int) = 2
            · have hX := fun W => pk.refText_any s (p1 : Int) W hs
              rw [k2] at hT
              rcases tkT_cases s (p1 : Int) with ⟨t, q, ht⟩ | ⟨e, ht, he⟩
              · have e2 : rdO s x = some (⟨2, 0, t⟩, q) := by
                  rw [rdO, hr]
                  simp only
                  rw [if_neg (by simp), if_pos k2, ht]
                  simp
                have HG3 : Hid (refGo s n (p : Int) [] = refGo s (n - (k + 1)) q (D ++ [⟨2, 0, t⟩])) := by show _ = _; rw [HG2.out, e2]
                have HS : Hid (∀ o ∈ D ++ [⟨2, 0, t⟩], o.Sm) := fun o ho => by
                  rcases List.mem_append.1 ho with h | h
                  · exact hsmD o h
                  · simp at h; subst h; exact rdO_sm e2
                rw [ht] at hX
                simp only at hX
                clear HG2 e2 hr ht k2 hsmD
                go_wp2_with (first | (go_at_call 26; refine (hT _).mono ?_; rintro e w2 ⟨rfl, rfl⟩) | (go_at_call 27; refine (hX _).mono ?_; rintro e w3 ⟨rfl, rfl⟩) | (at_builtin; refine wpList_append_own _ rfl (.tmp 63) (.tmp 65) 22 rfl w.heap.size 35 i0 (.agg #[.int .i64 0, .int .i64 0, .string ⟨#[]⟩]) 3 32 Try.underlying22 hin hz0 hz1 hz2 rfl (by decide) _ _ _ rfl ((hown.alloc _).alloc _) ⟨_, 0, none⟩ 1 1 [.int .i64 2, .int .i64 0, .string t] rfl rfl (many_new2 _ _ _ _) (three_one _ _ _) (by rw [hlk]; unfold maxLen; omega) (by rw [hlk]; omega) (by simp; omega) ?_; intro v4 w4 ho4 hg4 _))
                have R1 := own_op (o := ⟨2, 0, t⟩) ho4 rfl
                have R2 : Below w.heap.size w w4 := ((hbl.alloc hsz _).alloc (by simp; omega) _).grown hg4 (by simp; omega) (fun k hk => (hown.lt k hk).1)
                clear ho4 hg4 hown
                go_roundw
                case rel => exact ⟨k + 1, q, D ++ [⟨2, 0, t⟩], by omega, by go_num, rfl, by simp [hlk], HS.out, R1, HG3, R2⟩
                case measure => simp [intOf]; omega
              · have e2 : rdO s x = none := by
                  rw [rdO, hr]
                  simp only
                  rw [if_neg (by simp), if_pos k2, ht]
                  simp [he]
                have HR2 : Hid (refR s = ([], 90)) := by show _ = _; rw [HR.out, HG2.out, e2]; rfl
                rw [ht] at hX
                simp only at hX
                have hne : (e != 0) = true := by simpa using he
                clear HG2 e2 hr ht k2 hsmD HR
                go_wp2_with (first | (go_at_call 26; refine (hT _).mono ?_; rintro e w2 ⟨rfl, rfl⟩) | (go_at_call 27; refine (hX _).mono ?_; rintro e w3 ⟨rfl, rfl⟩))
                go_ret2
                exact ⟨_, by rw [HR2.out]; rfl, by rw [HR2.out]; exact World.ownsRow_nil _ _ _ _, hbl.alloc hsz _⟩
            · have k2' : ((kd : Int) == 2) = false := by simpa using k2
              have hX := fun W => pk.refNum_any s (p1 : Int) W hs
              rcases pk.tk_cases s (p1 : Int) 1125899906842624 with ⟨m, q, hq, hmm, _⟩ | ⟨e, hq, he⟩
              · have e2 : rdO s x = some (⟨(kd : Int), (m : Int), ⟨#[]⟩⟩, (q : Int)) := by
                  rw [rdO, hr]
                  simp only
                  rw [if_neg (by simp), if_neg k2, hq]
                  simp
                have HG3 : Hid (refGo s n (p : Int) [] = refGo s (n - (k + 1)) (q : Int) (D ++ [⟨(kd : Int), (m : Int), ⟨#[]⟩⟩])) := by show _ = _; rw [HG2.out, e2]
                have HS : Hid (∀ o ∈ D ++ [⟨(kd : Int), (m : Int), ⟨#[]⟩⟩], o.Sm) := fun o ho => by
                  rcases List.mem_append.1 ho with h | h
                  · exact hsmD o h
                  · simp at h; subst h; exact rdO_sm e2
                rw [hq] at hX
                simp only at hX
                clear HG2 e2 hr hq k2 hsmD
                go_wp2_with fail
                refine (hT _).mono ?_
                rintro e w2 ⟨rfl, rfl⟩
                go_wp2_with fail
                refine (hX _).mono ?_
                rintro e w2 ⟨rfl, hw2⟩
                rw [← hw2]
                clear hw2
                go_wp2_with (at_builtin; refine wpList_append_own _ rfl (.tmp 63) (.tmp 65) 22 rfl w.heap.size 35 i0 (.agg #[.int .i64 0, .int .i64 0, .string ⟨#[]⟩]) 3 32 Try.underlying22 hin hz0 hz1 hz2 rfl (by decide) _ _ _ rfl ((hown.alloc _).alloc _) ⟨_, 0, none⟩ 1 1 [.int .i64 (kd : Int), .int .i64 (m : Int), .string ⟨#[]⟩] rfl rfl (many_new2 _ _ _ _) (three_one _ _ _) (by rw [hlk]; unfold maxLen; omega) (by rw [hlk]; omega) (by simp; omega) ?_; intro v4 w4 ho4 hg4 _)
                have R1 := own_op (o := ⟨(kd : Int), (m : Int), ⟨#[]⟩⟩) ho4 rfl
                have R2 : Below w.heap.size w w4 := ((hbl.alloc hsz _).alloc (by simp; omega) _).grown hg4 (by simp; omega) (fun k hk => (hown.lt k hk).1)
                clear ho4 hg4 hown
                go_roundw
                case rel => exact ⟨k + 1, q, D ++ [⟨(kd : Int), (m : Int), ⟨#[]⟩⟩], by omega, by go_num, rfl, by simp [hlk], HS.out, R1, HG3, R2⟩
                case measure => simp [intOf]; omega
              · have e2 : rdO s x = none := by
                  rw [rdO, hr]
                  simp only
                  rw [if_neg (by simp), if_neg k2, hq, if_pos (by simp only; omega)]
                have HR2 : Hid (refR s = ([], 90)) := by show _ = _; rw [HR.out, HG2.out, e2]; rfl
                rw [hq] at hX
                simp only at hX
                have hne : (e != 0) = true := by simp; omega
                clear HG2 e2 hr hq k2 hsmD HR
                go_wp2_with fail
                refine (hT _).mono ?_
                rintro e w2 ⟨rfl, rfl⟩
                go_wp2_with fail
                refine (hX _).mono ?_
                rintro e w2 ⟨rfl, hw2⟩
                rw [← hw2]
                clear hw2
                go_wp2_with fail
                go_ret2
                exact ⟨_, by rw [HR2.out]; rfl, by rw [HR2.out]; exact World.ownsRow_nil _ _ _ _, hbl.alloc hsz _⟩
          · have e2 : rdO s x = none := by rw [rdO, hr, if_pos (by simp only; omega)]
            have HR2 : Hid (refR s = ([], 90)) := by show _ = _; rw [HR.out, HG2.out, e2]; rfl
            rw [hr] at hT
            simp only at hT
            have hne : (er != 0) = true := by simp; omega
            clear HG2 e2 hr hsmD HR
            go_wp2_with (go_at_call 26; refine (hT _).mono ?_; rintro e w2 ⟨rfl, rfl⟩)
            go_ret2
            exact ⟨_, by rw [HR2.out]; rfl, by rw [HR2.out]; exact World.ownsRow_nil _ _ _ _, hbl⟩
        · have e : k = n := by omega
          subst e
          rw [Nat.sub_self] at HG
          have HR2 : Hid (refR s = if (encR D).2 ≠ 0 ∨ (encR D).1 ≠ s then ([], 90) else (D, 0)) := by show _ = _; rw [HR.out, HG.out]; rfl
          have hE := refEncode_any _ D wr (rdd_own hown) (by unfold maxLen; omega) hsmD
          clear HG HR hsmD
          generalize encR D = r at *
          obtain ⟨r1, r2⟩ := r
          simp only at HR2 hE
          by_cases h2 : r2 = 0
          · subst h2
            by_cases h1 : r1 = s
            · subst h1
              have HR3 : Hid (refR r1 = (D, 0)) := by show _ = _; rw [HR2.out, if_neg (by simp)]
              clear HR2
              go_wp2_with (go_at_call 23; refine hE.mono ?_; rintro e w2 ⟨rfl, hb2⟩)
              go_ret2
              exact ⟨_, by rw [HR3.out]; rfl, by rw [HR3.out]; exact own_belowG hown hb2, hbl.trans (hb2.mono hsz)⟩
            · have HR3 : Hid (refR s = ([], 90)) := by show _ = _; rw [HR2.out, if_pos (.inr h1)]
              have hne : (r1.toList == s.toList) = false := by have := list_ne h1; simpa using this
              clear HR2 h1
              go_wp2_with (go_at_call 23; refine hE.mono ?_; rintro e w2 ⟨rfl, hb2⟩)
              go_ret2
              exact ⟨_, by rw [HR3.out]; rfl, by rw [HR3.out]; exact World.ownsRow_nil _ _ _ _, hbl.trans (hb2.mono hsz)⟩
          · have HR3 : Hid (refR s = ([], 90)) := by show _ = _; rw [HR2.out, if_pos (.inl h2)]
            have hne : (r2 != 0) = true := by simpa using h2
            clear HR2 h2
            go_wp2_with (go_at_call 23; refine hE.mono ?_; rintro e w2 ⟨rfl, hb2⟩)
            go_ret2
            exact ⟨_, by rw [HR3.out]; rfl, by rw [HR3.out]; exact World.ownsRow_nil _ _ _ _, hbl.trans (hb2.mono hsz)⟩
  · rw [hr] at hN
    simp only at hN
    have HR : refR s = ([], 90) := by rw [refR, hr]; exact if_pos (.inl (by simp only; omega))
    rw [HR]
    have hne : (er != 0) = true := by simp; omega
    clear HR hr
    go_enter Try.func28, Try.ntmps28
    go_wp2_with (go_at_call 26; refine hN.mono ?_; rintro e w1 ⟨rfl, rfl⟩)
    go_ret2
    exact ⟨_, rfl, World.ownsRow_nil _ _ _ _, Below.refl _ _⟩
end Go.Proofs.Ytgceileakcjmdaa
