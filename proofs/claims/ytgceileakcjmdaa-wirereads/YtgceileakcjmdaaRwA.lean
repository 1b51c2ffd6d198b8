/-
  The reference: within and May.
-/
import Derived.Test.YtgceileakcjmdaaWrK
import Derived.Test.YtgceileakcjmdaaDrD
namespace Go.Proofs.Ytgceileakcjmdaa
open Go.ChangeShapes Go.WideShapes Go.ChangeAt Go.RowKit Go.PlainAid

theorem rwithin_any (n a b : Int) (w : World) :
    Calls Try.prog 44 #[.int .i64 n, .int .i64 a, .int .i64 b] w fun e w' => e = .returned (.bool (wi a b n)) ∧ w' = w := by
  by_cases h1 : a ≤ n
  · by_cases h2 : n ≤ b
    · have H : Hid (wi a b n = true) := wi_iff.2 ⟨h1, h2⟩
      go_enter Try.func44, Try.ntmps44
      go_wp2
      go_ret
      exact ⟨ret_b H.out.symm, rfl⟩
    · have H : Hid (wi a b n = false) := wi_no.2 (fun h => h2 h.2)
      go_enter Try.func44, Try.ntmps44
      go_wp2
      go_ret
      exact ⟨ret_b H.out.symm, rfl⟩
  · have H : Hid (wi a b n = false) := wi_no.2 (fun h => h1 h.1)
    go_enter Try.func44, Try.ntmps44
    go_wp2
    go_ret
    exact ⟨ret_b H.out.symm, rfl⟩

/-- Seq of a MsgNext, as the reference tests it. -/
def sqM (y s : Int) : Bool := if y = 0 then decide (s = 0) else wi 1 100000 s
def rkM (m : MsD) : Bool :=
  if m.k = 1 then wi 0 1000000 m.r && wi 1 100000 m.s && decide (m.y = 0) && decide (chk m.d = 0)
  else if m.k = 2 then wi 0 1000000 m.r && decide (m.s = 0) && decide (m.y = 0) && decide (m.d.length = 0)
  else if m.k = 3 then wi 1 1000000 m.r && wi 0 8 m.y && sqM m.y m.s && decide (chk m.d = 0) else false
theorem may_ref (m : MsD) : mayM m = (wi 1 1000000 m.b && wi 1 8 m.c && rkM m) := by
  unfold mayM kiM rkM
  by_cases k1 : m.k = 1
  · rw [if_pos k1, if_pos k1]
    cases wi 1 1000000 m.b <;> cases wi 1 8 m.c <;> cases decide (chk m.d = 0) <;> simp
  · rw [if_neg k1, if_neg k1]
    by_cases k2 : m.k = 2
    · rw [if_pos k2, if_pos k2]
      by_cases h0 : m.d.length = 0
      · have : m.d = [] := List.eq_nil_of_length_eq_zero h0
        have hc : chk m.d = 0 := by rw [this]; decide
        rw [decide_eq_true hc]
        simp
      · rw [decide_eq_false h0]
        simp
    · rw [if_neg k2, if_neg k2]
      by_cases k3 : m.k = 3
      · rw [if_pos k3, if_pos k3]
        have e : edM m.y m.s = (wi 0 8 m.y && sqM m.y m.s) := by
          unfold edM sqM
          by_cases h0 : m.y = 0
          · rw [if_pos h0, if_pos h0, h0]; rfl
          · rw [if_neg h0, if_neg h0]
            have : wi 1 8 m.y = wi 0 8 m.y := by
              unfold wi
              have : decide (1 ≤ m.y) = decide (0 ≤ m.y) := by
                by_cases h1 : 0 ≤ m.y
                · rw [decide_eq_true h1, decide_eq_true (by omega)]
                · rw [decide_eq_false h1, decide_eq_false (by omega)]
              rw [this]
            rw [this]
        rw [e]
        cases wi 1 1000000 m.b <;> cases wi 1 8 m.c <;> cases decide (chk m.d = 0) <;> cases wi 1 1000000 m.r <;> simp
      · rw [if_neg k3, if_neg k3]
        simp

set_option maxRecDepth 20000 in
set_option maxHeartbeats 1000000 in
theorem rmay_any (m : MsD) (v : Value) (w : World) (hr : RdD w v m.d) (hm : m.d.length ≤ maxLen) (hi : ∀ o ∈ m.d, o.Sm) :
    Calls Try.prog 21 #[.agg (m.fs v)] w fun e w' => e = .returned (.bool (mayM m)) ∧ Below w.heap.size w w' := by
  have H0 : Hid (mayM m = (wi 1 1000000 m.b && wi 1 8 m.c && rkM m)) := may_ref m
  obtain ⟨k, b, c, s, r, y, d⟩ := m
  have H : Hid (mayM ⟨k, b, c, s, r, y, d⟩ = (wi 1 1000000 b && wi 1 8 c && rkM ⟨k, b, c, s, r, y, d⟩)) := H0
  have HK : Hid (rkM ⟨k, b, c, s, r, y, d⟩ = if k = 1 then wi 0 1000000 r && wi 1 100000 s && decide (y = 0) && decide (chk d = 0)
    else if k = 2 then wi 0 1000000 r && decide (s = 0) && decide (y = 0) && decide (d.length = 0)
    else if k = 3 then wi 1 1000000 r && wi 0 8 y && sqM y s && decide (chk d = 0) else false) := rfl
  clear H0
  unfold MsD.fs
  simp only at hr hm hi ⊢
  have hB : Below w.heap.size w (w.alloc (.cells #[.int .i64 k, .int .i64 b, .int .i64 c, .int .i64 s, .int .i64 r, .int .i64 y, v] 24)) := (Below.refl _ w).alloc (Nat.le_refl _) _
  have hx : MB _ _ ⟨k, b, c, s, r, y, d⟩ v := heap_alloc_new w (.cells #[.int .i64 k, .int .i64 b, .int .i64 c, .int .i64 s, .int .i64 r, .int .i64 y, v] 24)
  have hc := refCheck_any v d _ (hr.below hB) hm hi
  obtain ⟨ao, cp, rfl, -⟩ := hr
  generalize mayM ⟨k, b, c, s, r, y, d⟩ = M at *
  generalize rkM ⟨k, b, c, s, r, y, d⟩ = K at *
  unfold maxLen at hm
  generalize hdl : d.length = n at *
  clear hdl hi
  go_enter Try.func21, Try.ntmps21
  go_wp2_with fail
  generalize w.alloc (.cells #[.int .i64 k, .int .i64 b, .int .i64 c, .int .i64 s, .int .i64 r, .int .i64 y, .slice ao n cp] 24) = w1 at *
  obtain ⟨c0, c1, c2, c3, c4, c5, c6⟩ := hx.cells
  simp only at c0 c1 c2 c3 c4 c5 c6
  generalize hcd : chk d = z at *
  clear hcd
  refine (rwithin_any _ _ _ _).mono ?_
  rintro e w2 ⟨rfl, rfl⟩
  cases hb1 : wi 1 1000000 b
  · have HX : Hid (M = false) := by show _ = _; rw [H.out, hb1]; simp
    clear H hb1 hc HK
    go_wp2_with fail
    go_ret
    exact ⟨ret_b HX.out.symm, hB⟩
  have H1 : Hid (M = (wi 1 8 c && K)) := by show _ = _; rw [H.out, hb1]; simp
  clear H hb1
  go_wp2_with fail
  refine (rwithin_any _ _ _ _).mono ?_
  rintro e w2 ⟨rfl, rfl⟩
  cases hb1 : wi 1 8 c
  · have HX : Hid (M = false) := by show _ = _; rw [H1.out, hb1]; simp
    clear H1 hb1 hc HK
    go_wp2_with fail
    go_ret
    exact ⟨ret_b HX.out.symm, hB⟩
  have H2 : Hid (M = (K)) := by show _ = _; rw [H1.out, hb1]; simp
  clear H1 hb1
  by_cases k1 : k = 1
  · subst k1
    have H3 : Hid (M = (wi 0 1000000 r && wi 1 100000 s && decide (y = 0) && decide (z = 0))) := by show _ = _; rw [H2.out, HK.out, if_pos rfl]
    clear H2 HK
    go_wp2_with fail
    refine (rwithin_any _ _ _ _).mono ?_
    rintro e w2 ⟨rfl, rfl⟩
    cases hb1 : wi 0 1000000 r
    · have HX : Hid (M = false) := by show _ = _; rw [H3.out, hb1]; simp
      clear H3 hb1 hc
      go_wp2_with fail
      go_ret
      exact ⟨ret_b HX.out.symm, hB⟩
    have H4 : Hid (M = (wi 1 100000 s && decide (y = 0) && decide (z = 0))) := by show _ = _; rw [H3.out, hb1]; simp
    clear H3 hb1
    go_wp2_with fail
    refine (rwithin_any _ _ _ _).mono ?_
    rintro e w2 ⟨rfl, rfl⟩
    cases hb1 : wi 1 100000 s
    · have HX : Hid (M = false) := by show _ = _; rw [H4.out, hb1]; simp
      clear H4 hb1 hc
      go_wp2_with fail
      go_ret
      exact ⟨ret_b HX.out.symm, hB⟩
    have H5 : Hid (M = (decide (y = 0) && decide (z = 0))) := by show _ = _; rw [H4.out, hb1]; simp
    clear H4 hb1
    by_cases q0 : ¬ y = 0
    · have HX : Hid (M = false) := by show _ = _; rw [H5.out, decide_eq_false q0]; simp
      clear H5 hc
      go_wp2_with fail
      go_ret
      exact ⟨ret_b HX.out.symm, hB⟩
    replace q0 := Decidable.not_not.1 q0
    subst q0
    have H6 : Hid (M = (decide (z = 0))) := by show _ = _; rw [H5.out]; simp
    clear H5
    go_wp2_with fail
    refine hc.mono ?_
    rintro e w3 ⟨rfl, hb3⟩
    have hB3 := hB.trans (hb3.mono hB.size)
    clear hc hb3 hx c0 c1 c2 c3 c4 c5 c6
    go_wp2_with fail
    go_ret
    exact ⟨ret_b (by rw [H6.out]; rfl), hB3⟩
  by_cases k2 : k = 2
  · subst k2
    have H3 : Hid (M = (wi 0 1000000 r && decide (s = 0) && decide (y = 0) && decide (n = 0))) := by show _ = _; rw [H2.out, HK.out, if_neg (by decide), if_pos rfl]
    clear H2 HK k1
    go_wp2_with fail
    refine (rwithin_any _ _ _ _).mono ?_
    rintro e w2 ⟨rfl, rfl⟩
    cases hb1 : wi 0 1000000 r
    · have HX : Hid (M = false) := by show _ = _; rw [H3.out, hb1]; simp
      clear H3 hb1 hc
      go_wp2_with fail
      go_ret
      exact ⟨ret_b HX.out.symm, hB⟩
    have H4 : Hid (M = (decide (s = 0) && decide (y = 0) && decide (n = 0))) := by show _ = _; rw [H3.out, hb1]; simp
    clear H3 hb1
    by_cases q0 : ¬ s = 0
    · have HX : Hid (M = false) := by show _ = _; rw [H4.out, decide_eq_false q0]; simp
      clear H4 hc
      go_wp2_with fail
      go_ret
      exact ⟨ret_b HX.out.symm, hB⟩
    replace q0 := Decidable.not_not.1 q0
    subst q0
    have H5 : Hid (M = (decide (y = 0) && decide (n = 0))) := by show _ = _; rw [H4.out]; simp
    clear H4
    by_cases q0 : ¬ y = 0
    · have HX : Hid (M = false) := by show _ = _; rw [H5.out, decide_eq_false q0]; simp
      clear H5 hc
      go_wp2_with fail
      go_ret
      exact ⟨ret_b HX.out.symm, hB⟩
    replace q0 := Decidable.not_not.1 q0
    subst q0
    have H6 : Hid (M = (decide (n = 0))) := by show _ = _; rw [H5.out]; simp
    clear H5
    clear hc
    go_wp2_with fail
    go_ret
    exact ⟨ret_b (by rw [H6.out]; first | rfl | (by_cases h : n = 0 <;> simp [h])), hB⟩
  by_cases k3 : k = 3
  · subst k3
    have H3 : Hid (M = (wi 1 1000000 r && wi 0 8 y && sqM y s && decide (z = 0))) := by show _ = _; rw [H2.out, HK.out, if_neg (by decide), if_neg (by decide), if_pos rfl]
    clear H2 HK k1 k2
    by_cases y0 : y = 0
    · subst y0
      have HS : Hid (sqM 0 s = decide (s = 0)) := if_pos rfl
      by_cases s0 : ¬ s = 0
      · have H4 : Hid (M = false) := by show _ = _; rw [H3.out, HS.out, decide_eq_false s0]; simp
        clear H3 HS hc
        go_wp2_with fail
        refine (rwithin_any _ _ _ _).mono ?_
        rintro e w2 ⟨rfl, rfl⟩
        cases wi 1 1000000 r
        · go_wp2_with fail
          go_ret
          exact ⟨ret_b H4.out.symm, hB⟩
        go_wp2_with fail
        refine (rwithin_any _ _ _ _).mono ?_
        rintro e w2 ⟨rfl, rfl⟩
        cases wi 0 8 0
        · go_wp2_with fail
          go_ret
          exact ⟨ret_b H4.out.symm, hB⟩
        go_wp2_with fail
        go_ret
        exact ⟨ret_b H4.out.symm, hB⟩
      replace s0 := Decidable.not_not.1 s0
      subst s0
      have H4 : Hid (M = (wi 1 1000000 r && decide (z = 0))) := by show _ = _; rw [H3.out, HS.out]; simp [wi]
      clear H3 HS
      go_wp2_with fail
      refine (rwithin_any _ _ _ _).mono ?_
      rintro e w2 ⟨rfl, rfl⟩
      cases hb1 : wi 1 1000000 r
      · have HX : Hid (M = false) := by show _ = _; rw [H4.out, hb1]; simp
        clear H4 hb1 hc
        go_wp2_with fail
        go_ret
        exact ⟨ret_b HX.out.symm, hB⟩
      have H5 : Hid (M = (decide (z = 0))) := by show _ = _; rw [H4.out, hb1]; simp
      clear H4 hb1
      go_wp2_with fail
      refine (rwithin_any _ _ _ _).mono ?_
      rintro e w2 ⟨rfl, rfl⟩
      have hw : wi 0 8 0 = true := rfl
      rw [hw]
      clear hw
      go_wp2_with fail
      refine hc.mono ?_
      rintro e w3 ⟨rfl, hb3⟩
      have hB3 := hB.trans (hb3.mono hB.size)
      clear hc hb3 hx c0 c1 c2 c3 c4 c5 c6
      go_wp2_with fail
      go_ret
      exact ⟨ret_b (by rw [H5.out]; rfl), hB3⟩
    have HS : Hid (sqM y s = wi 1 100000 s) := if_neg y0
    go_wp2_with fail
    refine (rwithin_any _ _ _ _).mono ?_
    rintro e w2 ⟨rfl, rfl⟩
    cases hsq : wi 1 100000 s
    · have H4 : Hid (M = false) := by show _ = _; rw [H3.out, HS.out, hsq]; simp
      clear H3 HS hc hsq
      go_wp2_with fail
      refine (rwithin_any _ _ _ _).mono ?_
      rintro e w2 ⟨rfl, rfl⟩
      cases wi 1 1000000 r
      · go_wp2_with fail
        go_ret
        exact ⟨ret_b H4.out.symm, hB⟩
      go_wp2_with fail
      refine (rwithin_any _ _ _ _).mono ?_
      rintro e w2 ⟨rfl, rfl⟩
      cases wi 0 8 y
      · go_wp2_with fail
        go_ret
        exact ⟨ret_b H4.out.symm, hB⟩
      go_wp2_with fail
      go_ret
      exact ⟨ret_b H4.out.symm, hB⟩
    have H4 : Hid (M = (wi 1 1000000 r && wi 0 8 y && decide (z = 0))) := by show _ = _; rw [H3.out, HS.out, hsq]; simp
    clear H3 HS hsq
    go_wp2_with fail
    refine (rwithin_any _ _ _ _).mono ?_
    rintro e w2 ⟨rfl, rfl⟩
    cases hb1 : wi 1 1000000 r
    · have HX : Hid (M = false) := by show _ = _; rw [H4.out, hb1]; simp
      clear H4 hb1 hc
      go_wp2_with fail
      go_ret
      exact ⟨ret_b HX.out.symm, hB⟩
    have H5 : Hid (M = (wi 0 8 y && decide (z = 0))) := by show _ = _; rw [H4.out, hb1]; simp
    clear H4 hb1
    go_wp2_with fail
    refine (rwithin_any _ _ _ _).mono ?_
    rintro e w2 ⟨rfl, rfl⟩
    cases hb1 : wi 0 8 y
    · have HX : Hid (M = false) := by show _ = _; rw [H5.out, hb1]; simp
      clear H5 hb1 hc
      go_wp2_with fail
      go_ret
      exact ⟨ret_b HX.out.symm, hB⟩
    have H6 : Hid (M = (decide (z = 0))) := by show _ = _; rw [H5.out, hb1]; simp
    clear H5 hb1
    go_wp2_with fail
    refine hc.mono ?_
    rintro e w3 ⟨rfl, hb3⟩
    have hB3 := hB.trans (hb3.mono hB.size)
    clear hc hb3 hx c0 c1 c2 c3 c4 c5 c6
    go_wp2_with fail
    go_ret
    exact ⟨ret_b (by rw [H6.out]; rfl), hB3⟩
  have H3 : Hid (M = false) := by show _ = _; rw [H2.out, HK.out, if_neg k1, if_neg k2, if_neg k3]
  clear H2 HK hc
  go_wp2_with fail
  go_ret
  exact ⟨ret_b H3.out.symm, hB⟩
end Go.Proofs.Ytgceileakcjmdaa
