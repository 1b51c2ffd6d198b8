/-
  The reference: May.
-/
import Derived.Test.YtcdnlkhjlgaaoaaDoorCmB
import Derived.Test.YtcdnlkhjlgaaoaaDoorDrJ
import Derived.Test.YtcdnlkhjlgaaoaaDoorDlL
namespace Go.Proofs.YtcdnlkhjlgaaoaaDoor
open Go.ChangeShapes Go.WideShapes Go.ChangeAt Go.RowKit Go.PlainAid

set_option maxRecDepth 20000 in
theorem rwithin_any (n lo hi : Int) (w : World) : Calls Tryd.prog 54 #[.int .i64 n, .int .i64 lo, .int .i64 hi] w fun e w' => e = .returned (.bool (wtn lo hi n)) ∧ w' = w := by
  by_cases h1 : lo ≤ n
  · by_cases h2 : n ≤ hi
    · have H : Hid (wtn lo hi n = true) := by show _ = _; simp [wtn, h1, h2]
      go_enter Tryd.func54, Tryd.ntmps54
      go_wp2
      go_ret
      exact ⟨by rw [H.out]; rfl, rfl⟩
    · have H : Hid (wtn lo hi n = false) := by show _ = _; simp [wtn, h2]
      go_enter Tryd.func54, Tryd.ntmps54
      go_wp2
      go_ret
      exact ⟨by rw [H.out]; rfl, rfl⟩
  · have H : Hid (wtn lo hi n = false) := by show _ = _; simp [wtn, h1]
    go_enter Tryd.func54, Tryd.ntmps54
    go_wp2
    go_ret
    exact ⟨by rw [H.out]; rfl, rfl⟩

def gmE (E : EdD) (k : Nat) (a : Int) : Bool := decide (wtG a (E.s - E.p.length + 1 + k) (E.p.drop k) = some (cpl E.t))
/-- The reference along what waits. -/
def mrI (E : EdD) (k : Nat) (a : Int) : Prop := (k = 0 ∧ a = 0) ∨ (0 < k ∧ (E.p.length : Int) ≤ E.s ∧ mayW E = gmE E k a)
theorem mr_bad {E : EdD} {k : Nat} {a : Int} (hI : mrI E k a) (hlt : k < E.p.length) (hn : ¬ (okD E.p[k].d = true ∧ E.p[k].q = E.s - E.p.length + 1 + k ∧ 1 ≤ E.p[k].q ∧ (0 < k → (bsum (stR E.p[k].d) : Int) = a))) : mayW E = false := by
  rcases hI with ⟨rfl, rfl⟩ | ⟨h0, h1, h2⟩
  · unfold mayW
    by_cases hs : (E.p.length : Int) ≤ min 8 E.s
    · have : wtG (baseE E) (E.s - E.p.length + 1) E.p = none := by
        have := wtG_bad (a := baseE E) (q := E.s - E.p.length + 1) (l := E.p) (k := 0) hlt (fun h => hn ⟨h.1, by have := h.2.2; omega, by have := h.2.2; omega, fun h => absurd h (by omega)⟩)
        simpa using this
      rw [this]
      simp
    · simp [hs]
  · rw [h2]
    unfold gmE
    rw [wtG_bad hlt (fun h => hn ⟨h.1, h.2.2, by have := h.2.2; omega, fun _ => h.2.1⟩)]
    simp
theorem mr_step {E : EdD} {k : Nat} {a : Int} (hI : mrI E k a) (hlt : k < E.p.length) (h8 : E.p.length ≤ 8) (h1 : okD E.p[k].d = true) (h2 : E.p[k].q = E.s - E.p.length + 1 + k) (h3 : 1 ≤ E.p[k].q) (h4 : 0 < k → (bsum (stR E.p[k].d) : Int) = a) : mrI E (k + 1) (tsum (stR E.p[k].d) : Int) := by
  rcases hI with ⟨rfl, rfl⟩ | ⟨h0, h5, h6⟩
  · refine .inr ⟨by omega, by omega, ?_⟩
    have hb : baseE E = (bsum (stR E.p[0].d) : Int) := by
      unfold baseE
      match hp : E.p, hlt with
      | e :: q, _ => simp
    have hs : (E.p.length : Int) ≤ min 8 E.s := by omega
    have := wtG_drop (a := baseE E) (q := E.s - E.p.length + 1) (l := E.p) (k := 0) hlt h1 hb.symm (by omega)
    rw [List.drop_zero] at this
    unfold mayW gmE
    rw [this, decide_eq_true hs]
    simp
  · refine .inr ⟨by omega, h5, ?_⟩
    rw [h6]
    unfold gmE
    rw [wtG_drop hlt h1 (h4 h0) h2]
    rw [show E.s - (E.p.length : Int) + 1 + ((k + 1 : Nat) : Int) = E.s - E.p.length + 1 + k + 1 by omega]
theorem mr_end {E : EdD} {a : Int} (hs : 0 ≤ E.s) (hI : mrI E E.p.length a) : mayW E = (decide (E.p.length = 0) || decide (a = cpl E.t)) := by
  rcases hI with ⟨h, rfl⟩ | ⟨h0, h1, h2⟩
  · have hp : E.p = [] := List.length_eq_zero_iff.1 h
    unfold mayW
    rw [hp]
    have hb : baseE E = cpl E.t := by unfold baseE; rw [hp]
    have h2 : (0 : Int) ≤ min 8 E.s := by omega
    simp [wtG, hb, h2]
  · rw [h2]
    unfold gmE
    rw [List.drop_length]
    have : ¬ E.p.length = 0 := by omega
    simp [wtG, this]

set_option maxRecDepth 20000 in
set_option maxHeartbeats 4000000 in
theorem rmay_any (E : EdD) (v : Value) (w : World) (hr : RdEd w v E.p) (hF : E.Fit) (ht : E.t.size ≤ 1048576) (hS : ∀ e ∈ E.p, ∀ o ∈ e.d, o.Sm) :
    Calls Tryd.prog 24 #[.agg (E.fs v)] w fun e w' => e = .returned (.bool (mayE E)) ∧ Below w.heap.size w w' := by
  have hx := eb_new w E v
  have hA := alloc_b w (.cells (E.fs v) 26)
  have cL := refLen_any E.t (w.alloc (.cells (E.fs v) 26)) ht
  have hm : Hid (mayE E = (wtn 1 8 E.c && wtn 1 1000000 E.b && wtn 0 1000000 E.r && wtn 0 1000 (cpl E.t) && wtn 0 100000 E.s && mayW E)) := rfl
  have c1 := fun W => rwithin_any E.c 1 8 W
  have c2 := fun W => rwithin_any E.b 1 1000000 W
  have c3 := fun W => rwithin_any E.r 0 1000000 W
  have c4 := fun W => rwithin_any (cpl E.t) 0 1000 W
  have c5 := fun W => rwithin_any E.s 0 100000 W
  have h5s : wtn 0 100000 E.s = true → 0 ≤ E.s ∧ E.s ≤ 100000 := fun h => by simp [wtn] at h; omega
  have hpl := hF.pl
  have hpf := hF.pf
  unfold maxLen at hpl
  obtain ⟨ao, cp, rfl, -, hc⟩ := hr
  unfold EdD.fs at hA cL ⊢
  generalize wtn 0 100000 E.s = m5 at *
  generalize wtn 0 1000 (cpl E.t) = m4 at *
  generalize wtn 0 1000000 E.r = m3 at *
  generalize wtn 1 1000000 E.b = m2 at *
  generalize wtn 1 8 E.c = m1 at *
  obtain ⟨R, HR⟩ : ∃ R, Hid (mayE E = R) := ⟨_, rfl⟩
  rw [HR.out]
  have hR : Hid (R = (m1 && m2 && m3 && m4 && m5 && mayW E)) := by show _ = _; rw [← HR.out, hm.out]
  clear hm HR
  go_enter Tryd.func24, Tryd.ntmps24
  go_wp2_with fail
  refine cL.mono ?_
  rintro e w1 ⟨rfl, hb1⟩
  have hx1 := hx.below hb1
  have hB1 := chain hA hb1
  clear hx hA cL hb1
  obtain ⟨x0, x1, x2, x3, x4, x5⟩ := cellsEB hx1
  cases m1 with
  | false =>
    have hR' : R = false := by rw [hR.out]; simp
    subst hR'
    clear hR
    go_wp2_with fail
    refine (c1 _).mono ?_
    rintro e w2 ⟨rfl, rfl⟩
    go_wp2_with fail
    go_ret
    exact ⟨rfl, hB1⟩
  | true =>
  cases m2 with
  | false =>
    have hR' : R = false := by rw [hR.out]; simp
    subst hR'
    clear hR
    go_wp2_with fail
    refine (c1 _).mono ?_
    rintro e w2 ⟨rfl, rfl⟩
    go_wp2_with fail
    refine (c2 _).mono ?_
    rintro e w2 ⟨rfl, rfl⟩
    go_wp2_with fail
    go_ret
    exact ⟨rfl, hB1⟩
  | true =>
  cases m3 with
  | false =>
    have hR' : R = false := by rw [hR.out]; simp
    subst hR'
    clear hR
    go_wp2_with fail
    refine (c1 _).mono ?_
    rintro e w2 ⟨rfl, rfl⟩
    go_wp2_with fail
    refine (c2 _).mono ?_
    rintro e w2 ⟨rfl, rfl⟩
    go_wp2_with fail
    refine (c3 _).mono ?_
    rintro e w2 ⟨rfl, rfl⟩
    go_wp2_with fail
    go_ret
    exact ⟨rfl, hB1⟩
  | true =>
  cases m4 with
  | false =>
    have hR' : R = false := by rw [hR.out]; simp
    subst hR'
    clear hR
    go_wp2_with fail
    refine (c1 _).mono ?_
    rintro e w2 ⟨rfl, rfl⟩
    go_wp2_with fail
    refine (c2 _).mono ?_
    rintro e w2 ⟨rfl, rfl⟩
    go_wp2_with fail
    refine (c3 _).mono ?_
    rintro e w2 ⟨rfl, rfl⟩
    go_wp2_with fail
    refine (c4 _).mono ?_
    rintro e w2 ⟨rfl, rfl⟩
    go_wp2_with fail
    go_ret
    exact ⟨rfl, hB1⟩
  | true =>
  cases m5 with
  | false =>
    have hR' : R = false := by rw [hR.out]; simp
    subst hR'
    clear hR
    go_wp2_with fail
    refine (c1 _).mono ?_
    rintro e w2 ⟨rfl, rfl⟩
    go_wp2_with fail
    refine (c2 _).mono ?_
    rintro e w2 ⟨rfl, rfl⟩
    go_wp2_with fail
    refine (c3 _).mono ?_
    rintro e w2 ⟨rfl, rfl⟩
    go_wp2_with fail
    refine (c4 _).mono ?_
    rintro e w2 ⟨rfl, rfl⟩
    go_wp2_with fail
    refine (c5 _).mono ?_
    rintro e w2 ⟨rfl, rfl⟩
    go_wp2_with fail
    go_ret
    exact ⟨rfl, hB1⟩
  | true =>
  have hR2 : Hid (R = mayW E) := by show _ = _; rw [hR.out]; simp
  obtain ⟨hs0, hs1⟩ := h5s rfl
  clear hR h5s
  by_cases h8 : E.p.length ≤ 8
  · have h8' : ¬ ((E.p.length : Int) > 8) := by omega
    have h8d : ¬ ((8 : Int) < (E.p.length : Int)) := by omega
    go_wp2_with fail
    refine (c1 _).mono ?_
    rintro e w2 ⟨rfl, rfl⟩
    go_wp2_with fail
    refine (c2 _).mono ?_
    rintro e w2 ⟨rfl, rfl⟩
    go_wp2_with fail
    refine (c3 _).mono ?_
    rintro e w2 ⟨rfl, rfl⟩
    go_wp2_with fail
    refine (c4 _).mono ?_
    rintro e w2 ⟨rfl, rfl⟩
    go_wp2_with fail
    refine (c5 _).mono ?_
    rintro e w2 ⟨rfl, rfl⟩
    go_wp2_with fail
    clear c1 c2 c3 c4 c5 x0 x1 x2 x3 x4 x5
    go_loopw [4, 5] (fun a i wr => ∃ (k : Nat) (tg : Int), k ≤ E.p.length ∧ i = .int .i64 (k : Int) ∧ a = .int .i64 tg ∧ Hid (mrI E k tg) ∧ Below w2.heap.size w2 wr) (fun _ i _ => E.p.length - (Go.RowKit.intOf i).toNat)
    case atStart => exact ⟨0, 0, by omega, rfl, rfl, .inl ⟨rfl, rfl⟩, Below.refl _ _⟩
    case round =>
      obtain ⟨k, tg, hk, rfl, rfl, HI, hbl⟩ := hrel
      have hB := chain hB1 hbl
      have hxr := hx1.below hbl
      obtain ⟨x0, x1, x2, x3, x4, x5⟩ := cellsEB hxr
      by_cases hlt : k < E.p.length
      · have hlt' : (k : Int) < (E.p.length : Int) := by omega
        obtain ⟨g, off, u, rfl, hg, c0, c1, c2⟩ := hc k E.p[k] (by simp [hlt])
        have hxf := hpf E.p[k] (List.getElem_mem hlt)
        have hSk := hS E.p[k] (List.getElem_mem hlt)
        have hBg : ∀ o, wr.cell? ⟨g, o, none⟩ = w.cell? ⟨g, o, none⟩ := fun o => hB.cell (p := ⟨g, o, none⟩) hg
        rw [← hBg] at c0 c1
        obtain ⟨au, ku, rfl⟩ := rdd_len c2
        have Hbad := fun hn => mr_bad HI.out hlt hn
        have Hstep := fun h1 h2 h3 h4 => mr_step HI.out hlt h8 h1 h2 h3 h4
        generalize E.p[k] = x at *
        have c2' := c2.below hB
        have hAx := alloc_b wr (.cells #[.int .i64 x.q, .slice au x.d.length ku] 41)
        have hbx := eb_newX wr x.q (.slice au x.d.length ku)
        have hxa := hxr.below hAx
        obtain ⟨v0, v1, v2, v3, v4, v5⟩ := cellsEB hxa
        have cN := refNormal_any _ x.d _ (c2'.below hAx) hxf.dl hSk
        have hxdl := hxf.dl
        have hxdi := hxf.di
        clear hc hBg c2 hpf hS HI hxf
        generalize x.q = xq at *
        generalize x.d = xd at *
        clear x
        by_cases hq : xq = E.s - E.p.length + 1 + k
        · by_cases hq1 : 1 ≤ xq
          · subst hq
            have n2 : ¬ (E.s - (E.p.length : Int) + 1 + (k : Int) < 1) := by omega
            go_wp2_with fail
            refine cN.mono ?_
            rintro e w3 ⟨u3, rfl, ho3, hb3⟩
            obtain ⟨a3, k3, rfl⟩ := own_form ho3
            have hr3 := rdd_own ho3
            have hB3 := chain hAx hb3
            have hbx3 := (hb3.block _ (EB.lt' hbx)).trans hbx
            have hx3 := hxr.below hB3
            have c3' := c2'.below hB3
            have hBT := chain hB hB3
            have hjl := jn_in (stR_ok hxdi) (stR_bd xd).1 (stR_bd xd).2
            clear v0 v1 v2 v3 v4 v5 x0 x1 x2 x3 x4 x5 c0 c1 cN hbx hxa hAx hxr ho3 c2' hb3
            obtain ⟨x0, x1, x2, x3, x4, x5⟩ := cellsEB hx3
            obtain ⟨y0, y1⟩ := cells2X hbx3
            by_cases hq2 : chk xd = 0
            · have cS := same_any _ _ (jn (stR xd)) xd w3 hr3 c3' (by have := hjl.1; unfold maxLen; omega)
              have m1 : (chk xd != 0) = false := by rw [hq2]; rfl
              have m1b : (chk xd == 0) = true := by rw [hq2]; rfl
              by_cases hj : jn (stR xd) = xd
              · have hok : okD xd = true := by simp [okD, hq2, hj]
                rw [decide_eq_true hj] at cS
                rw [hj] at cS hr3
                simp only [hj] at y0 y1 hBT cS hr3 hbx3 ⊢
                clear m1 m1b
                rw [hq2]
                go_wp2_with fail
                refine cS.mono ?_
                rintro e w4 ⟨rfl, hb4⟩
                have cB := refBase_any _ xd w4 (hr3.below hb4) hxdl hSk
                have hx4 := hx3.below hb4
                have hr4 := hr3.below hb4
                have hBT4 := chain hBT hb4
                have hW4 := chain (chain hbl hB3) hb4
                clear x0 x1 x2 x3 x4 x5 y0 y1 cS hr3 hBT c3'
                obtain ⟨x0, x1, x2, x3, x4, x5⟩ := cellsEB hx4
                rw [hq2] at cB
                go_wp2_with fail
                refine cB.mono ?_
                rintro e w5 ⟨rfl, hb5⟩
                have hx5 := hx4.below hb5
                have cT := refTarget_any _ xd w5 (hr4.below hb5) hxdl hSk
                have hBT5 := chain hBT4 hb5
                have hW5 := chain hW4 hb5
                clear x0 x1 x2 x3 x4 x5 cB hr4 hBT4
                obtain ⟨x0, x1, x2, x3, x4, x5⟩ := cellsEB hx5
                by_cases hbk : 0 < k → (bsum (stR xd) : Int) = tg
                · have Hnew : Hid (mrI E (k + 1) (tsum (stR xd) : Int)) := Hstep hok trivial hq1 hbk
                  clear Hbad Hstep
                  by_cases hk0 : 0 < k
                  · have m2 : ¬ ((k : Int) ≤ 0) := by omega
                    have m2b : (k : Int) > 0 := by omega
                    have m2c : (0 : Int) < (k : Int) := by omega
                    have m3 : ((bsum (stR xd) : Int) == tg) = true := by simp [hbk hk0]
                    clear hbk
                    go_wp2_with fail
                    refine cT.mono ?_
                    rintro e w6 ⟨rfl, hb6⟩
                    go_wp2_with fail
                    exact ⟨⟨k + 1, _, by omega, by go_num, rfl, Hnew, chain hW5 hb6⟩, by simp [Go.RowKit.intOf]; omega⟩
                  · have hk00 : k = 0 := by omega
                    have m2 : ¬ ((k : Int) > 0) := by omega
                    have m2c : ¬ ((0 : Int) < (k : Int)) := by omega
                    clear hbk
                    go_wp2_with fail
                    refine cT.mono ?_
                    rintro e w6 ⟨rfl, hb6⟩
                    go_wp2_with fail
                    exact ⟨⟨k + 1, _, by omega, by go_num, rfl, Hnew, chain hW5 hb6⟩, by simp [Go.RowKit.intOf]; omega⟩
                · have hR' : R = false := by rw [hR2.out]; exact Hbad (fun h => hbk h.2.2.2)
                  subst hR'
                  have hk0 : 0 < k := Nat.pos_of_ne_zero (fun h => hbk (fun h' => absurd h' (by omega)))
                  have m2b : (k : Int) > 0 := by omega
                  have m2c : (0 : Int) < (k : Int) := by omega
                  have m3 : ((bsum (stR xd) : Int) == tg) = false := beq_eq_false_iff_ne.2 (fun h => hbk (fun _ => h))
                  clear Hbad Hstep hR2 hbk cT
                  go_wp2_with fail
                  go_ret
                  exact ⟨rfl, hBT5⟩
              · have hR' : R = false := by rw [hR2.out]; exact Hbad (fun h => hj (by have := h.1; simp [okD] at this; exact this.2))
                subst hR'
                rw [decide_eq_false hj] at cS
                clear Hbad Hstep hR2
                go_wp2_with fail
                refine cS.mono ?_
                rintro e w4 ⟨rfl, hb4⟩
                go_wp2_with fail
                go_ret
                exact ⟨rfl, chain hBT hb4⟩
            · have hR' : R = false := by rw [hR2.out]; exact Hbad (fun h => hq2 (by have := h.1; simp [okD] at this; exact this.1))
              subst hR'
              have m1 : (chk xd == 0) = false := beq_eq_false_iff_ne.2 hq2
              have m1b : (chk xd != 0) = true := bne_iff_ne.2 hq2
              clear Hbad Hstep hR2
              go_wp2_with fail
              go_ret
              exact ⟨rfl, hBT⟩
          · have hR' : R = false := by rw [hR2.out]; exact Hbad (fun h => hq1 h.2.2.1)
            subst hR'
            subst hq
            have n2 : E.s - (E.p.length : Int) + 1 + (k : Int) < 1 := by omega
            clear Hbad Hstep hR2 cN
            go_wp2_with fail
            go_ret
            exact ⟨rfl, chain hB hAx⟩
        · have hR' : R = false := by rw [hR2.out]; exact Hbad (fun h => hq h.2.1)
          subst hR'
          have n1 : (xq == E.s - (E.p.length : Int) + 1 + (k : Int)) = false := beq_eq_false_iff_ne.2 hq
          clear Hbad Hstep hR2 cN
          go_wp2_with fail
          go_ret
          exact ⟨rfl, chain hB hAx⟩
      · have hlt' : ¬ (k : Int) < (E.p.length : Int) := by omega
        have hkl : k = E.p.length := by omega
        subst hkl
        have hR' : R = (decide (E.p.length = 0) || decide (tg = cpl E.t)) := by rw [hR2.out]; exact mr_end hs0 HI.out
        clear hR2 HI hc
        by_cases h0 : E.p.length = 0
        · have hR3 : R = true := by rw [hR']; simp [h0]
          subst hR3
          have n1 : ((E.p.length : Int) == 0) = true := beq_iff_eq.2 (by omega)
          clear h0 hR'
          go_wp2_with fail
          go_ret
          exact ⟨rfl, hB⟩
        · have hR3 : R = decide (tg = cpl E.t) := by rw [hR']; simp [h0]
          have n1 : ((E.p.length : Int) == 0) = false := beq_eq_false_iff_ne.2 (by omega)
          clear hR' h0
          by_cases h9 : tg = cpl E.t
          · have hR4 : R = true := by rw [hR3]; simp [h9]
            subst hR4
            have n2 : (tg == cpl E.t) = true := by simp [h9]
            clear h9 hR3
            go_wp2_with fail
            go_ret
            exact ⟨rfl, hB⟩
          · have hR4 : R = false := by rw [hR3]; simp [h9]
            subst hR4
            have n2 : (tg == cpl E.t) = false := by simp [h9]
            clear h9 hR3
            go_wp2_with fail
            go_ret
            exact ⟨rfl, hB⟩
  · have h8' : (E.p.length : Int) > 8 := by omega
    have h8d : (8 : Int) < (E.p.length : Int) := by omega
    have hR' : R = false := by
      rw [hR2.out]
      unfold mayW
      have : ¬ (E.p.length : Int) ≤ min 8 E.s := by omega
      simp [this]
    subst hR'
    clear hR2
    go_wp2_with fail
    refine (c1 _).mono ?_
    rintro e w2 ⟨rfl, rfl⟩
    go_wp2_with fail
    refine (c2 _).mono ?_
    rintro e w2 ⟨rfl, rfl⟩
    go_wp2_with fail
    refine (c3 _).mono ?_
    rintro e w2 ⟨rfl, rfl⟩
    go_wp2_with fail
    refine (c4 _).mono ?_
    rintro e w2 ⟨rfl, rfl⟩
    go_wp2_with fail
    refine (c5 _).mono ?_
    rintro e w2 ⟨rfl, rfl⟩
    go_wp2_with fail
    go_ret
    exact ⟨rfl, hB1⟩
end Go.Proofs.YtcdnlkhjlgaaoaaDoor
