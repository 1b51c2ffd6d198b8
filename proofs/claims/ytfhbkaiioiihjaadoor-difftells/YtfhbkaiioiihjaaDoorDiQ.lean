/-
  The contracts of the reference's Common and Diff.
-/
import Derived.Test.YtfhbkaiioiihjaaDoorDiO
namespace Go.Proofs.YtfhbkaiioiihjaaDoor
open Go.ChangeShapes Go.WideShapes Go.ChangeAt Go.RowKit Go.PlainAid

theorem ptB_le (n : Nat) : (ptB n).length ≤ 4 := by
  unfold ptB
  repeat' split
  all_goals simp
theorem rdv_row {W : World} {g m c : Nat} {xs : List Value} {t : TypeId} (h : W.heap[g]? = some (.cells xs.toArray t)) (hm : xs.length = m) : RdV W (.slice (some ⟨g, 0, none⟩) m c) xs := by
  subst hm
  refine ⟨_, _, rfl, fun i x hx => ⟨g, 0, rfl, heap_lt h, ?_⟩⟩
  rw [Nat.zero_add, cell_of_row _ _ i _ _ (0, 0) h]
  simpa using hx

set_option maxRecDepth 20000 in
set_option maxHeartbeats 1000000 in
theorem rcommon_any (a b : ByteArray) (w : World) (ha : a.size ≤ 1048576) (hb : b.size ≤ 1048576) :
    Calls Tryd.prog 10 #[.string a, .string b] w fun e w' => e = .returned (.tuple #[.int .i64 (if ptE a b = 0 then (lc (pts a) (pts b) : Int) else 0), .int .i64 (ptE a b)]) ∧ Below w.heap.size w w' := by
  have cP := rpoints_any a b w ha hb
  by_cases c : ptE a b = 0
  · obtain ⟨c1, c2, d1, d2⟩ := ptE_zero c
    have lA := pts_len c1
    have lB := pts_len c2
    have cT := fun W vA vB h1 h2 => rtable_any (w := W) (vA := vA) (vT := vB) (A := pts a) (T := pts b) h1 h2 (by omega) (by omega)
    rw [if_pos c]
    rw [c] at cP ⊢
    clear c c1 c2 d1 d2 lA lB
    generalize pts a = A at *
    generalize pts b = T at *
    go_enter Tryd.func10, Tryd.ntmps10
    go_wp2_with fail
    refine cP.mono ?_
    rintro e w1 ⟨vA, vB, rfl, hr, hb1⟩
    obtain ⟨h1, h2⟩ := hr (by first | rfl | trivial)
    clear cP
    go_wp2_with fail
    refine (cT _ _ _ h1 h2).mono ?_
    rintro e w2 ⟨R, F, rfl, hp, hl⟩
    have q := hp.cell 0 (Nat.le_refl _) (Nat.zero_le _)
    have q2 := (hp.row 0 (Nat.le_refl _) (Nat.zero_le _)).cell 0 (by omega)
    have e0 := hl 0 0 (Nat.le_refl _) (Nat.zero_le _) (Nat.zero_le _)
    simp only [List.drop_zero] at e0
    rw [e0] at q2
    have HB : Hid (Below w.heap.size w w2) := chain hb1 hp.bel
    clear cT h1 h2 hr hp hl hb1 e0
    generalize hn : lc A T = n at q2
    have HN : Hid (lc A T = n) := hn
    clear hn
    go_wp2_with fail
    go_ret2
    rw [HN.out]
    exact ⟨rfl, HB.out⟩
  · rw [if_neg c]
    have c' : (ptE a b != 0) = true := by simpa using c
    generalize ptE a b = x at *
    go_enter Tryd.func10, Tryd.ntmps10
    go_wp2_with fail
    refine cP.mono ?_
    rintro e w1 ⟨vA, vB, rfl, -, hb1⟩
    go_wp2_with fail
    go_ret2
    exact ⟨rfl, hb1⟩

set_option maxRecDepth 20000 in
set_option maxHeartbeats 1000000 in
theorem rdiff_any (a b : ByteArray) (w : World) (ha : a.size ≤ 1048576) (hb : b.size ≤ 1048576) :
    Calls Tryd.prog 9 #[.string a, .string b] w fun e w' => ∃ u, e = .returned (.tuple #[u, .int .i64 (diR a b).2]) ∧ w'.ownsRow w.heap.size 60 3 u (diR a b).1.length (ocs (diR a b).1) ∧ Below w.heap.size w w' := by
  have cP := rpoints_any a b w ha hb
  by_cases c : ptE a b = 0
  · obtain ⟨c1, c2, d1, d2⟩ := ptE_zero c
    have lA := pts_len c1
    have lB := pts_len c2
    have hp := pts_ok c2
    have mA : (pts a).length ≤ 1000 := by omega
    have mT : (pts b).length ≤ 1000 := by omega
    have cT := fun W vA vB h1 h2 => rtable_any (w := W) (vA := vA) (vT := vB) (A := pts a) (T := pts b) h1 h2 mA mT
    have HD : Hid ((diR a b).1 = (nfU (alU (pts a) (pts b))).map PS.op ∧ (diR a b).2 = 0) := by
      have hu := uops (alU_pts (pts a) (pts b) hp) (by rw [alU_base]; exact mA) (by rw [alU_targ]; exact mT)
      have e : diR a b = (jn (stR ((alU (pts a) (pts b)).map uop)), chk ((alU (pts a) (pts b)).map uop)) := by rw [diR, if_pos c]
      rw [e]
      exact ⟨by rw [jn_eq (stR_ok (uop_in _)), hu.2], hu.1⟩
    rw [c] at cP
    clear c c1 c2 d1 d2 lA lB
    rw [HD.out.1, HD.out.2]
    clear HD
    generalize pts a = A at *
    generalize pts b = T at *
    have hmk1 := make_str (A.length + 1) (by omega)
    have hmk2 := make_boo A.length (by omega)
    rw [show ((A.length + 1 : Nat) : Int) = (A.length : Int) + 1 by omega] at hmk1
    go_enter Tryd.func9, Tryd.ntmps9
    go_wp2_with fail
    refine cP.mono ?_
    rintro e w1 ⟨vA, vB, rfl, hr, hb1⟩
    obtain ⟨h1, h2⟩ := hr (by first | rfl | trivial)
    clear cP hr
    go_wp2_with fail
    refine (cT _ _ _ h1 h2).mono ?_
    rintro e w2 ⟨R, F, rfl, hp2, hl⟩
    have h1 := h1.below hp2.bel
    have h2 := h2.below hp2.bel
    have hg : w1.heap.size < w2.heap.size := heap_lt hp2.top
    have b2 := chain hb1 hp2.bel
    clear cT hb1
    obtain ⟨ao, ap, rfl, -, hc⟩ := h1
    obtain ⟨bo, bp, rfl, hbp, hd⟩ := h2
    have mA' : (A.length : Int) ≤ 1000 := by omega
    have mT' : (T.length : Int) ≤ 1000 := by omega
    go_upto_region 5 with fail
    go_cut [10] (fun p wx => ∃ pb gi gg, p = .pointer (some ⟨pb, 0, none⟩) ∧ FB A.length w2 wx pb gi gg (List.replicate (A.length + 1) ⟨#[]⟩) (List.replicate A.length false))
    case first =>
      go_region
      all_goals
        go_wp2_with fail
        go_meet
      all_goals first
        | exact ⟨w2.heap.size, w2.heap.size + 1, w2.heap.size + 1 + 1, rfl, fb_mk (al0 w2 _ _ _) (al1 w2 _ _ _) (al2 w2 _ _ _) (by omega) (by omega) (by omega) (alb w2 _ _ _)⟩
        | exact ⟨w2.heap.size, w2.heap.size + 1 + 1, w2.heap.size + 1, rfl, fb_mk (al0 w2 _ _ _) (al2 w2 _ _ _) (al1 w2 _ _ _) (by omega) (by omega) (by omega) (alb w2 _ _ _)⟩
        | exact ⟨w2.heap.size + 1, w2.heap.size, w2.heap.size + 1 + 1, rfl, fb_mk (al1 w2 _ _ _) (al0 w2 _ _ _) (al2 w2 _ _ _) (by omega) (by omega) (by omega) (alb w2 _ _ _)⟩
        | exact ⟨w2.heap.size + 1, w2.heap.size + 1 + 1, w2.heap.size, rfl, fb_mk (al1 w2 _ _ _) (al2 w2 _ _ _) (al0 w2 _ _ _) (by omega) (by omega) (by omega) (alb w2 _ _ _)⟩
        | exact ⟨w2.heap.size + 1 + 1, w2.heap.size, w2.heap.size + 1, rfl, fb_mk (al2 w2 _ _ _) (al0 w2 _ _ _) (al1 w2 _ _ _) (by omega) (by omega) (by omega) (alb w2 _ _ _)⟩
        | exact ⟨w2.heap.size + 1 + 1, w2.heap.size + 1, w2.heap.size, rfl, fb_mk (al2 w2 _ _ _) (al1 w2 _ _ _) (al0 w2 _ _ _) (by omega) (by omega) (by omega) (alb w2 _ _ _)⟩
    case rest =>
      obtain ⟨pb, gi, gg, rfl, hF0⟩ := hcut
      have df0 := df_start A T
      clear hmk1 hmk2
      go_wp2_with fail
      go_loopw [11, 12] (fun p q wr => ∃ (i j : Nat) (ins : List ByteArray) (gone : List Bool), p = .int .i64 (i : Int) ∧ q = .int .i64 (j : Int) ∧ FB A.length w2 wr pb gi gg ins gone ∧ Df A T i j ins gone) (fun p q _ => A.length + T.length - ((Go.RowKit.intOf p).toNat + (Go.RowKit.intOf q).toNat))
      case atStart => exact ⟨0, 0, _, _, rfl, rfl, hF0, df0⟩
      case round =>
        obtain ⟨i, j, ins, gone, rfl, rfl, hB, hD0⟩ := hrel
        clear hF0 df0
        have hi := hD0.hi
        have hj := hD0.hj
        by_cases ci : i < A.length
        · have ci' : (i : Int) < (A.length : Int) := by omega
          obtain ⟨b, off, rfl, hlt, cA⟩ := hc (by omega)
          have cA := (hB.bel.cell (p := ⟨b, off + i, none⟩) hlt).trans (cA i ci)
          rw [show A.getD i 0 = A[i] by simp [ci]] at cA
          by_cases cj : j < T.length
          · have cj' : (j : Int) < (T.length : Int) := by omega
            obtain ⟨b2, off2, rfl, hlt2, cB⟩ := hd (by omega)
            have cB := (hB.bel.cell (p := ⟨b2, off2 + j, none⟩) hlt2).trans (cB j cj)
            rw [show T.getD j 0 = T[j] by simp [cj]] at cB
            have n1 : ¬ j = T.length := by omega
            have n2 : ¬ (j : Int) = (T.length : Int) := by omega
            have n3 : (j == T.length) = false := by simpa using n1
            have n4 : decide (j = T.length) = false := by simpa using n1
            have n5 : ((j : Int) == (T.length : Int)) = false := by simpa using n2
            have dA := drop_at ci
            have dT := drop_at cj
            have hy := hp T[j] (by simp)
            clear hc hd hp
            by_cases e : A[i] = T[j]
            · have HW : Hid (alU (A.drop i) (T.drop j) = .K :: alU (A.drop (i + 1)) (T.drop (j + 1))) := by show _ = _; rw [dA, dT, e, alU_same]
              clear dA dT hl hp2 hy
              rw [e] at cA
              generalize T[j] = y at *
              clear e
              have HD : Hid _ := hD0.keep HW.out ci cj
              clear hD0
              go_upto_region 12 with fail
              go_quiet (fail)
              have hD : Below wr.heap.size wr (wr.drewN nq) := below_drewN (Below.refl _ _) _
              have hB := hB.below hD
              clear hD
              generalize wr.drewN nq = wr at *
              have HB : Hid _ := hB
              clear hB
              go_wp2_with fail
              exact ⟨⟨i + 1, j + 1, _, _, by go_num, by go_num, HB.out, HD.out⟩, by simp only [Go.RowKit.intOf]; omega⟩
            · have f1 := hl (i + 1) j (by omega) (by omega) (by omega)
              have f2 := hl i (j + 1) (by omega) (by omega) (by omega)
              have hR1 : R (i + 1) < w2.heap.size := heap_lt (hp2.row (i + 1) (by omega) (by omega))
              have hR0 : R i < w2.heap.size := heap_lt (hp2.row i (by omega) (by omega))
              have t0 := (hB.bel.cell (p := ⟨w1.heap.size, i, none⟩) hg).trans (hp2.cell i (by omega) (by omega))
              have t1 := (hB.bel.cell (p := ⟨w1.heap.size, i + 1, none⟩) hg).trans (hp2.cell (i + 1) (by omega) (by omega))
              have q1 := (hB.bel.cell (p := ⟨R (i + 1), j, none⟩) hR1).trans ((hp2.row (i + 1) (by omega) (by omega)).cell j (by omega))
              have q2 := (hB.bel.cell (p := ⟨R i, j + 1, none⟩) hR0).trans ((hp2.row i (by omega) (by omega)).cell (j + 1) (by omega))
              rw [f1] at q1
              rw [f2] at q2
              have e2 : (A[i] == T[j]) = false := by simpa using e
              by_cases c : lc (A.drop i) (T.drop (j + 1)) ≤ lc (A.drop (i + 1)) (T.drop j)
              · have HW : Hid (alU (A.drop i) (T.drop j) = .R :: alU (A.drop (i + 1)) (T.drop j)) := by
                  show _ = _
                  rw [dA, dT] at c ⊢
                  exact alU_gone e c
                clear dA dT f1 f2 hl hp2 hy
                generalize lc (A.drop i) (T.drop (j + 1)) = u2 at *
                generalize lc (A.drop (i + 1)) (T.drop j) = u1 at *
                have c' : (u2 : Int) ≤ (u1 : Int) := by omega
                generalize A[i] = x at *
                generalize T[j] = y at *
                go_upto_region 12 with fail
                go_quiet (fail)
                have hD : Below wr.heap.size wr (wr.drewN nq) := below_drewN (Below.refl _ _) _
                have t0 := (hD.cell (p := ⟨w1.heap.size, _, none⟩) (Nat.lt_of_lt_of_le hg hB.bel.size)).trans t0
                have t1 := (hD.cell (p := ⟨w1.heap.size, _, none⟩) (Nat.lt_of_lt_of_le hg hB.bel.size)).trans t1
                have q1 := (hD.cell (p := ⟨R (i + 1), _, none⟩) (Nat.lt_of_lt_of_le hR1 hB.bel.size)).trans q1
                have q2 := (hD.cell (p := ⟨R i, _, none⟩) (Nat.lt_of_lt_of_le hR0 hB.bel.size)).trans q2
                have hB := hB.below hD
                clear hD
                generalize wr.drewN nq = wr at *
                clear cA cB
                go_upto_region 15 with fail
                go_quiet (fail)
                have hD : Below wr.heap.size wr (wr.drewN nq) := below_drewN (Below.refl _ _) _
                have hB := hB.below hD
                clear hD
                generalize wr.drewN nq = wr at *
                have q0 := fb_c1 hB
                have cg := fb_cg hB i (by rw [hD0.lg]; omega)
                have zg := fb_zg hB i
                have HB : Hid _ := hB.setG i true
                have HD : Hid _ := hD0.gone HW.out ci
                clear hB hD0
                go_wp2_with fail
                exact ⟨⟨i + 1, j, _, _, by go_num, by go_num, HB.out, HD.out⟩, by simp only [Go.RowKit.intOf]; omega⟩
              · have HW : Hid (alU (A.drop i) (T.drop j) = .I T[j] :: alU (A.drop i) (T.drop (j + 1))) := by
                  show _ = _
                  rw [dT] at c ⊢
                  rw [dA] at c ⊢
                  exact alU_put e c
                clear dA dT f1 f2 hl hp2
                generalize lc (A.drop i) (T.drop (j + 1)) = u2 at *
                generalize lc (A.drop (i + 1)) (T.drop j) = u1 at *
                have c' : ¬ (u2 : Int) ≤ (u1 : Int) := by omega
                generalize A[i] = x at *
                generalize T[j] = y at *
                go_upto_region 12 with fail
                go_quiet (fail)
                have hD : Below wr.heap.size wr (wr.drewN nq) := below_drewN (Below.refl _ _) _
                have t0 := (hD.cell (p := ⟨w1.heap.size, _, none⟩) (Nat.lt_of_lt_of_le hg hB.bel.size)).trans t0
                have t1 := (hD.cell (p := ⟨w1.heap.size, _, none⟩) (Nat.lt_of_lt_of_le hg hB.bel.size)).trans t1
                have q1 := (hD.cell (p := ⟨R (i + 1), _, none⟩) (Nat.lt_of_lt_of_le hR1 hB.bel.size)).trans q1
                have q2 := (hD.cell (p := ⟨R i, _, none⟩) (Nat.lt_of_lt_of_le hR0 hB.bel.size)).trans q2
                have cB := (hD.cell (p := ⟨b2, _, none⟩) (Nat.lt_of_lt_of_le hlt2 hB.bel.size)).trans cB
                have hB := hB.below hD
                clear hD
                generalize wr.drewN nq = wr at *
                clear cA
                go_upto_region 15 with fail
                go_quiet (fail)
                have hD : Below wr.heap.size wr (wr.drewN nq) := below_drewN (Below.refl _ _) _
                have cB := (hD.cell (p := ⟨b2, _, none⟩) (Nat.lt_of_lt_of_le hlt2 hB.bel.size)).trans cB
                have hB := hB.below hD
                clear hD
                generalize wr.drewN nq = wr at *
                have hsl := slice_mid b2 off2 T.length bp j 1 (by omega) hbp (by omega)
                have cX := refText_any (.slice (some ⟨b2, off2 + j, none⟩) 1 (bp - j)) [y] wr (by simp) (.inr ⟨b2, off2 + j, bp - j, rfl, fun q hq => by simp at hq; subst hq; simpa using cB⟩)
                have hxe : textR [y] = (mk (enc [y]), true) := by rw [textR, if_pos (fun z hz => by simp at hz; rw [hz]; exact hy)]
                rw [hxe, show enc [y] = ptB y.toNat by simp [enc]] at cX
                simp only at cX
                clear hxe
                go_wp2_with fail
                refine cX.mono ?_
                rintro e w5 ⟨rfl, hb5⟩
                have hB := (hB.below hb5).drew
                have hD2 := df_put hD0 HW.out hy (by omega)
                have hm := hD0.v (ins.getD i ⟨#[]⟩) (by rw [List.getD_eq_getElem?_getD, List.getElem?_eq_getElem (by rw [hD0.li]; omega)]; exact List.getElem_mem _)
                have d1 := data_len (ins.getD i ⟨#[]⟩)
                have d2 : (mk (ptB y.toNat)).data.toList.length ≤ 4 := by rw [mk_toList]; exact ptB_le _
                have had := fun W => pk.add_mk (ins.getD i ⟨#[]⟩).data.toList (mk (ptB y.toNat)).data.toList W (by omega)
                rw [mk_data, mk_data] at had
                have q0 := fb_c0 hB
                have ci0 := fb_ci hB i (by rw [hD0.li]; omega)
                have zi := fb_zi hB i
                have hS := hB.setI i (mk ((ins.getD i ⟨#[]⟩).data.toList ++ (mk (ptB y.toNat)).data.toList))
                have HB : Hid _ := hS
                have HD : Hid _ := hD2
                have i1 : (i : Int) < (A.length : Int) + 1 := by omega
                clear hS hD2 hD0 hB hm d1 d2 cX hsl cB hb5
                generalize mk ((ins.getD i ⟨#[]⟩).data.toList ++ (mk (ptB y.toNat)).data.toList) = S at *
                generalize ins.getD i ⟨#[]⟩ = s0 at *
                generalize mk (ptB y.toNat) = sy at *
                go_upto_region 10 with fail
                go_region
                go_wp2_with fail
                exact ⟨⟨i, j + 1, _, _, by go_num, by go_num, HB.out, HD.out⟩, by simp only [Go.RowKit.intOf]; omega⟩
          · obtain rfl : j = T.length := by omega
            have HW : Hid (alU (A.drop i) (T.drop T.length) = .R :: alU (A.drop (i + 1)) (T.drop T.length)) := by show _ = _; rw [List.drop_length, drop_at ci, alU]
            clear hc hd hp hl hp2 cA
            go_upto_region 12 with fail
            go_quiet (fail)
            have hD : Below wr.heap.size wr (wr.drewN nq) := below_drewN (Below.refl _ _) _
            have hB := hB.below hD
            clear hD
            generalize wr.drewN nq = wr at *
            go_upto_region 15 with fail
            go_quiet (fail)
            have hD : Below wr.heap.size wr (wr.drewN nq) := below_drewN (Below.refl _ _) _
            have hB := hB.below hD
            clear hD
            generalize wr.drewN nq = wr at *
            have q0 := fb_c1 hB
            have cg := fb_cg hB i (by rw [hD0.lg]; omega)
            have zg := fb_zg hB i
            have HB : Hid _ := hB.setG i true
            have HD : Hid _ := hD0.gone HW.out ci
            clear hB hD0
            go_wp2_with fail
            exact ⟨⟨i + 1, T.length, _, _, by go_num, by go_num, HB.out, HD.out⟩, by simp only [Go.RowKit.intOf]; omega⟩
        · obtain rfl : i = A.length := by omega
          by_cases cj : j < T.length
          · have cj' : (j : Int) < (T.length : Int) := by omega
            obtain ⟨b2, off2, rfl, hlt2, cB⟩ := hd (by omega)
            have cB := (hB.bel.cell (p := ⟨b2, off2 + j, none⟩) hlt2).trans (cB j cj)
            rw [show T.getD j 0 = T[j] by simp [cj]] at cB
            have n1 : ¬ j = T.length := by omega
            have n2 : ¬ (j : Int) = (T.length : Int) := by omega
            have n3 : (j == T.length) = false := by simpa using n1
            have n4 : decide (j = T.length) = false := by simpa using n1
            have n5 : ((j : Int) == (T.length : Int)) = false := by simpa using n2
            have hy := hp T[j] (by simp)
            have HW : Hid (alU (A.drop A.length) (T.drop j) = .I T[j] :: alU (A.drop A.length) (T.drop (j + 1))) := by show _ = _; rw [List.drop_length, drop_at cj, alU]
            clear hc hd hp hl hp2
            generalize T[j] = y at *
            go_upto_region 12 with fail
            go_quiet (fail)
            have hD : Below wr.heap.size wr (wr.drewN nq) := below_drewN (Below.refl _ _) _
            have cB := (hD.cell (p := ⟨b2, _, none⟩) (Nat.lt_of_lt_of_le hlt2 hB.bel.size)).trans cB
            have hB := hB.below hD
            clear hD
            generalize wr.drewN nq = wr at *
            go_upto_region 15 with fail
            go_quiet (fail)
            have hD : Below wr.heap.size wr (wr.drewN nq) := below_drewN (Below.refl _ _) _
            have cB := (hD.cell (p := ⟨b2, _, none⟩) (Nat.lt_of_lt_of_le hlt2 hB.bel.size)).trans cB
            have hB := hB.below hD
            clear hD
            generalize wr.drewN nq = wr at *
            have hsl := slice_mid b2 off2 T.length bp j 1 (by omega) hbp (by omega)
            have cX := refText_any (.slice (some ⟨b2, off2 + j, none⟩) 1 (bp - j)) [y] wr (by simp) (.inr ⟨b2, off2 + j, bp - j, rfl, fun q hq => by simp at hq; subst hq; simpa using cB⟩)
            have hxe : textR [y] = (mk (enc [y]), true) := by rw [textR, if_pos (fun z hz => by simp at hz; rw [hz]; exact hy)]
            rw [hxe, show enc [y] = ptB y.toNat by simp [enc]] at cX
            simp only at cX
            clear hxe
            go_wp2_with fail
            refine cX.mono ?_
            rintro e w5 ⟨rfl, hb5⟩
            have hB := (hB.below hb5).drew
            have hD2 := df_put hD0 HW.out hy (by omega)
            have hm := hD0.v (ins.getD A.length ⟨#[]⟩) (by rw [List.getD_eq_getElem?_getD, List.getElem?_eq_getElem (by rw [hD0.li]; omega)]; exact List.getElem_mem _)
            have d1 := data_len (ins.getD A.length ⟨#[]⟩)
            have d2 : (mk (ptB y.toNat)).data.toList.length ≤ 4 := by rw [mk_toList]; exact ptB_le _
            have had := fun W => pk.add_mk (ins.getD A.length ⟨#[]⟩).data.toList (mk (ptB y.toNat)).data.toList W (by omega)
            rw [mk_data, mk_data] at had
            have q0 := fb_c0 hB
            have ci0 := fb_ci hB A.length (by rw [hD0.li]; omega)
            have zi := fb_zi hB A.length
            have hS := hB.setI A.length (mk ((ins.getD A.length ⟨#[]⟩).data.toList ++ (mk (ptB y.toNat)).data.toList))
            have HB : Hid _ := hS
            have HD : Hid _ := hD2
            have i1 : (A.length : Int) < (A.length : Int) + 1 := by omega
            clear hS hD2 hD0 hB hm d1 d2 cX hsl cB hb5
            generalize mk ((ins.getD A.length ⟨#[]⟩).data.toList ++ (mk (ptB y.toNat)).data.toList) = S at *
            generalize ins.getD A.length ⟨#[]⟩ = s0 at *
            generalize mk (ptB y.toNat) = sy at *
            go_upto_region 10 with fail
            go_region
            go_wp2_with fail
            exact ⟨⟨A.length, j + 1, _, _, by go_num, by go_num, HB.out, HD.out⟩, by simp only [Go.RowKit.intOf]; omega⟩
          · obtain rfl : j = T.length := by omega
            have hfw := hD0.done
            have cU := fun W h1 h2 => built_any (.slice (some ⟨gi, 0, none⟩) (A.length + 1) (A.length + 1)) (.slice (some ⟨gg, 0, none⟩) A.length A.length) ins gone W h1 h2 (by rw [hD0.li, hD0.lg]) (by rw [hD0.lg]; omega) (fun t ht => ⟨(hD0.v t ht).1, by have := (hD0.v t ht).2; omega⟩)
            rw [hfw] at cU
            have ri := rdv_row (m := A.length + 1) (c := A.length + 1) hB.ir (by rw [List.length_map]; exact hD0.li)
            have rg := rdv_row (m := A.length) (c := A.length) hB.gr (by rw [List.length_map]; exact hD0.lg)
            have cU := cU wr ri rg
            have q0 := fb_c0 hB
            have q1 := fb_c1 hB
            have HB : Hid (Below w.heap.size w wr) := chain b2 hB.bel
            clear hc hd hp hl hp2 hfw ri rg hB hD0
            go_wp2_with fail
            refine cU.mono ?_
            rintro e w6 ⟨u6, rfl, ho6, hb6⟩
            rw [← List.length_map (f := PS.op)] at ho6
            have HR : Hid _ := And.intro (own_lower ho6 HB.out.size) (chain HB.out hb6)
            clear ho6 hb6 cU
            go_wp2_with fail
            go_ret2
            exact ⟨_, rfl, HR.out.1, HR.out.2⟩
  · have HD : Hid (diR a b = ([], ptE a b)) := diR_no c
    have c' : (ptE a b != 0) = true := by simpa using c
    generalize ptE a b = x at *
    go_enter Tryd.func9, Tryd.ntmps9
    go_wp2_with fail
    refine cP.mono ?_
    rintro e w1 ⟨vA, vB, rfl, -, hb1⟩
    go_wp2_with fail
    go_ret2
    rw [HD.out]
    exact ⟨_, rfl, World.ownsRow_nil _ _ _ _, hb1⟩
end Go.Proofs.YtfhbkaiioiihjaaDoor
