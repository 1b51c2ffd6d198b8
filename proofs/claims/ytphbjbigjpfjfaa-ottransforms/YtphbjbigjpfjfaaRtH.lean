/-
  The contract of the reference's Transform; what it gives is what Transform gives.
-/
import Derived.Test.YtphbjbigjpfjfaaOtMOtNOtOOtPOtQOtInOtYOtYbOtCnRtG
import Derived.Test.YtphbjbigjpfjfaaRtB
namespace Go.Proofs.Ytphbjbigjpfjfaa
open Go.ChangeShapes Go.WideShapes Go.ChangeAt Go.RowKit Go.PlainAid

/-- A form that lies there: its box, its rows. -/
structure FR (W : World) (b : Nat) (vi vg : Value) (ins : List ByteArray) (gone : List Bool) : Prop where
  box : W.heap[b]? = some (.cells #[vi, vg] 57 (0, 0))
  i : RdV W vi (ins.map Value.string)
  g : RdV W vg (gone.map Value.bool)
section
variable {W W' : World} {b : Nat} {vi vg : Value} {ins : List ByteArray} {gone : List Bool}
theorem FR.below (h : FR W b vi vg ins gone) (hb : Below W.heap.size W W') : FR W' b vi vg ins gone := ⟨(hb.block _ (heap_lt h.box)).trans h.box, h.i.below hb, h.g.below hb⟩
theorem FR.made (hi : RdV W vi (ins.map Value.string)) (hg : RdV W vg (gone.map Value.bool)) : FR (W.alloc (.cells #[vi, vg] 57)) W.heap.size vi vg ins gone := ⟨heap_alloc_new W _, hi.below (grow1 W _), hg.below (grow1 W _)⟩
theorem FR.c0 (h : FR W b vi vg ins gone) : W.cell? ⟨b, 0, none⟩ = some vi := cell_of_row _ _ 0 _ _ (0, 0) h.box
theorem FR.c1 (h : FR W b vi vg ins gone) : W.cell? ⟨b, 1, none⟩ = some vg := cell_of_row _ _ 1 _ _ (0, 0) h.box
end
/-- The places of a form, one by one. -/
theorem fS_get {ins : List ByteArray} {gone : List Bool} {k : Nat} (hk : k < gone.length + 1) : ∃ s, (fS ins gone)[k]? = some s ∧ s.put = ins.getD k ⟨#[]⟩ ∧ (k < gone.length → s.k = if gone.getD k false then 3 else 1) ∧ (k = gone.length → s.k = 0) := by
  have hl : k < (fS ins gone).length := by rw [fS_len]; exact hk
  exact ⟨_, List.getElem?_eq_getElem hl, fS_at ins gone k _ (List.getElem?_eq_getElem hl)⟩

theorem rdv_cell {W : World} {ao : Option Addr} {m cp : Nat} {xs : List Value} (h : RdV W (.slice ao m cp) xs) {k : Nat} {x : Value} (hx : xs[k]? = some x) : ∃ b off, ao = some ⟨b, off, none⟩ ∧ b < W.heap.size ∧ W.cell? ⟨b, off + k, none⟩ = some x := by
  obtain ⟨ao', cp', e, h1⟩ := h
  simp at e
  obtain ⟨rfl, _, rfl⟩ := e
  exact h1 k x hx

set_option maxRecDepth 20000 in
set_option maxHeartbeats 3000000 in
/-- The loop's rounds and what follows them, behind the making of the form. -/
theorem rtransform_any (vA vB : Value) (f : Bool) (A B : List OpD) (w : World) (hA : RdD w vA A) (hB : RdD w vB B) (mA : A.length ≤ maxLen) (mB : B.length ≤ maxLen) (iA : ∀ o ∈ A, o.Sm) (iB : ∀ o ∈ B, o.Sm) :
    Calls Try.prog 15 #[vA, vB, .bool f] w fun e w' => ∃ u, e = .returned (.tuple #[u, .int .i64 (trR f A B).2]) ∧ w'.ownsRow w.heap.size 50 3 u (trR f A B).1.length (ocs (trR f A B).1) ∧ Below w.heap.size w w' := by
  have cK := rchecks_any vA vB A B w hA hB mA mB iA iB
  have jA : ∀ o ∈ A, o.In := fun o ho => sm_in (iA o ho)
  have jB : ∀ o ∈ B, o.In := fun o ho => sm_in (iB o ho)
  by_cases c : chk A = 0 ∧ chk B = 0
  · obtain ⟨c1, c2⟩ := c
    rw [if_pos c1, c2] at cK
    have cA := fun W h => refBase_any vA A W h mA iA
    have cB := fun W h => refBase_any vB B W h mB iB
    have cT := fun W h => refTarget_any vB B W h mB iB
    have fA := fun W h => formed2_any vA A W h mA iA c1
    have fB := fun W h => formed2_any vB B W h mB iB c2
    rw [c1] at cA
    rw [c2] at cB cT
    have bdA := stR_bd A
    have bdB := stR_bd B
    by_cases cb : bsum (stR A) = bsum (stR B)
    · have cb' : ((bsum (stR A) : Int) != (bsum (stR B) : Int)) = false := by simp [cb]
      rw [trR_nf f jA jB c1 c2 cb]
      have hal := (tr_facts f jA jB cb).1
      have nA5 := (normal_facts (stR_ok jA) bdA.1 bdA.2).2.2.2.2
      have nB5 := (normal_facts (stR_ok jB) bdB.1 bdB.2).2.2.2.2
      have tA : tgtU (spW (nS A)) = tsum (stR A) := by rw [nS_word jA, tgt_uw, nA5]
      have tB : tgtU (spW (nS B)) = tsum (stR B) := by rw [nS_word jB, tgt_uw, nB5]
      have hbase : baseU (tfU f (nS A) (nS B)) = tsum (stR B) := by rw [tf_base f hal, tB]
      have htgt := tf_tgt f hal
      have hvA : ∀ s ∈ nS A, 0 ≤ cpl s.put := fun s hs => (nS_ok jA s hs).2.1
      have hvB : ∀ s ∈ nS B, 0 ≤ cpl s.put ∧ s.put.size ≤ 4000 := fun s hs => ⟨(nS_ok jB s hs).2.1, (nS_ok jB s hs).2.2⟩
      have hsum := sumSz_le (nS A) hvA
      have hpU : PtsU (tfU f (nS A) (nS B)) := by
        obtain ⟨f1, f2, f3⟩ := tfP_facts f hal (fun s hs => (nS_ok jA s hs).2) (fun s hs => (nS_ok jB s hs).2)
        rw [← f2, ← uw_st f3]
        exact ptsU_uw (fun s hs => by
          obtain ⟨q, hq, rfl⟩ := List.mem_map.1 hs
          have h1 := f3 q hq
          cases q with
          | keep n => exact ⟨h1, by have := z_base (l := tfP f (nS A) (nS B)) hq (by simp); rw [f2, hbase] at this; simp only [PS.z] at this; omega⟩
          | rem n => exact ⟨h1, by have := z_base (l := tfP f (nS A) (nS B)) hq (by simp); rw [f2, hbase] at this; simp only [PS.z] at this; omega⟩
          | ins p =>
            have e1 := (cpl_enc h1.2).1
            have e2 := (len_z f3).2 _ hq
            have e3 := enc_len p
            rw [f2, targU, tgt_targ, hbase] at e2
            simp only [PS.z] at e2
            exact ⟨by rw [e1]; have := h1.1; omega, by rw [mk_size]; omega⟩)
      obtain ⟨k1, k2⟩ := chk_nf hpU (by omega) (by omega)
      have gA := fun g ins gone (h : FC (stR A) (bsum (stR A)) (stR A).length g ins gone) => And.intro (form_spots jA h) (And.intro h.fi.li h.fi.lg)
      have gB := fun g ins gone (h : FC (stR B) (bsum (stR B)) (stR B).length g ins gone) => And.intro (form_spots jB h) (And.intro h.fi.li h.fi.lg)
      have HNF : Hid (∀ ins gone, baseU (formW ins gone) = tsum (stR B) ∧ mkU 0 (formW ins gone) = mkU 0 (tfU f (nS A) (nS B)) → nfU (formW ins gone) = nfU (tfU f (nS A) (nS B))) := fun ins gone h => nf_of_marks (h.1.trans hbase.symm) h.2
      have hNin : ∀ o ∈ (nfU (tfU f (nS A) (nS B))).map PS.op, o.Sm := by
        intro o ho
        obtain ⟨q, hq, rfl⟩ := List.mem_map.1 ho
        have hn := nf_ok hpU
        have e2 := (len_z hn).2 q hq
        have he := nf_eqv (tfU f (nS A) (nS B))
        rw [he.1, he.targ, targU, tgt_targ, hbase] at e2
        cases q with
        | keep n => show (⟨#[]⟩ : ByteArray).size ≤ _; exact Nat.zero_le _
        | rem n => show (⟨#[]⟩ : ByteArray).size ≤ _; exact Nat.zero_le _
        | ins p =>
          have e3 := enc_len p
          simp only [PS.z] at e2
          show (mk (enc p)).size ≤ _
          rw [mk_size]; omega
      have hlAB : (nS A).length = (nS B).length := by
        have h1 : (nS A).length = bsum (stR (jn (stR A))) + 1 := by rw [nS, spots_len]
        have h2 : (nS B).length = bsum (stR (jn (stR B))) + 1 := by rw [nS, spots_len]
        have e1 := (normal_facts (stR_ok jA) bdA.1 bdA.2).2.2.2.1
        have e2 := (normal_facts (stR_ok jB) bdB.1 bdB.2).2.2.2.1
        omega
      have kC := fun u W h => refCheck_any u ((nfU (tfU f (nS A) (nS B))).map PS.op) W h (by unfold maxLen; omega) hNin
      rw [k1] at kC
      have htl : tsum (stR B) ≤ 1000 := bdB.2
      have hnl : bsum (stR A) ≤ 1000 := bdA.1
      have hs4 : sumSz (nS A) ≤ 4000 := by omega
      rw [← cb] at gB cB fB
      clear c1 c2 nA5 nB5 tA tB htgt hsum hpU bdA bdB hal jA jB iA iB k1 hNin cb
      generalize nS A = SX at *
      generalize nS B = SY at *
      generalize tgtU (tfU f SX SY) = TT at *
      generalize HN : nfU (tfU f SX SY) = N at *
      clear HN
      have hmk1 := make_str (tsum (stR B) + 1) (by omega)
      have hmk2 := make_boo (tsum (stR B)) (by omega)
      generalize tsum (stR B) = t at *
      generalize bsum (stR A) = n at *
      obtain ⟨R, hR⟩ : ∃ R : List OpD × Int, R = if 1000 < TT then ([], 91) else (N.map PS.op, 0) := ⟨_, rfl⟩
      rw [← hR]
      have HR : Hid (R = if 1000 < TT then ([], 91) else (N.map PS.op, 0)) := hR
      clear hR
      have t1 : (t : Int) ≤ 1000 := by omega
      have n1 : (n : Int) ≤ 1000 := by omega
      have e1 : ((t + 1 : Nat) : Int) = (t : Int) + 1 := by omega
      rw [e1] at hmk1
      clear e1
      go_enter Try.func15, Try.ntmps15
      go_wp2_with fail
      refine cK.mono ?_
      rintro e w1 ⟨rfl, hb1⟩
      go_wp2_with fail
      refine (cA _ (hA.below hb1)).mono ?_
      rintro e w2 ⟨rfl, hb2⟩
      have B2 := chain hb1 hb2
      go_wp2_with fail
      refine (cB _ (hB.below B2)).mono ?_
      rintro e w3 ⟨rfl, hb3⟩
      have B3 := chain B2 hb3
      go_wp2_with fail
      refine (fA _ (hA.below B3)).mono ?_
      rintro e w4 ⟨xi, xg, insX, goneX, gx, rfl, qi, qg, hFX, hb4⟩
      obtain ⟨sX, lXi, lXg⟩ := gA _ _ _ hFX
      obtain ⟨xo, xc, exi, _⟩ := id qi
      obtain ⟨xgo, xgc, exg, _⟩ := id qg
      rw [List.length_map, lXi] at exi
      rw [List.length_map, lXg] at exg
      subst exi
      subst exg
      have FX := FR.made qi qg
      have B4 := chain (chain B3 hb4) (grow1 w4 (.cells #[.slice xo (n + 1) xc, .slice xgo n xgc] 57))
      clear qi qg hFX cK cA cB fA hb1 hb2 hb3 hb4 B2 B3
      go_wp2_with fail
      refine (fB _ (hB.below B4)).mono ?_
      rintro e w5 ⟨yi, yg, insY, goneY, gy, rfl, qi, qg, hFY, hb5⟩
      obtain ⟨sY, lYi, lYg⟩ := gB _ _ _ hFY
      obtain ⟨yo, yc, eyi, _⟩ := id qi
      obtain ⟨ygo, ygc, eyg, _⟩ := id qg
      rw [List.length_map, lYi] at eyi
      rw [List.length_map, lYg] at eyg
      subst eyi
      subst eyg
      have FX5 := (FX.below hb5).below (grow1 w5 (.cells #[.slice yo (n + 1) yc, .slice ygo n ygc] 57))
      have FY := FR.made qi qg
      have B5 := chain (chain B4 hb5) (grow1 w5 (.cells #[.slice yo (n + 1) yc, .slice ygo n ygc] 57))
      clear qi qg hFY fB FX B4 hb5 gA gB
      go_wp2_with fail
      refine (cT _ (hB.below B5)).mono ?_
      rintro e w6 ⟨rfl, hb6⟩
      have FX6 := FX5.below hb6
      have FY6 := FY.below hb6
      have B6 := chain B5 hb6
      generalize w4.heap.size = bx at *
      generalize w5.heap.size = byy at *
      clear FX5 FY B5 hb6 cT hA hB mA mB
      go_upto_region 11 with fail
      go_cut [17] (fun p wx => ∃ pb gi gg, p = .pointer (some ⟨pb, 0, none⟩) ∧ FB t w6 wx pb gi gg (List.replicate (t + 1) ⟨#[]⟩) (List.replicate t false))
      case first =>
        go_region
        all_goals
          go_wp2_with fail
          go_meet
        all_goals first
          | exact ⟨w6.heap.size, w6.heap.size + 1, w6.heap.size + 1 + 1, rfl, fb_mk (al0 w6 _ _ _) (al1 w6 _ _ _) (al2 w6 _ _ _) (by omega) (by omega) (by omega) (alb w6 _ _ _)⟩
          | exact ⟨w6.heap.size, w6.heap.size + 1 + 1, w6.heap.size + 1, rfl, fb_mk (al0 w6 _ _ _) (al2 w6 _ _ _) (al1 w6 _ _ _) (by omega) (by omega) (by omega) (alb w6 _ _ _)⟩
          | exact ⟨w6.heap.size + 1, w6.heap.size, w6.heap.size + 1 + 1, rfl, fb_mk (al1 w6 _ _ _) (al0 w6 _ _ _) (al2 w6 _ _ _) (by omega) (by omega) (by omega) (alb w6 _ _ _)⟩
          | exact ⟨w6.heap.size + 1, w6.heap.size + 1 + 1, w6.heap.size, rfl, fb_mk (al1 w6 _ _ _) (al2 w6 _ _ _) (al0 w6 _ _ _) (by omega) (by omega) (by omega) (alb w6 _ _ _)⟩
          | exact ⟨w6.heap.size + 1 + 1, w6.heap.size, w6.heap.size + 1, rfl, fb_mk (al2 w6 _ _ _) (al0 w6 _ _ _) (al1 w6 _ _ _) (by omega) (by omega) (by omega) (alb w6 _ _ _)⟩
          | exact ⟨w6.heap.size + 1 + 1, w6.heap.size + 1, w6.heap.size, rfl, fb_mk (al2 w6 _ _ _) (al1 w6 _ _ _) (al0 w6 _ _ _) (by omega) (by omega) (by omega) (alb w6 _ _ _)⟩
      case rest =>
        obtain ⟨pb, gi, gg, rfl, hF⟩ := hcut
        clear hmk1 hmk2
        have hT0 : TI t (baseU (tfU f (SX.take 0) (SY.take 0))) (sumSz (SX.take 0)) (mkU 0 (tfU f (SX.take 0) (SY.take 0))) (List.replicate (t + 1) ⟨#[]⟩) (List.replicate t false) := by
          have := ti_start t
          simpa [tfU, sumSz, baseU, mkU] using this
        have hg0 : baseU (tfU f (SX.take 0) (SY.take 0)) = 0 := by simp [tfU, baseU]
        go_wp2_with fail
        go_loopw [18, 19] (fun a i wr => ∃ (k : Nat) (ins : List ByteArray) (gone : List Bool), k ≤ n + 1 ∧ i = .int .i64 (k : Int) ∧ a = .int .i64 (baseU (tfU f (SX.take k) (SY.take k)) : Int) ∧ FB t w6 wr pb gi gg ins gone ∧ TI t (baseU (tfU f (SX.take k) (SY.take k))) (sumSz (SX.take k)) (mkU 0 (tfU f (SX.take k) (SY.take k))) ins gone) (fun _ i _ => n + 1 - (Go.RowKit.intOf i).toNat)
        case atStart => exact ⟨0, _, _, by omega, rfl, by rw [hg0]; rfl, hF, hT0⟩
        case round =>
          obtain ⟨k, ins, gone, hk, rfl, rfl, hF1, hT1⟩ := hrel
          clear hF hT0 hg0
          by_cases hkn : k < n + 1
          · obtain ⟨x, hx, xp, xk1, xk0⟩ := fS_get (ins := insX) (gone := goneX) (k := k) (by omega)
            obtain ⟨y, hy, yp, yk1, yk0⟩ := fS_get (ins := insY) (gone := goneY) (k := k) (by omega)
            rw [sX] at hx
            rw [sY] at hy
            rw [lXg] at xk1 xk0
            rw [lYg] at yk1 yk0
            have hvx := hvA x (List.mem_of_getElem? hx)
            have hvy := hvB y (List.mem_of_getElem? hy)
            have hyk : y.k = 1 → x.k = 1 ∨ x.k = 3 := fun h => by
              by_cases c : k < n
              · have := xk1 c
                rw [this]
                cases goneX.getD k false
                · exact .inl rfl
                · exact .inr rfl
              · have := yk0 (by omega); omega
            obtain ⟨hle, hG, hT2⟩ := ti_step f hT1 hx hy hlAB hvx hyk (by omega)
            have hz := sumSz_take SX k
            have hli := hT1.li
            have hlg := hT1.lg
            have hvs := hT1.v
            obtain ⟨xb, xof, exo, hxb, ex⟩ := rdv_cell FX6.i (k := k) (x := .string (insX.getD k ⟨#[]⟩)) (by simp [show k < insX.length by omega])
            obtain ⟨yb, yof, eyo, hyb, ey⟩ := rdv_cell FY6.i (k := k) (x := .string (insY.getD k ⟨#[]⟩)) (by simp [show k < insY.length by omega])
            subst exo
            subst eyo
            rw [← xp] at ex
            rw [← yp] at ey
            clear xp yp
            have hC : ∀ W, Below w6.heap.size w6 W → W.cell? ⟨bx, 0, none⟩ = some (.slice (some ⟨xb, xof, none⟩) (n + 1) xc) ∧ W.cell? ⟨bx, 1, none⟩ = some (.slice xgo n xgc) ∧ W.cell? ⟨byy, 0, none⟩ = some (.slice (some ⟨yb, yof, none⟩) (n + 1) yc) ∧ W.cell? ⟨byy, 1, none⟩ = some (.slice ygo n ygc) ∧ W.cell? ⟨xb, xof + k, none⟩ = some (.string x.put) ∧ W.cell? ⟨yb, yof + k, none⟩ = some (.string y.put) := fun W hb =>
              ⟨(hb.cell (p := ⟨bx, 0, none⟩) (heap_lt FX6.box)).trans FX6.c0, (hb.cell (p := ⟨bx, 1, none⟩) (heap_lt FX6.box)).trans FX6.c1, (hb.cell (p := ⟨byy, 0, none⟩) (heap_lt FY6.box)).trans FY6.c0, (hb.cell (p := ⟨byy, 1, none⟩) (heap_lt FY6.box)).trans FY6.c1, (hb.cell (p := ⟨xb, xof + k, none⟩) hxb).trans ex, (hb.cell (p := ⟨yb, yof + k, none⟩) hyb).trans ey⟩
            have hLy := fun W => refLen_any y.put W (by have := hvy.2; omega)
            have hny := pts_len (t := y.put) hvy.1
            rw [← hny] at hLy
            clear hny
            have hob : outB y = (pts y.put).length + (if y.k = 1 then 1 else 0) := rfl
            have hxs : x.put.size ≤ 4000 := by
              have e1 : SX.take (k + 1) = SX.take k ++ [x] := by rw [List.take_add_one, hx]; rfl
              have e2 : sumSz (SX.take (k + 1)) = sumSz (SX.take k) + x.put.size := by rw [e1]; simp [sumSz]
              have := sumSz_take SX (k + 1)
              omega
            have kn' : (k : Int) ≤ (n : Int) := by omega
            have kn1 : (k : Int) < (n : Int) + 1 := by omega
            have hz2 : sumSz (SX.take k) ≤ 4000 := by omega
            clear hx hy hT1 hvx hvy hyk sX sY ex ey hbase hlAB hvA hvB HNF kC HR k2 hz
            have HG : Hid (baseU (tfU f (SX.take (k + 1)) (SY.take (k + 1))) = baseU (tfU f (SX.take k) (SY.take k)) + outB y) := hG
            clear hG
            generalize baseU (tfU f (SX.take k) (SY.take k)) = g at *
            generalize (pts y.put).length = ny at *
            have gle : g + ny ≤ t := by rw [hob] at hle; omega
            have g1 : (g : Int) + (ny : Int) < (t : Int) + 1 := by omega
            have g2 : (0 : Int) ≤ (g : Int) + (ny : Int) := by omega
            have g3 : (g : Int) < (t : Int) + 1 := by omega
            have g4 : (0 : Int) ≤ (g : Int) := by omega
            have hwg : IntKind.i64.wrap (g : Int) = (g : Int) := wraps_i64 _ (by omega) (by omega)
            have hwk : IntKind.i64.wrap (k : Int) = (k : Int) := wraps_i64 _ (by omega) (by omega)
            have hwn : IntKind.i64.wrap ((g : Int) + (ny : Int)) = (g : Int) + (ny : Int) := wraps_i64 _ (by omega) (by omega)
            have hLG : ∀ (W : World) (ag : Option Addr) (cp : Nat) (l : List Bool), RdV W (.slice ag n cp) (l.map Value.bool) → l.length = n → k < n → ∃ b off, ag = some ⟨b, off, none⟩ ∧ b < W.heap.size ∧ W.cell? ⟨b, off + k, none⟩ = some (.bool (l.getD k false)) := fun W ag cp l h hl hkk => rdv_cell h (by simp [show k < l.length by omega])
            have hGX := hLG _ _ _ _ FX6.g lXg
            have hGY := hLG _ _ _ _ FY6.g lYg
            clear hLG
            cases f with
            | true =>
              simp only [if_true, catI] at hT2
              have hgn : g < ins.length := by omega
              have hvg := (hvs (ins.getD (g) ⟨#[]⟩) (by simp [hgn])).2
              have d1 := data_len (ins.getD (g) ⟨#[]⟩)
              have d2 := data_len x.put
              have ha := fun W => pk.add_mk (ins.getD (g) ⟨#[]⟩).data.toList x.put.data.toList W (by omega)
              rw [mk_data, mk_data] at ha
              have RM := (hF1.drew).setI g (mk ((ins.getD g ⟨#[]⟩).data.toList ++ x.put.data.toList))
              have RN := hF1.setI g (mk ((ins.getD g ⟨#[]⟩).data.toList ++ x.put.data.toList))
              obtain ⟨a1, a2, a3, a4, a5, a6⟩ := hC _ hF1.bel
              obtain ⟨b1, b2, b3, b4, b5, b6⟩ := hC _ RN.bel
              have q0 := fb_c0 hF1
              have ci := fb_ci hF1 g hgn
              have zi := fb_zi hF1 g
              clear hgn hvg d1 d2 hF1 RN hvs hli hz2
              generalize mk ((ins.getD g ⟨#[]⟩).data.toList ++ x.put.data.toList) = T at *
              generalize ins.getD g ⟨#[]⟩ = S at *
              go_wp2_with fail
              refine region_tailR 15 Try.mixedR (by kernel_rfl) ?_
              simp only [List.take_succ_cons, List.take_zero, List.drop_succ_cons, List.drop_zero]
              iterate 15 still_step
              refine wpStill_nil ?_
              go_wp2_with fail
              refine (hLy _).mono ?_
              rintro e w8 ⟨rfl, hb8⟩
              have FBW := RM.below hb8
              have FBD := FBW
              clear RM hb8 ha a1 a2 a3 a4 a5 a6 b1 b2 b3 b4 b5 b6 q0 ci zi hLy
              obtain ⟨c1, c2, c3, c4, c5, c6⟩ := hC _ FBW.bel
              by_cases hkl : k < n
              · have hkl' : (k : Int) < (n : Int) := by omega
                obtain ⟨xb2, xof2, exo2, hxb2, ex2⟩ := hGX hkl
                obtain ⟨yb2, yof2, eyo2, hyb2, ey2⟩ := hGY hkl
                subst exo2
                subst eyo2
                have xk := xk1 hkl
                have yk := yk1 hkl
                have r1 := (FBW.bel.cell (p := ⟨xb2, xof2 + k, none⟩) hxb2).trans ex2
                have r2 := (FBW.bel.cell (p := ⟨yb2, yof2 + k, none⟩) hyb2).trans ey2
                have hdx : decide (x.k = 3) = goneX.getD k false := by rw [xk]; cases goneX.getD k false <;> rfl
                rw [hdx] at hT2
                clear xk1 xk0 yk1 yk0 hGX hGY ex2 ey2 hdx xk FX6 FY6 hC
                generalize goneX.getD k false = bxg at *
                cases hgy : goneY.getD k false with
                | true =>
                  rw [hgy] at r2 yk
                  have hy1 : ¬ y.k = 1 := by rw [yk]; decide
                  rw [if_neg hy1] at hT2 hob
                  have HG2 : Hid (baseU (tfU true (SX.take (k + 1)) (SY.take (k + 1))) = g + ny) := by show _ = _; rw [HG.out, hob]; omega
                  clear hgy yk hy1 hob hle r1
                  go_wp2_with fail
                  go_roundw
                  case rel => exact ⟨k + 1, _, _, by omega, by go_num, by rw [HG2.out]; go_num, FBD, hT2⟩
                  case measure => simp [Go.RowKit.intOf] <;> omega
                | false =>
                  rw [hgy] at r2 yk
                  have hy1 : y.k = 1 := by rw [yk]; rfl
                  rw [if_pos hy1] at hT2 hob
                  have HG2 : Hid (baseU (tfU true (SX.take (k + 1)) (SY.take (k + 1))) = g + ny + 1) := by show _ = _; rw [HG.out, hob]; omega
                  have glt : g + ny < t := by omega
                  have g5 : (g : Int) + (ny : Int) < (t : Int) := by omega
                  have q1 := fb_c1 FBW
                  have cg := fb_cg FBW (g + ny) (by omega)
                  have zg := fb_zg FBW (g + ny)
                  have tn : ((g : Int) + (ny : Int)).toNat = g + ny := by omega
                  have cg' := cg
                  have zg' := zg
                  rw [← tn] at cg' zg'
                  clear tn
                  have RG := (FBD.drew).setG (g + ny) bxg
                  clear hgy yk hy1 hob hle FBW FBD
                  go_wp2_with fail
                  refine region_tailR 9 Try.mixedR (by kernel_rfl) ?_
                  simp only [List.take_succ_cons, List.take_zero, List.drop_succ_cons, List.drop_zero]
                  iterate 9 still_step
                  refine wpStill_nil ?_
                  go_wp2_with fail
                  go_roundw
                  case rel => exact ⟨k + 1, _, _, by omega, by go_num, by rw [HG2.out]; go_num, RG, hT2⟩
                  case measure => simp [Go.RowKit.intOf] <;> omega
              · obtain rfl : k = n := by omega
                have hy1 : ¬ y.k = 1 := by rw [yk0 rfl]; decide
                rw [if_neg hy1] at hT2 hob
                have HG2 : Hid (baseU (tfU true (SX.take (k + 1)) (SY.take (k + 1))) = g + ny) := by show _ = _; rw [HG.out, hob]; omega
                clear hy1 hob hle xk1 xk0 yk1 yk0 hGX hGY FX6 FY6 hC
                go_wp2_with fail
                go_roundw
                case rel => exact ⟨k + 1, _, _, by omega, by go_num, by rw [HG2.out]; go_num, FBD, hT2⟩
                case measure => simp [Go.RowKit.intOf] <;> omega
            | false =>
              simp only [Bool.false_eq_true, if_false, catI] at hT2
              have hgn : g + ny < ins.length := by omega
              have hvg := (hvs (ins.getD (g + ny) ⟨#[]⟩) (by simp [hgn])).2
              have d1 := data_len (ins.getD (g + ny) ⟨#[]⟩)
              have d2 := data_len x.put
              have ha := fun W => pk.add_mk (ins.getD (g + ny) ⟨#[]⟩).data.toList x.put.data.toList W (by omega)
              rw [mk_data, mk_data] at ha
              obtain ⟨a1, a2, a3, a4, a5, a6⟩ := hC _ hF1.bel
              go_wp2_with fail
              refine (hLy _).mono ?_
              rintro e w8 ⟨rfl, hb8⟩
              have hF8 := hF1.below hb8
              have FBD := (hF8.drew).setI (g + ny) (mk ((ins.getD (g + ny) ⟨#[]⟩).data.toList ++ x.put.data.toList))
              have FBW := hF8.setI (g + ny) (mk ((ins.getD (g + ny) ⟨#[]⟩).data.toList ++ x.put.data.toList))
              clear a1 a2 a3 a4 a5 a6 hLy hF1 hb8
              obtain ⟨b1, b2, b3, b4, b5, b6⟩ := hC _ hF8.bel
              obtain ⟨c1, c2, c3, c4, c5, c6⟩ := hC _ FBW.bel
              have q0 := fb_c0 hF8
              have ci := fb_ci hF8 (g + ny) hgn
              have zi := fb_zi hF8 (g + ny)
              clear hgn hvg d1 d2 hF8 hvs hli hz2
              generalize mk ((ins.getD (g + ny) ⟨#[]⟩).data.toList ++ x.put.data.toList) = T at *
              generalize ins.getD (g + ny) ⟨#[]⟩ = S at *
              have tn : ((g : Int) + (ny : Int)).toNat = g + ny := by omega
              have ci' := ci
              have zi' := zi
              rw [← tn] at ci' zi'
              clear tn
              go_wp2_with fail
              refine region_tailR 15 Try.mixedR (by kernel_rfl) ?_
              simp only [List.take_succ_cons, List.take_zero, List.drop_succ_cons, List.drop_zero]
              iterate 15 still_step
              refine wpStill_nil ?_
              clear ha b1 b2 b3 b4 b5 b6 q0
              by_cases hkl : k < n
              · have hkl' : (k : Int) < (n : Int) := by omega
                obtain ⟨xb2, xof2, exo2, hxb2, ex2⟩ := hGX hkl
                obtain ⟨yb2, yof2, eyo2, hyb2, ey2⟩ := hGY hkl
                subst exo2
                subst eyo2
                have xk := xk1 hkl
                have yk := yk1 hkl
                have r1 := (FBW.bel.cell (p := ⟨xb2, xof2 + k, none⟩) hxb2).trans ex2
                have r2 := (FBW.bel.cell (p := ⟨yb2, yof2 + k, none⟩) hyb2).trans ey2
                have hdx : decide (x.k = 3) = goneX.getD k false := by rw [xk]; cases goneX.getD k false <;> rfl
                rw [hdx] at hT2
                clear xk1 xk0 yk1 yk0 hGX hGY ex2 ey2 hdx xk FX6 FY6 hC
                generalize goneX.getD k false = bxg at *
                cases hgy : goneY.getD k false with
                | true =>
                  rw [hgy] at r2 yk
                  have hy1 : ¬ y.k = 1 := by rw [yk]; decide
                  rw [if_neg hy1] at hT2 hob
                  have HG2 : Hid (baseU (tfU false (SX.take (k + 1)) (SY.take (k + 1))) = g + ny) := by show _ = _; rw [HG.out, hob]; omega
                  clear hgy yk hy1 hob hle r1
                  go_wp2_with fail
                  go_roundw
                  case rel => exact ⟨k + 1, _, _, by omega, by go_num, by rw [HG2.out]; go_num, FBD, hT2⟩
                  case measure => simp [Go.RowKit.intOf] <;> omega
                | false =>
                  rw [hgy] at r2 yk
                  have hy1 : y.k = 1 := by rw [yk]; rfl
                  rw [if_pos hy1] at hT2 hob
                  have HG2 : Hid (baseU (tfU false (SX.take (k + 1)) (SY.take (k + 1))) = g + ny + 1) := by show _ = _; rw [HG.out, hob]; omega
                  have glt : g + ny < t := by omega
                  have g5 : (g : Int) + (ny : Int) < (t : Int) := by omega
                  have q1 := fb_c1 FBW
                  have cg := fb_cg FBW (g + ny) (by omega)
                  have zg := fb_zg FBW (g + ny)
                  have tn : ((g : Int) + (ny : Int)).toNat = g + ny := by omega
                  have cg' := cg
                  have zg' := zg
                  rw [← tn] at cg' zg'
                  have cg2 := fb_cg FBW ((g : Int) + (ny : Int)).toNat (by omega)
                  have zg2 := fb_zg FBW ((g : Int) + (ny : Int)).toNat
                  clear tn
                  have RG := (FBD.drew).setG (g + ny) bxg
                  clear hgy yk hy1 hob hle FBW FBD
                  go_wp2_with fail
                  refine region_tailR 9 Try.mixedR (by kernel_rfl) ?_
                  simp only [List.take_succ_cons, List.take_zero, List.drop_succ_cons, List.drop_zero]
                  iterate 9 still_step
                  refine wpStill_nil ?_
                  go_wp2_with fail
                  go_roundw
                  case rel => exact ⟨k + 1, _, _, by omega, by go_num, by rw [HG2.out]; go_num, RG, hT2⟩
                  case measure => simp [Go.RowKit.intOf] <;> omega
              · obtain rfl : k = n := by omega
                have hy1 : ¬ y.k = 1 := by rw [yk0 rfl]; decide
                rw [if_neg hy1] at hT2 hob
                have HG2 : Hid (baseU (tfU false (SX.take (k + 1)) (SY.take (k + 1))) = g + ny) := by show _ = _; rw [HG.out, hob]; omega
                clear hy1 hob hle xk1 xk0 yk1 yk0 hGX hGY FX6 FY6 hC
                go_wp2_with fail
                go_roundw
                case rel => exact ⟨k + 1, _, _, by omega, by go_num, by rw [HG2.out]; go_num, FBD, hT2⟩
                case measure => simp [Go.RowKit.intOf] <;> omega
          · obtain rfl : k = n + 1 := by omega
            have hal2 : SX.take (n + 1) = SX ∧ SY.take (n + 1) = SY := by
              have h1 : SX.length = n + 1 := by rw [← sX, fS_len, lXg]
              exact ⟨List.take_of_length_le (by omega), List.take_of_length_le (by omega)⟩
            rw [hal2.1, hal2.2, hbase] at hT1
            have hen := ti_end hT1
            have hne := HNF.out ins gone hen
            have hli := hT1.li
            have hlg := hT1.lg
            have hzz := hs4
            have hvs := hT1.v
            have hBt := fun W h1 h2 => built_any (.slice (some ⟨gi, 0, none⟩) (t + 1) (t + 1)) (.slice (some ⟨gg, 0, none⟩) t t) ins gone W h1 h2 (by omega) (by omega) (fun x hx => ⟨(hvs x hx).1, by have := (hvs x hx).2; omega⟩)
            rw [hne] at hBt
            have q0 := fb_c0 hF1
            have q1 := fb_c1 hF1
            have y1 := rdv_row (c := t + 1) (m := t + 1) hF1.ir (by rw [List.length_map]; exact hli)
            have y2 := rdv_row (c := t) (m := t) hF1.gr (by rw [List.length_map]; exact hlg)
            have B7 := chain B6 hF1.bel
            have HLEN : Hid ((N.map PS.op).length = N.length) := List.length_map ..
            clear hen hne hT1 hF1 hli hlg hvs hal2 FX6 FY6 sX sY
            by_cases hTT : 1000 < TT
            · rw [if_pos hTT] at kC
              go_wp2_with fail
              refine (hBt _ y1 y2).mono ?_
              rintro e w8 ⟨u8, rfl, ho8, hb8⟩
              go_wp2_with fail
              refine (kC _ _ (rdd_own (l := N.map PS.op) (by rw [HLEN.out]; exact ho8))).mono ?_
              rintro e w9 ⟨rfl, hb9⟩
              go_wp2_with fail
              go_ret2
              rw [HR.out, if_pos hTT]
              exact ⟨_, rfl, World.ownsRow_nil _ _ _ _, chain (chain B7 hb8) hb9⟩
            · rw [if_neg hTT] at kC
              go_wp2_with fail
              refine (hBt _ y1 y2).mono ?_
              rintro e w8 ⟨u8, rfl, ho8, hb8⟩
              go_wp2_with fail
              refine (kC _ _ (rdd_own (l := N.map PS.op) (by rw [HLEN.out]; exact ho8))).mono ?_
              rintro e w9 ⟨rfl, hb9⟩
              go_wp2_with fail
              go_ret2
              rw [HR.out, if_neg hTT]
              exact ⟨_, rfl, by rw [HLEN.out]; exact own_lower (own_belowG ho8 hb9) B7.size, chain (chain B7 hb8) hb9⟩
    · have cb' : ((bsum (stR A) : Int) != (bsum (stR B) : Int)) = true := by simp; omega
      have e0 : trR f A B = ([], 91) := by rw [trR, if_pos c1, if_pos c2, if_neg cb]
      rw [e0]
      clear e0 c1 c2 cb bdA bdB jA jB fA fB cT
      generalize bsum (stR A) = nA at *
      generalize bsum (stR B) = nB at *
      go_enter Try.func15, Try.ntmps15
      go_wp2_with fail
      refine cK.mono ?_
      rintro e w1 ⟨rfl, hb1⟩
      go_wp2_with fail
      refine (cA _ (hA.below hb1)).mono ?_
      rintro e w2 ⟨rfl, hb2⟩
      have B2 := chain hb1 hb2
      go_wp2_with fail
      refine (cB _ (hB.below B2)).mono ?_
      rintro e w3 ⟨rfl, hb3⟩
      go_wp2_with fail
      go_ret2
      exact ⟨_, rfl, World.ownsRow_nil _ _ _ _, chain B2 hb3⟩
  · have hco : trR f A B = ([], if chk A = 0 then chk B else chk A) := by
      rw [trR]
      by_cases h1 : chk A = 0
      · rw [if_pos h1, if_neg (fun h => c ⟨h1, h⟩), if_pos h1]
      · rw [if_neg h1, if_neg h1]
    have hne : ((if chk A = 0 then chk B else chk A) != 0) = true := by
      split
      · rename_i h1; simp; exact fun h => c ⟨h1, h⟩
      · rename_i h1; simpa using h1
    rw [hco]
    generalize (if chk A = 0 then chk B else chk A) = er at *
    clear hco
    go_enter Try.func15, Try.ntmps15
    go_wp2_with fail
    refine cK.mono ?_
    rintro e w1 ⟨rfl, hb1⟩
    go_wp2_with fail
    go_ret2
    exact ⟨_, rfl, World.ownsRow_nil _ _ _ _, hb1⟩
end Go.Proofs.Ytphbjbigjpfjfaa
