/-
  Proved: the merged document's atoms are what they should be, in each side's order (the law MergeAtoms), for every input.
-/
import Derived.Test.YtffbkgmagjkogaaDoorMgU
import Derived.Test.YtffbkgmagjkogaaDoorDpH
import Derived.ChangeOld
namespace Go.Proofs.YtffbkgmagjkogaaDoor.mergeAtoms
open Go.RowKit Go.ChangeShapes Go.WideShapes Go.ChangeAt Go.PlainAid

set_option maxRecDepth 20000 in
set_option maxHeartbeats 3200000 in
theorem walk (vA vB vC : Value) (A B C : List RunD) (nx ny : Int) (w : World) (hV : VS w) (rA : RdN w vA A) (mA : A.length ≤ 4398046511104) (oA : ∀ r ∈ A, r.Bd ∧ r.In) (rB : RdN w vB B) (mB : B.length ≤ 4398046511104) (oB : ∀ r ∈ B, r.Bd ∧ r.In) (rC : RdN w vC C) (mC : C.length ≤ 4398046511104) (oC : ∀ r ∈ C, r.Bd ∧ r.In) :
    Calls Tryd.prog 7 #[.agg #[vA, vB, vC, .int .i64 nx, .int .i64 ny]] w fun e w' => e = .returned (.bool true) ∧ Below w.heap.size w w' := by
  have q0 : Below w.heap.size w (w.alloc (.cells #[vA, vB, vC, .int .i64 nx, .int .i64 ny] 24)) := (Below.refl _ w).alloc (Nat.le_refl _) _
  have b0 : CB (w.alloc (.cells #[vA, vB, vC, .int .i64 nx, .int .i64 ny] 24)) w.heap.size vA vB vC nx ny := heap_alloc_new w _
  have h1 : ∀ l ∈ [A, B, C], l.length ≤ 1125899906842624 ∧ ∀ r ∈ l, r.In := by
    intro l hl
    simp only [List.mem_cons, List.not_mem_nil, or_false] at hl
    rcases hl with rfl | rfl | rfl
    · exact ⟨by omega, fun r hr => (oA r hr).2⟩
    · exact ⟨by omega, fun r hr => (oB r hr).2⟩
    · exact ⟨by omega, fun r hr => (oC r hr).2⟩
  have c1 := docs_any vA vB vC A B C nx ny _ (hV.below q0) (rA.below q0) (rB.below q0) (rC.below q0) h1
  have cL := fun W h => live14_any W (hV.below h)
  by_cases hE : mdE A B C nx ny = 0
  · obtain ⟨gA, gB, gC, gM, hM⟩ := md_facts hE
    have kA := (good_kl gA).2.2.1
    have kB := (good_kl gB).2.2.1
    have kC := (good_kl gC).2.2.1
    have kM := (good_kl gM).2.2.1
    have HX : Hid (Ord (ats B) (ats (mdL A B C nx ny))) := ord_of (good_kl gB).1 (by rw [hM.fx]; exact List.filter_sublist)
    have HY : Hid (Ord (ats C) (ats (mdL A B C nx ny))) := ord_of (good_kl gC).1 (by rw [hM.fy]; exact List.filter_sublist)
    have cA := fun W (hW : Below w.heap.size w W) => atoms_good vA A W (rA.below hW) gA
    have cB := fun W (hW : Below w.heap.size w W) => atoms_good vB B W (rB.below hW) gB
    have cC := fun W (hW : Below w.heap.size w W) => atoms_good vC C W (rC.below hW) gC
    have cM := fun u W (hu : RdN W u (mdL A B C nx ny)) => atoms_good u _ W hu gM
    have HL := (show Hid _ from hM.len)
    have HA := (show Hid _ from hM.all)
    rw [hE] at c1
    obtain ⟨a1, k1, e1, -⟩ := id rA
    subst e1
    obtain ⟨a2, k2, e2, -⟩ := id rB
    subst e2
    obtain ⟨a3, k3, e3, -⟩ := id rC
    subst e3
    clear rA rB rC h1 oA oB oC gA gB gC gM hM hE
    generalize mdL A B C nx ny = L at *
    generalize ats L = M at *
    generalize ats A = KA at *
    generalize ats B = KX at *
    generalize ats C = KY at *
    go_enter Tryd.func7, Tryd.ntmps7
    go_wp2_with fail
    refine c1.mono ?_
    rintro e w1 ⟨u1, rfl, ho1, q1⟩
    have hB := chain q0 q1
    have b1 := b0.below q1
    have r1 := rdn_own ho1
    obtain ⟨p1, s1, rfl⟩ := own_form ho1
    obtain ⟨d0, -, -, -, -⟩ := b1.cells
    clear c1 ho1 q0 b0 q1
    go_wp2_with fail
    refine (cA _ hB).mono ?_
    rintro e w2 ⟨u2, rfl, ho2, q2⟩
    replace hB := chain hB q2
    replace b1 := b1.below q2
    replace r1 := r1.below q2
    have rKA := rda_own ho2
    obtain ⟨p2, s2, rfl⟩ := own_form ho2
    clear ho2 q2 d0 cA
    obtain ⟨-, d1, -, -, -⟩ := b1.cells
    go_wp2_with fail
    refine (cB _ hB).mono ?_
    rintro e w3 ⟨u3, rfl, ho3, q3⟩
    replace hB := chain hB q3
    replace b1 := b1.below q3
    replace r1 := r1.below q3
    replace rKA := rKA.below q3
    have rKX := rda_own ho3
    obtain ⟨p3, s3, rfl⟩ := own_form ho3
    clear ho3 q3 d1 cB
    obtain ⟨-, -, d2, -, -⟩ := b1.cells
    go_wp2_with fail
    refine (cC _ hB).mono ?_
    rintro e w4 ⟨u4, rfl, ho4, q4⟩
    replace hB := chain hB q4
    replace r1 := r1.below q4
    replace rKA := rKA.below q4
    replace rKX := rKX.below q4
    have rKY := rda_own ho4
    obtain ⟨p4, s4, rfl⟩ := own_form ho4
    clear ho4 q4 d2 cC b1
    go_wp2_with fail
    refine (cM _ _ r1).mono ?_
    rintro e w5 ⟨u5, rfl, ho5, q5⟩
    replace hB := chain hB q5
    replace rKA := rKA.below q5
    replace rKX := rKX.below q5
    replace rKY := rKY.below q5
    have rM := rda_own ho5
    obtain ⟨p5, s5, rfl⟩ := own_form ho5
    clear ho5 q5 cM r1
    go_wp2_with fail
    go_loopw [9, 10, 11] (fun lx ly i wr => ∃ (k : Nat) (a b : Int), k ≤ M.length ∧ Hid (a = lpA KX (-1) (M.take k)) ∧ Hid (b = lpA KY (-1) (M.take k)) ∧ lx = .int .i64 a ∧ ly = .int .i64 b ∧ i = .int .i64 (k : Int) ∧ Below w5.heap.size w5 wr) (fun _ _ i _ => M.length - (Go.RowKit.intOf i).toNat)
    case atStart => exact ⟨0, -1, -1, Nat.zero_le _, rfl, rfl, rfl, rfl, rfl, Below.refl _ _⟩
    case round =>
      obtain ⟨k, a, b, hk, Ha, Hb, rfl, rfl, rfl, hbl⟩ := hrel
      by_cases hlt : k < M.length
      · have hlt' : (k : Int) < (M.length : Int) := by omega
        obtain ⟨u, hue⟩ : ∃ u, M[k] = u := ⟨_, rfl⟩
        have hu : M[k]? = some u := by rw [List.getElem?_eq_getElem hlt, hue]
        have HXk : Hid ((if 0 ≤ fdA u KX 0 then fdA u KX 0 else a) = lpA KX (-1) (M.take (k + 1))) := by show _ = _; rw [lpA_take hlt, hue, Ha.out]
        have HYk : Hid ((if 0 ≤ fdA u KY 0 then fdA u KY 0 else b) = lpA KY (-1) (M.take (k + 1))) := by show _ = _; rw [lpA_take hlt, hue, Hb.out]
        have hx : 0 ≤ fdA u KX 0 → a < fdA u KX 0 := by rw [← hue, Ha.out]; exact lp_lt HX.out hlt
        have hy : 0 ≤ fdA u KY 0 → b < fdA u KY 0 := by rw [← hue, Hb.out]; exact lp_lt HY.out hlt
        have cF1 := rfind_any _ KA u wr (rKA.below hbl) (by omega)
        have cF2 := fun W (h : Below wr.heap.size wr W) => rfind_any _ KX u W ((rKX.below hbl).below h) (by omega)
        have cF3 := fun W (h : Below wr.heap.size wr W) => rfind_any _ KY u W ((rKY.below hbl).below h) (by omega)
        obtain ⟨ba, oa, rfl, hba, m0, m1, m2, m3⟩ := rda_at (rM.below hbl) hu
        have mc := fun W (h : Below wr.heap.size wr W) (j : Nat) => h.cell (p := ⟨ba, j, none⟩) hba
        have hcase : (0 ≤ fdA u KA 0 ∧ 0 ≤ fdA u KX 0 ∧ 0 ≤ fdA u KY 0) ∨ (fdA u KA 0 < 0 ∧ 0 ≤ fdA u KX 0 ∧ fdA u KY 0 < 0) ∨ (fdA u KA 0 < 0 ∧ fdA u KX 0 < 0 ∧ 0 ≤ fdA u KY 0) := by
          rcases HA.out u (List.mem_of_getElem? hu) with ⟨g1, g2, g3⟩ | ⟨g1, g2, g3⟩ | ⟨g1, g2, g3⟩
          · exact .inl ⟨fdA_has.2 g1, fdA_has.2 g2, fdA_has.2 g3⟩
          · exact .inr (.inl ⟨fdA_not.2 g1, fdA_has.2 g2, fdA_not.2 g3⟩)
          · exact .inr (.inr ⟨fdA_not.2 g1, fdA_not.2 g2, fdA_has.2 g3⟩)
        clear rM rKA rKX rKY Ha Hb HX HY HA HL hue hu cL
        generalize fdA u KA 0 = fa at *
        generalize fdA u KX 0 = fp at *
        generalize fdA u KY 0 = fq at *
        have hout : ∀ a' b' : Int, a' = (if 0 ≤ fp then fp else a) → b' = (if 0 ≤ fq then fq else b) → Hid (a' = lpA KX (-1) (M.take (k + 1))) ∧ Hid (b' = lpA KY (-1) (M.take (k + 1))) := fun a' b' ha hb => ⟨ha.trans HXk.out, hb.trans HYk.out⟩
        clear HXk HYk
        rcases hcase with ⟨f1, f2, f3⟩ | ⟨f1, f2, f3⟩ | ⟨f1, f2, f3⟩
        · have hx' := hx f2
          have hy' := hy f3
          obtain ⟨o1, o2⟩ := hout fp fq (by rw [if_pos f2]) (by rw [if_pos f3])
          clear hx hy hout
          go_wp2_with fail
          refine cF1.mono ?_
          rintro e w6 ⟨rfl, t1⟩
          have n0 := (mc _ t1 _).trans m0
          have n1 := (mc _ t1 _).trans m1
          have n2 := (mc _ t1 _).trans m2
          have n3 := (mc _ t1 _).trans m3
          go_wp2_with fail
          refine (cF2 _ t1).mono ?_
          rintro e w7 ⟨rfl, t2⟩
          replace t1 := chain t1 t2
          clear n0 n1 n2 n3
          have n0 := (mc _ t1 _).trans m0
          have n1 := (mc _ t1 _).trans m1
          have n2 := (mc _ t1 _).trans m2
          have n3 := (mc _ t1 _).trans m3
          go_wp2_with fail
          refine (cF3 _ t1).mono ?_
          rintro e w8 ⟨rfl, t3⟩
          replace t1 := chain t1 t3
          clear n0 n1 n2 n3 m0 m1 m2 m3 mc
          go_wp2_with fail
          exact ⟨⟨k + 1, fp, fq, by omega, o1, o2, rfl, rfl, by go_num, chain hbl t1⟩, by simp [Go.RowKit.intOf]; omega⟩
        · have hx' := hx f2
          obtain ⟨o1, o2⟩ := hout fp b (by rw [if_pos f2]) (by rw [if_neg (by omega)])
          clear hx hy hout
          go_wp2_with fail
          refine cF1.mono ?_
          rintro e w6 ⟨rfl, t1⟩
          have n0 := (mc _ t1 _).trans m0
          have n1 := (mc _ t1 _).trans m1
          have n2 := (mc _ t1 _).trans m2
          have n3 := (mc _ t1 _).trans m3
          go_wp2_with fail
          refine (cF2 _ t1).mono ?_
          rintro e w7 ⟨rfl, t2⟩
          replace t1 := chain t1 t2
          clear n0 n1 n2 n3
          have n0 := (mc _ t1 _).trans m0
          have n1 := (mc _ t1 _).trans m1
          have n2 := (mc _ t1 _).trans m2
          have n3 := (mc _ t1 _).trans m3
          go_wp2_with fail
          refine (cF3 _ t1).mono ?_
          rintro e w8 ⟨rfl, t3⟩
          replace t1 := chain t1 t3
          clear n0 n1 n2 n3 m0 m1 m2 m3 mc
          go_wp2_with fail
          exact ⟨⟨k + 1, fp, b, by omega, o1, o2, rfl, rfl, by go_num, chain hbl t1⟩, by simp [Go.RowKit.intOf]; omega⟩
        · have hy' := hy f3
          obtain ⟨o1, o2⟩ := hout a fq (by rw [if_neg (by omega)]) (by rw [if_pos f3])
          clear hx hy hout
          go_wp2_with fail
          refine cF1.mono ?_
          rintro e w6 ⟨rfl, t1⟩
          have n0 := (mc _ t1 _).trans m0
          have n1 := (mc _ t1 _).trans m1
          have n2 := (mc _ t1 _).trans m2
          have n3 := (mc _ t1 _).trans m3
          go_wp2_with fail
          refine (cF2 _ t1).mono ?_
          rintro e w7 ⟨rfl, t2⟩
          replace t1 := chain t1 t2
          clear n0 n1 n2 n3
          have n0 := (mc _ t1 _).trans m0
          have n1 := (mc _ t1 _).trans m1
          have n2 := (mc _ t1 _).trans m2
          have n3 := (mc _ t1 _).trans m3
          go_wp2_with fail
          refine (cF3 _ t1).mono ?_
          rintro e w8 ⟨rfl, t3⟩
          replace t1 := chain t1 t3
          clear n0 n1 n2 n3 m0 m1 m2 m3 mc
          go_wp2_with fail
          exact ⟨⟨k + 1, a, fq, by omega, o1, o2, rfl, rfl, by go_num, chain hbl t1⟩, by simp [Go.RowKit.intOf]; omega⟩
      · obtain rfl : k = M.length := by omega
        clear Ha Hb HX HY HA rM hlt hk
        go_wp2_with fail
        obtain ⟨wz, rfl⟩ : ∃ y, y = wr := ⟨_, rfl⟩
        go_loopw [15, 16] (fun n i wr => ∃ (k m : Nat), k ≤ KX.length ∧ m ≤ k ∧ Hid (m = ((KX.take k).filter (stP KA KX KY)).length) ∧ n = .int .i64 (m : Int) ∧ i = .int .i64 (k : Int) ∧ Below w5.heap.size w5 wr) (fun _ i _ => KX.length - (Go.RowKit.intOf i).toNat)
        case atStart => exact ⟨0, 0, Nat.zero_le _, Nat.le_refl _, rfl, rfl, rfl, hbl⟩
        case round =>
          obtain ⟨k, m, hk, hmk, Hm, rfl, rfl, hb2⟩ := hrel
          by_cases hlt : k < KX.length
          · have hlt' : (k : Int) < (KX.length : Int) := by omega
            obtain ⟨u, hue⟩ : ∃ u, KX[k] = u := ⟨_, rfl⟩
            have hu : KX[k]? = some u := by rw [List.getElem?_eq_getElem hlt, hue]
            have hs : stP KA KX KY u = (!hasK KA u || hasK KY u) := by
              unfold stP svP
              rw [hasK_self (List.mem_of_getElem? hu)]
              cases hasK KA u <;> cases hasK KY u <;> rfl
            have HC : Hid (((KX.take (k + 1)).filter (stP KA KX KY)).length = m + if (!hasK KA u || hasK KY u) = true then 1 else 0) := by show _ = _; rw [cnt_take _ hlt, hue, hs, Hm.out]
            have cF1 := rfind_any _ KA u wr (rKA.below hb2) (by omega)
            have cF2 := fun W (h : Below wr.heap.size wr W) => rfind_any _ KY u W ((rKY.below hb2).below h) (by omega)
            obtain ⟨ba, oa, rfl, hba, m0, m1, m2, m3⟩ := rda_at (rKX.below hb2) hu
            have mc := fun W (h : Below wr.heap.size wr W) (j : Nat) => h.cell (p := ⟨ba, j, none⟩) hba
            clear rKA rKX rKY HL cL hue hu hs Hm
            cases hga : hasK KA u with
            | false =>
              have f1 := fdA_not.2 hga
              have HD : Hid (m + 1 = ((KX.take (k + 1)).filter (stP KA KX KY)).length) := by show _ = _; rw [HC.out, hga]; rfl
              clear HC hga
              generalize fdA u KA 0 = fa at *
              go_wp2_with fail
              refine cF1.mono ?_
              rintro e w6 ⟨rfl, t1⟩
              clear m0 m1 m2 m3 mc cF1 cF2
              go_wp2_with fail
              exact ⟨⟨k + 1, m + 1, by omega, by omega, HD, by go_num, by go_num, chain hb2 t1⟩, by simp [Go.RowKit.intOf]; omega⟩
            | true =>
              have f1 := fdA_has.2 hga
              generalize fdA u KA 0 = fa at *
              cases hgy : hasK KY u with
              | false =>
                have f2 := fdA_not.2 hgy
                have HD : Hid (m = ((KX.take (k + 1)).filter (stP KA KX KY)).length) := by show _ = _; rw [HC.out, hga, hgy]; rfl
                clear HC hga hgy
                generalize fdA u KY 0 = fq at *
                go_wp2_with fail
                refine cF1.mono ?_
                rintro e w6 ⟨rfl, t1⟩
                have n0 := (mc _ t1 _).trans m0
                have n1 := (mc _ t1 _).trans m1
                have n2 := (mc _ t1 _).trans m2
                have n3 := (mc _ t1 _).trans m3
                go_wp2_with fail
                refine (cF2 _ t1).mono ?_
                rintro e w7 ⟨rfl, t2⟩
                replace t1 := chain t1 t2
                clear n0 n1 n2 n3 m0 m1 m2 m3 mc cF1 cF2
                go_wp2_with fail
                exact ⟨⟨k + 1, m, by omega, by omega, HD, rfl, by go_num, chain hb2 t1⟩, by simp [Go.RowKit.intOf]; omega⟩
              | true =>
                have f2 := fdA_has.2 hgy
                have HD : Hid (m + 1 = ((KX.take (k + 1)).filter (stP KA KX KY)).length) := by show _ = _; rw [HC.out, hga, hgy]; rfl
                clear HC hga hgy
                generalize fdA u KY 0 = fq at *
                go_wp2_with fail
                refine cF1.mono ?_
                rintro e w6 ⟨rfl, t1⟩
                have n0 := (mc _ t1 _).trans m0
                have n1 := (mc _ t1 _).trans m1
                have n2 := (mc _ t1 _).trans m2
                have n3 := (mc _ t1 _).trans m3
                go_wp2_with fail
                refine (cF2 _ t1).mono ?_
                rintro e w7 ⟨rfl, t2⟩
                replace t1 := chain t1 t2
                clear n0 n1 n2 n3 m0 m1 m2 m3 mc cF1 cF2
                go_wp2_with fail
                exact ⟨⟨k + 1, m + 1, by omega, by omega, HD, by go_num, by go_num, chain hb2 t1⟩, by simp [Go.RowKit.intOf]; omega⟩
          · obtain rfl : k = KX.length := by omega
            have HN : Hid (M.length = m + (KY.filter fun u => !hasK KA u).length) := by show _ = _; rw [Hm.out, List.take_length]; exact HL.out
            clear Hm HL rKX hlt hk
            go_wp2_with fail
            obtain ⟨wy, rfl⟩ : ∃ y, y = wr := ⟨_, rfl⟩
            go_loopw [15, 17] (fun n i wr => ∃ (k c : Nat), k ≤ KY.length ∧ c ≤ m + k ∧ Hid (c = m + ((KY.take k).filter fun u => !hasK KA u).length) ∧ n = .int .i64 (c : Int) ∧ i = .int .i64 (k : Int) ∧ Below w5.heap.size w5 wr) (fun _ i _ => KY.length - (Go.RowKit.intOf i).toNat)
            case atStart => exact ⟨0, m, Nat.zero_le _, Nat.le_refl _, rfl, rfl, rfl, hb2⟩
            case round =>
              obtain ⟨k, c, hk, hck, Hc, rfl, rfl, hb3⟩ := hrel
              by_cases hlt : k < KY.length
              · have hlt' : (k : Int) < (KY.length : Int) := by omega
                obtain ⟨u, hue⟩ : ∃ u, KY[k] = u := ⟨_, rfl⟩
                have hu : KY[k]? = some u := by rw [List.getElem?_eq_getElem hlt, hue]
                have HC : Hid (m + ((KY.take (k + 1)).filter fun u => !hasK KA u).length = c + if (!hasK KA u) = true then 1 else 0) := by show _ = _; rw [cnt_take _ hlt, hue, Hc.out, Nat.add_assoc]
                have cF1 := rfind_any _ KA u wr (rKA.below hb3) (by omega)
                obtain ⟨ba, oa, rfl, hba, m0, m1, m2, m3⟩ := rda_at (rKY.below hb3) hu
                clear rKA rKY HN cL hue hu Hc
                cases hga : hasK KA u with
                | false =>
                  have f1 := fdA_not.2 hga
                  have HD : Hid (c + 1 = m + ((KY.take (k + 1)).filter fun u => !hasK KA u).length) := by show _ = _; rw [HC.out, hga]; rfl
                  clear HC hga
                  generalize fdA u KA 0 = fa at *
                  go_wp2_with fail
                  refine cF1.mono ?_
                  rintro e w6 ⟨rfl, t1⟩
                  clear m0 m1 m2 m3 cF1
                  go_wp2_with fail
                  exact ⟨⟨k + 1, c + 1, by omega, by omega, HD, by go_num, by go_num, chain hb3 t1⟩, by simp [Go.RowKit.intOf]; omega⟩
                | true =>
                  have f1 := fdA_has.2 hga
                  have HD : Hid (c = m + ((KY.take (k + 1)).filter fun u => !hasK KA u).length) := by show _ = _; rw [HC.out, hga]; rfl
                  clear HC hga
                  generalize fdA u KA 0 = fa at *
                  go_wp2_with fail
                  refine cF1.mono ?_
                  rintro e w6 ⟨rfl, t1⟩
                  clear m0 m1 m2 m3 cF1
                  go_wp2_with fail
                  exact ⟨⟨k + 1, c, by omega, by omega, HD, rfl, by go_num, chain hb3 t1⟩, by simp [Go.RowKit.intOf]; omega⟩
              · obtain rfl : k = KY.length := by omega
                have hcM : M.length = c := by rw [HN.out, Hc.out, List.take_length]
                have hcc : ((c : Int) == (M.length : Int)) = true := by simp [hcM]
                replace hB := chain hB hb3
                clear Hc HN rKA rKY hcM
                go_wp2_with fail
                refine (cL _ hB).mono ?_
                rintro e w6 ⟨rfl, t1⟩
                go_wp2_with fail
                go_ret
                exact ⟨rfl, chain hB t1⟩
  · rw [mdL_no hE] at c1
    have hE' : (mdE A B C nx ny != 0) = true := by simpa using hE
    obtain ⟨a1, k1, e1, -⟩ := id rA
    subst e1
    obtain ⟨a2, k2, e2, -⟩ := id rB
    subst e2
    obtain ⟨a3, k3, e3, -⟩ := id rC
    subst e3
    clear rA rB rC h1 oA oB oC hE
    generalize mdE A B C nx ny = E at *
    go_enter Tryd.func7, Tryd.ntmps7
    go_wp2_with fail
    refine c1.mono ?_
    rintro e w1 ⟨u1, rfl, ho1, q1⟩
    have hB := chain q0 q1
    obtain ⟨p1, s1, rfl⟩ := own_form ho1
    clear c1 ho1 q0 b0 q1
    go_wp2_with fail
    refine (cL _ hB).mono ?_
    rintro e w2 ⟨rfl, q2⟩
    go_wp2_with fail
    go_ret
    exact ⟨rfl, chain hB q2⟩

theorem own : ownKnob Tryd.prog.godebug = none := by kernel_rfl
theorem laidOut : laidOutB Tryd.prog = true := by kernel_rfl

set_option maxRecDepth 20000 in
theorem contract (H : Type) (enc : TypeId × Value → H) (W : World) (base : Nat) (args : Array Value) (ds gs : List (DataW H)) (before : List MemPlace)
    (hval : ∀ (j : Nat) t v, Tryd.f7.params[j]? = some t → args[j]? = some v → Value.okWide Tryd.prog W .any base t v)
    (hW : DataW.Whole enc Tryd.prog Tryd.f7.params.toList Rows.mergeAtomsSpec.vars false W args.toList ds gs before) (hsz0 : (DataW.weightsEach Tryd.prog (Tryd.f7.params.toList ++ Rows.mergeAtomsSpec.plain.varTypes Tryd.prog) (ds ++ gs)).all (· ≤ reachBytes) = true) (hL : laidMetH Tryd.prog Rows.mergeAtomsRow.laid W) :
    Calls Tryd.prog 7 args W fun e W' => ∃ v, e = .returned v ∧ Rows.mergeAtomsSpec.post enc Tryd.prog Tryd.f7 false true false false W args v W' := by
  have hW' := hW
  obtain ⟨p, q, hA0, hV, rfl, hfz, hnd⟩ := hW
  have hA : DataW.TrodAll enc Tryd.prog W 0 (fun _ => true) true Tryd.f7.params.toList args.toList ds p := hA0
  rw [Tryd.params7] at hA hval hsz0
  obtain ⟨v0, vs0, d0, ds0, p0, q0, hargs, rfl, rfl, h0, r0⟩ := trodAll_cons hA
  obtain ⟨rfl, rfl, rfl⟩ := trodAll_nil r0
  obtain rfl : args = #[v0] := by cases args; simp_all
  obtain ⟨rfl, rfl⟩ := trodVars_none hV
  have k0 := h0
  have lt0 : ∀ x ∈ p0, x.block < W.heap.size := by obtain ⟨m, hm⟩ := k0; exact DataW.trod_lt m _ _ _ hm
  obtain ⟨fuel0, hf0⟩ := h0
  have z0 : ∀ n ∈ d0.weights Tryd.prog 24, n ≤ reachBytes := fun n hn => by simpa using List.all_eq_true.1 hsz0 n (DataW.weights_mem_each (j := 0) (t := 24) (d := d0) rfl rfl n hn)
  obtain ⟨vA, vB, vC, nx, ny, A, B, C, hc0, rA, mA, oA, rB, mB, oB, rC, mC, oC⟩ := open_case hf0 z0
  obtain rfl := case_val hc0
  clear hA0
  simp only [List.append_nil] at hW'
  refine (walk vA vB vC A B C nx ny W (vs_of (tabs_of hL)) rA mA oA rB mB oB rC mC oC).mono fun e W' ⟨he, bel⟩ => ?_
  subst he
  exact ⟨_, rfl, _, _, _, [], _, [], hW', trodAll_mk1 (shut_bool Tryd.underlying4 _), (trodAll_cons_mk (Below.trod laidOut (by kernel_rfl) (of_decide_eq_true (by kernel_rfl)) k0 bel lt0) trodAll_mk0), rfl, bel.frame _, fun h => by cases h⟩

set_option maxRecDepth 100000 in
theorem laid_met (os : Os) : laidMet Tryd.prog Rows.mergeAtomsRow.laid ((laidWorld os).forCall (fun _ _ => 0) ⟨#[], #[.agg #[.slice none 0 0, .slice none 0 0, .slice none 0 0, .int .i64 0, .int .i64 0]], []⟩).memory :=
  (LaidIn.of_run (l := Rows.mergeAtomsRow.laid) [2, 1] 8 (by kernel_rfl) (by kernel_rfl) (by kernel_rfl) (by kernel_rfl)).met
theorem reads (os : Os) {H : Type} (enc : TypeId × Value → H) : ∃ places, DataW.whole enc Tryd.prog ((laidWorld os).forCall (fun _ _ => 0) ⟨#[], #[.agg #[.slice none 0 0, .slice none 0 0, .slice none 0 0, .int .i64 0, .int .i64 0]], []⟩).memory Tryd.f7.params.toList Rows.mergeAtomsSpec.vars false (#[.agg #[.slice none 0 0, .slice none 0 0, .slice none 0 0, .int .i64 0, .int .i64 0]] : Array Value).toList 8 = some ([.agg [.nil, .nil, .nil, .lit (.int .i64 0), .lit (.int .i64 0)]], [], places) :=
  ⟨[], by kernel_rfl⟩
set_option maxRecDepth 100000 in
theorem lifted (os : Os) (started : os.Started) (H : Type) (enc : TypeId × Value → H) (F : Stop.Interp) :
    ReturnsInHanded {} Tryd.checked os 7 .any ((OpenSpec.ofChange Rows.mergeAtomsSpec).preRow enc Tryd.prog Tryd.f7 Rows.mergeAtomsRow.domain false Rows.mergeAtomsRow.laid) (((OpenSpec.ofChange Rows.mergeAtomsSpec).at F).post enc Tryd.prog Tryd.f7 false true false false) := by
  obtain ⟨places, hx⟩ := reads os enc
  refine returnsInHanded_of_row (C := Tryd.checked) (s := OpenSpec.ofChange Rows.mergeAtomsSpec) own started (by kernel_rfl) Tryd.func7
    (witness_row_atRef (enc := enc) (C := Tryd.checked) false (laidWorld os) #[.agg #[.slice none 0 0, .slice none 0 0, .slice none 0 0, .int .i64 0, .int .i64 0]] rfl (by kernel_rfl) (by kernel_rfl) (by kernel_rfl)
      (OpenSpec.preRow_of_cond 8 hx (by kernel_rfl) (fun k hk => by cases hk) (by kernel_rfl) (laid_met os))) ?_
  intro W base args ds gs before hval hW _ _ hsz hL _ _
  exact contract H enc W base args ds gs before hval hW hsz hL

theorem holds : Rows.MergeAtomsSaid :=
  OpenClaim.holds_of_cond 7 Tryd.f7 rfl rfl rfl rfl rfl rfl rfl ⟨rfl, rfl, rfl, rfl, rfl⟩ rfl rfl rfl rfl rfl (by kernel_rfl) Tryd.func7 (by kernel_rfl)
    (of_decide_eq_true (by kernel_rfl)) (by unfold Func.isWrapper; first | (rw [if_pos (by decide +kernel)]; kernel_rfl) | (rw [if_neg (by decide +kernel)]; exact ⟨rfl, rfl⟩))
    (fun os started H enc _ F => by rw [OpenClaim.pre_eq_preRow]; exact lifted os started H enc F)
theorem plain (f : FuncId) (fn : Func) (hf : Tryd.pinned.checked.prog.funcNamed "oxbow/oxbowlaw14.MergeAtoms" = some f) (hfn : Tryd.pinned.checked.prog.funcs[f]? = some fn) :
    true = Tryd.pinned.checked.prog.looks [] ∧ ∀ (j : Nat) t, fn.params[j]? = some t → Tryd.pinned.checked.prog.wantsStandIn t = false := by
  obtain rfl : f = 7 := Option.some.inj ((show Tryd.prog.funcNamed "oxbow/oxbowlaw14.MergeAtoms" = some 7 by kernel_rfl).symm.trans hf) |>.symm
  obtain rfl : fn = Tryd.f7 := (Option.some.inj (Tryd.func7.symm.trans hfn)).symm
  refine ⟨by kernel_rfl, fun j t ht => ?_⟩
  rw [Tryd.params7] at ht
  have hm := Array.mem_of_getElem? ht
  obtain rfl : t = 24 := by simpa using hm
  exact (show Tryd.prog.wantsStandIn 24 = false by kernel_rfl)
theorem card : Rows.MergeAtomsCardSaid :=
  Claim7.holds_tied_plain_at .later [] _ _ _ _ holds (fun _ h => by cases h) (by kernel_rfl) (fun _ h => by cases h) mergeAtoms_row_tie rfl ⟨rfl, rfl⟩ (by kernel_rfl) rfl plain (by kernel_rfl)
end Go.Proofs.YtffbkgmagjkogaaDoor.mergeAtoms
namespace Go.Proofs.YtffbkgmagjkogaaDoor
theorem mergeAtoms_holds : Rows.MergeAtomsCardSaid := mergeAtoms.card
#print axioms mergeAtoms_holds
end Go.Proofs.YtffbkgmagjkogaaDoor
