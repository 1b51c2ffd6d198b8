/-
  The contract of Docs.
-/
import Derived.Test.YtofmficdfkeffaaDoorMgJ
namespace Go.Proofs.YtofmficdfkeffaaDoor
open Go.ChangeShapes Go.WideShapes Go.ChangeAt Go.RowKit Go.PlainAid

set_option maxRecDepth 20000 in
set_option maxHeartbeats 2000000 in
theorem docs_any (vb vx vy : Value) (b x y : List RunD) (nx ny : Int) (w : World) (hV : VS w) (rb : RdN w vb b) (rx : RdN w vx x) (ry : RdN w vy y) (hm : ∀ l ∈ [b, x, y], l.length ≤ 1125899906842624 ∧ ∀ r ∈ l, r.In) :
    Calls Tryd.prog 10 #[vb, vx, vy, .int .i64 nx, .int .i64 ny] w fun e w' => ∃ u, e = .returned (.tuple #[u, .int .i64 (mdE b x y nx ny)]) ∧ w'.ownsRow w.heap.size 65 4 u (mdL b x y nx ny).length (rcs (mdL b x y nx ny)) ∧ Below w.heap.size w w' := by
  have hL := rdl_three w vb vx vy b x y rb rx ry
  have q0 : Below w.heap.size w (w.alloc (.cells #[vb, vx, vy] 22)) := (Below.refl _ w).alloc (Nat.le_refl _) _
  have cK := mcheck_any _ [b, x, y] _ (hV.below q0) hL hm (by simp)
  have none_ : ∀ (z : Int) (w' : World), mdE b x y nx ny = z → z ≠ 0 → Below w.heap.size w w' → ∃ u, (Ending.returned (.tuple #[.slice none 0 0, .int .i64 z])) = .returned (.tuple #[u, .int .i64 (mdE b x y nx ny)]) ∧ w'.ownsRow w.heap.size 65 4 u (mdL b x y nx ny).length (rcs (mdL b x y nx ny)) ∧ Below w.heap.size w w' := fun z w' h h0 hb => by
    rw [mdL_no (by rw [h]; exact h0), h]
    exact ⟨_, rfl, World.ownsRow_nil _ _ _ _, hb⟩
  obtain ⟨abo, abc, eb, -⟩ := id rb
  subst eb
  obtain ⟨axo, axc, ex, -⟩ := id rx
  subst ex
  obtain ⟨ayo, ayc, ey, -⟩ := id ry
  subst ey
  by_cases hck : ckL [b, x, y] = 0
  · have gb := ckL_good hck b (by simp)
    have gx := ckL_good hck x (by simp)
    have gy := ckL_good hck y (by simp)
    rw [hck] at cK
    have c1 := fun W (hW : Below w.heap.size w W) => rowOf_any _ b W (rb.below hW) gb
    have c2 := fun W (hW : Below w.heap.size w W) => rowOf_any _ x W (rx.below hW) gx
    have c3 := fun W (hW : Below w.heap.size w W) => rowOf_any _ y W (ry.below hW) gy
    obtain ⟨nB, mB, lB, zB⟩ := good_kl gb
    obtain ⟨nX, mX, lX, zX⟩ := good_kl gx
    obtain ⟨nY, mY, lY, zY⟩ := good_kl gy
    have HE : Hid (mdE b x y nx ny = if mdB (ats b) (ats x) (ats y) = true then (if (mgR (cmpI nx ny) (ats b) (ats x) (ats y)).length ≤ 1000 then 0 else 91) else 141) := by show _ = _; unfold mdE; rw [if_pos hck]
    have HLd : Hid (mdL b x y nx ny = if mdE b x y nx ny = 0 then rnA (mgR (cmpI nx ny) (ats b) (ats x) (ats y)) else []) := rfl
    clear rb rx ry hL hm hck gb gx gy hV
    generalize ats b = A at *
    generalize ats x = X at *
    generalize ats y = Y at *
    go_enter Tryd.func10, Tryd.ntmps10
    go_wp2_with fail
    refine cK.mono ?_
    rintro e w1 ⟨rfl, q1⟩
    have hB := chain q0 q1
    clear cK q0 q1
    go_wp2_with fail
    refine (c1 _ hB).mono ?_
    rintro e w2 ⟨a1, p1, rfl, rA, mA, q2⟩
    replace hB := chain hB q2
    have iA : IsRw w2 ⟨a1, p1, w1.heap.size + 1⟩ A := ⟨rA, mA⟩
    clear c1 q2 rA mA
    go_wp2_with fail
    refine (c2 _ hB).mono ?_
    rintro e w3 ⟨a2, p2, rfl, rX, mX', q3⟩
    replace hB := chain hB q3
    replace iA := iA.below q3
    have iX : IsRw w3 ⟨a2, p2, w2.heap.size + 1⟩ X := ⟨rX, mX'⟩
    clear c2 q3 rX mX'
    go_wp2_with fail
    refine (c3 _ hB).mono ?_
    rintro e w4 ⟨a3, p3, rfl, rY, mY', q4⟩
    replace hB := chain hB q4
    replace iA := iA.below q4
    replace iX := iX.below q4
    have iY : IsRw w4 ⟨a3, p3, w3.heap.size + 1⟩ Y := ⟨rY, mY'⟩
    clear c3 q4 rY mY'
    obtain ⟨qb, bA, bX, bY⟩ := boxes3 ⟨a1, p1, w1.heap.size + 1⟩ ⟨a2, p2, w2.heap.size + 1⟩ ⟨a3, p3, w3.heap.size + 1⟩ A.length X.length Y.length w4
    simp only at qb
    go_wp2_with fail
    generalize World.alloc (World.alloc (World.alloc _ _) _) _ = w7 at *
    replace iA := iA.below qb
    replace iX := iX.below qb
    replace iY := iY.below qb
    replace hB := chain hB qb
    have cF1 := fit_any _ _ A X w7 iA iX (by omega)
    have cF2 := fun W (hW : Below w7.heap.size w7 W) => fit_any _ _ A Y W (iA.below hW) (iY.below hW) (by omega)
    have cF3 := fun W (hW : Below w7.heap.size w7 W) => apart_any _ _ _ A X Y W (iA.below hW) (iX.below hW) (iY.below hW) (by omega)
    have cM := fun W (hW : Below w7.heap.size w7 W) => merged_any _ _ _ A X Y (cmpI nx ny) W (iA.below hW) (iX.below hW) (iY.below hW) lB lX lY zX zY (gap_bal nB nX nY) (by have := mgR_len (turn := cmpI nx ny) (A := A) (X := X) (Y := Y); omega)
    have zR : ∀ u ∈ mgR (cmpI nx ny) A X Y, szI u.z ≠ 0 := fun u hu => by
      rcases mgR_mem hu with h | h | h
      · exact zX u h
      · exact zY u h
      · exact zB u h
    have nR : ∀ u ∈ mgR (cmpI nx ny) A X Y, 0 ≤ u.n ∧ u.n ≤ 1000000 := fun u hu => by
      have hm : u.May := by
        rcases mgR_mem hu with h | h | h
        · exact mX u h
        · exact mY u h
        · exact mB u h
      have := hm.2
      omega
    have hRl : (mgR (cmpI nx ny) A X Y).length ≤ 100000 := by have := mgR_len (turn := cmpI nx ny) (A := A) (X := X) (Y := Y); omega
    simp only at cF1 cF2 cF3 cM
    clear iA iX iY qb
    cases e1 : fitD A X
    · have HR : Hid (mdE b x y nx ny = 141) := by show _ = _; rw [HE.out]; unfold mdB; rw [e1]; rfl
      rw [e1] at cF1
      clear e1 HE
      refine cF1.mono ?_
      rintro e w8 ⟨rfl, q8⟩
      go_wp2_with fail
      go_ret2
      exact none_ 141 _ HR.out (by decide) (chain hB q8)
    rw [e1] at cF1
    refine cF1.mono ?_
    rintro e w8 ⟨rfl, q8⟩
    obtain ⟨f0, f1⟩ := (bA.below q8).cells
    obtain ⟨f2, f3⟩ := (bX.below q8).cells
    obtain ⟨f4, f5⟩ := (bY.below q8).cells
    simp only at f0 f1 f2 f3 f4 f5
    have cF2 := cF2 _ q8
    cases e2 : fitD A Y
    · have HR : Hid (mdE b x y nx ny = 141) := by show _ = _; rw [HE.out]; unfold mdB; rw [e1, e2]; rfl
      rw [e2] at cF2
      clear e1 e2 HE cF1
      go_wp2_with fail
      refine cF2.mono ?_
      rintro e w9 ⟨rfl, q9⟩
      go_wp2_with fail
      go_ret2
      exact none_ 141 _ HR.out (by decide) (chain (chain hB q8) q9)
    rw [e2] at cF2
    clear cF1
    go_wp2_with fail
    refine cF2.mono ?_
    rintro e w9 ⟨rfl, q9⟩
    replace q9 := chain q8 q9
    clear f0 f1 f2 f3 f4 f5 cF2 q8
    obtain ⟨f0, f1⟩ := (bA.below q9).cells
    obtain ⟨f2, f3⟩ := (bX.below q9).cells
    obtain ⟨f4, f5⟩ := (bY.below q9).cells
    simp only at f0 f1 f2 f3 f4 f5
    have cF3 := cF3 _ q9
    cases e3 : Y.any (fun u => hasK X u && !hasK A u)
    · have HE2 : Hid (mdE b x y nx ny = if (mgR (cmpI nx ny) A X Y).length ≤ 1000 then 0 else 91) := by show _ = _; rw [HE.out]; unfold mdB; rw [e1, e2, e3]; rfl
      rw [e3] at cF3
      clear e1 e2 e3 HE
      go_wp2_with fail
      refine cF3.mono ?_
      rintro e w10 ⟨rfl, q10⟩
      replace q10 := chain q9 q10
      clear f0 f1 f2 f3 f4 f5 cF3 q9
      obtain ⟨f0, f1⟩ := (bA.below q10).cells
      obtain ⟨f2, f3⟩ := (bX.below q10).cells
      obtain ⟨f4, f5⟩ := (bY.below q10).cells
      simp only at f0 f1 f2 f3 f4 f5
      have hB10 := chain hB q10
      obtain ⟨R, HRd⟩ : ∃ R, Hid (mgR (cmpI nx ny) A X Y = R) := ⟨_, rfl⟩
      rw [HRd.out] at cM zR nR hRl HE2 HLd
      obtain ⟨turn, hturn⟩ : ∃ t, t = cmpI nx ny := ⟨_, rfl⟩
      have cC := fun W => cmpCompare_any nx ny W
      rw [← hturn] at cC cM
      clear hturn zB zX zY mB mX mY
      go_upto_region 7 with fail
      go_cut [16] (fun u wx => wx.ownsRow w10.heap.size 101 4 u R.length (ucs R) ∧ Below w10.heap.size w10 wx)
      case first =>
        go_region_with (first | (go_at_call 26; refine (cC _).mono ?_; rintro e wa ⟨rfl, qa⟩; have hqa : Below w10.heap.size w10 wa := chain (Below.drew (Below.refl _ w10)) qa; obtain ⟨g0, g1⟩ := (bA.below (chain q10 hqa)).cells; obtain ⟨g2, g3⟩ := (bX.below (chain q10 hqa)).cells; obtain ⟨g4, g5⟩ := (bY.below (chain q10 hqa)).cells; simp only at g0 g1 g2 g3 g4 g5) | (go_at_call 25; refine (cM _ (chain q10 hqa)).mono ?_; rintro e wb ⟨ub, rfl, hob, qb⟩; obtain ⟨ab, kb, rfl⟩ := own_form hob))
        all_goals
          go_wp2_with fail
          go_meet
        all_goals exact ⟨own_lower hob hqa.size, chain hqa qb⟩
      case rest =>
        obtain ⟨hou, qc⟩ := hcut
        have rU := rdk_own hou
        obtain ⟨au, ku, rfl⟩ := own_form hou
        have hBc := chain hB10 qc
        have cR := runsOf_any _ R _ rU zR nR hRl
        clear f0 f1 f2 f3 f4 f5 cM cC bA bX bY hou rU zR nR
        by_cases hbig : R.length ≤ 1000
        · have hbig' : ¬ 1000 < (R.length : Int) := by omega
          have HR : Hid (mdE b x y nx ny = 0 ∧ mdL b x y nx ny = rnA R) := by
            have h0 : mdE b x y nx ny = 0 := by rw [HE2.out, if_pos hbig]
            exact ⟨h0, by rw [HLd.out, if_pos h0]⟩
          clear HE2 HLd
          go_wp2_with fail
          refine cR.mono ?_
          rintro e wd ⟨ud, rfl, hod, qd⟩
          go_wp2_with fail
          go_ret2
          rw [HR.out.1, HR.out.2]
          exact ⟨_, rfl, own_lower hod hBc.size, chain hBc qd⟩
        · have hbig' : 1000 < (R.length : Int) := by omega
          have HR : Hid (mdE b x y nx ny = 91) := by show _ = _; rw [HE2.out, if_neg hbig]
          clear HE2 HLd
          go_wp2_with fail
          go_ret2
          exact none_ 91 _ HR.out (by decide) hBc
    · have HR : Hid (mdE b x y nx ny = 141) := by show _ = _; rw [HE.out]; unfold mdB; rw [e1, e2, e3]; rfl
      rw [e3] at cF3
      clear e1 e2 e3 HE
      go_wp2_with fail
      refine cF3.mono ?_
      rintro e w10 ⟨rfl, q10⟩
      go_wp2_with fail
      go_ret2
      exact none_ 141 _ HR.out (by decide) (chain hB (chain q9 q10))
  · have HE : Hid (mdE b x y nx ny = 120) := by show _ = _; unfold mdE; rw [if_neg hck]
    have e1 : ckL [b, x, y] = 120 := by
      unfold ckL at hck ⊢
      split
      · rename_i h
        rw [if_pos h] at hck
        exact absurd rfl hck
      · rfl
    rw [e1] at cK
    clear e1 hck hL rb rx ry hm
    go_enter Tryd.func10, Tryd.ntmps10
    go_wp2_with fail
    refine cK.mono ?_
    rintro e w1 ⟨rfl, q1⟩
    go_wp2_with fail
    go_ret2
    exact none_ 120 _ HE.out (by decide) (chain q0 q1)
end Go.Proofs.YtofmficdfkeffaaDoor
