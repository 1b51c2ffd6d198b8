/-
  The contract of the reference's Compose; what it gives is what Compose gives.
-/
import Derived.Test.YtgabanndjiegdabRtB
import Derived.Test.YtgabanndjiegdabOtMOtNOtO
namespace Go.Proofs.Ytgabanndjiegdab
open Go.ChangeShapes Go.WideShapes Go.ChangeAt Go.RowKit Go.PlainAid

/-- Compose's answer as the normal form of a's word and then b's. -/
theorem coR_nf {A B : List OpD} (iA : ∀ o ∈ A, o.In) (iB : ∀ o ∈ B, o.In) (c1 : chk A = 0) (c2 : chk B = 0) (ct : tsum (stR A) = bsum (stR B)) :
    (coR A B).2 = 0 ∧ (coR A B).1 = (nfU (cmp (uw (stR A)) (uw (stR B)))).map PS.op := by
  obtain ⟨k1, k2, k3, k4, k5⟩ := coR_ok iA iB c1 c2 ct
  have hok : ∀ s ∈ stR ((cpW A B).map uop), s.Ok := stR_ok (fun o ho => by obtain ⟨u, _, rfl⟩ := List.mem_map.1 ho; exact uop_in u)
  have bdA := stR_bd A
  have bdB := stR_bd B
  obtain ⟨_, _, n3, _, n5⟩ := normal_facts (stR_ok iA) bdA.1 bdA.2
  obtain ⟨_, _, m3, m4, _⟩ := normal_facts (stR_ok iB) bdB.1 bdB.2
  have he : Eqv (cpW A B) (cmp (uw (stR A)) (uw (stR B))) := cmp_eqv n3 m3 (by rw [tgt_uw, base_uw, n5, m4, ct])
  refine ⟨k1, ?_⟩
  rw [k2, jn_eq hok, k3, nf_of_marks he.1 (he.2 0)]

set_option maxRecDepth 20000 in
set_option maxHeartbeats 3000000 in
theorem rcompose_any (vA vB : Value) (A B : List OpD) (w : World) (hA : RdD w vA A) (hB : RdD w vB B) (mA : A.length ≤ maxLen) (mB : B.length ≤ maxLen) (iA : ∀ o ∈ A, o.Sm) (iB : ∀ o ∈ B, o.Sm) :
    Calls Try.prog 30 #[vA, vB] w fun e w' => ∃ u, e = .returned (.tuple #[u, .int .i64 (coR A B).2]) ∧ w'.ownsRow w.heap.size 35 3 u (coR A B).1.length (ocs (coR A B).1) ∧ Below w.heap.size w w' := by
  obtain ⟨i0, hin, hz0, hz1, hz2⟩ := info_parts Try.infoMk
  have cK := rchecks_any vA vB A B w hA hB mA mB iA iB
  have jA : ∀ o ∈ A, o.In := fun o ho => sm_in (iA o ho)
  have jB : ∀ o ∈ B, o.In := fun o ho => sm_in (iB o ho)
  by_cases c : chk A = 0 ∧ chk B = 0
  · obtain ⟨c1, c2⟩ := c
    rw [if_pos c1, c2] at cK
    have cT := fun W h => refTarget_any vA A W h mA iA
    have cB := fun W h => refBase_any vB B W h mB iB
    have cB2 := fun W h => refBase_any vA A W h mA iA
    rw [c1] at cT cB2
    rw [c2] at cB
    have bdA := stR_bd A
    have bdB := stR_bd B
    by_cases ct : tsum (stR A) = bsum (stR B)
    · have ct' : ((tsum (stR A) : Int) != (bsum (stR B) : Int)) = false := by simp [ct]
      obtain ⟨r1, r2⟩ := coR_nf jA jB c1 c2 ct
      have cMA := fun W h => rmarks_any vA A W h iA c1
      have cMB := fun W h => rmarks_any vB B W h iB c2
      have htw : tgtU (uw (stR A)) = baseU (uw (stR B)) := by rw [tgt_uw, base_uw, ct]
      have hbase : baseU (cmp (uw (stR A)) (uw (stR B))) = bsum (stR A) := by rw [cmp_base _ _ htw, base_uw]
      have hpts : PtsU (cmp (uw (stR A)) (uw (stR B))) := pts_cmp _ _ (ptsU_uw (stR_ok jA)) (ptsU_uw (stR_ok jB))
      have hmk : mkU 0 (cmp (uw (stR A)) (uw (stR B))) = (mkU 0 (uw (stR B))).map (sub (mkU 0 (uw (stR A)))) := cmp_marks _ _ 0 htw
      have hlm : (mkU 0 (cmp (uw (stR A)) (uw (stR B)))).length ≤ 1000 := by rw [tgt_marks, cmp_tgt _ _ htw, tgt_uw]; omega
      have cF := fun u W h => rbuilt_any (bsum (stR A)) u (cmp (uw (stR A)) (uw (stR B))) W h hbase bdA.1 hlm hpts
      rw [hmk] at cF
      have lA : (mkU 0 (uw (stR A))).length = baseU (uw (stR B)) := by rw [tgt_marks, htw]
      have lB : (mkU 0 (uw (stR B))).length ≤ 1000 := by rw [tgt_marks, tgt_uw]; omega
      have hlt := marks_lt (uw (stR B)) 0
      rw [r1, r2]
      have HLEN : Hid (((nfU (cmp (uw (stR A)) (uw (stR B)))).map PS.op).length = (nfU (cmp (uw (stR A)) (uw (stR B)))).length) := List.length_map ..
      clear r1 r2 c1 c2 hbase hpts hmk hlm htw ct bdA bdB jA jB
      generalize baseU (uw (stR B)) = nb at *
      generalize mkU 0 (uw (stR A)) = MA at *
      generalize mkU 0 (uw (stR B)) = MB at *
      generalize nfU (cmp (uw (stR A)) (uw (stR B))) = N at *
      generalize bsum (stR A) = nA at *
      generalize tsum (stR A) = tA at *
      generalize bsum (stR B) = nB at *
      go_enter Try.func30, Try.ntmps30
      go_wp2_with fail
      refine cK.mono ?_
      rintro e w1 ⟨rfl, hb1⟩
      go_wp2_with fail
      refine (cT _ (hA.below hb1)).mono ?_
      rintro e w2 ⟨rfl, hb2⟩
      have B2 := chain hb1 hb2
      go_wp2_with fail
      refine (cB _ (hB.below B2)).mono ?_
      rintro e w3 ⟨rfl, hb3⟩
      have B3 := chain B2 hb3
      go_wp2_with fail
      refine (cMA _ (hA.below B3)).mono ?_
      rintro e w4 ⟨uM, rfl, ho4, hb4⟩
      have B4 := chain B3 hb4
      go_wp2_with fail
      refine (cMB _ (hB.below B4)).mono ?_
      rintro e w5 ⟨uE, rfl, ho5, hb5⟩
      have B5 := chain B4 hb5
      have rM := (rdm_own ho4).below hb5
      have rE := rdm_own ho5
      clear cK cT cB cMA cMB hb1 hb2 hb3 hb4 hb5 B2 B3 B4 ho4 ho5
      obtain ⟨mo, mc, rfl, hmc⟩ := rM
      obtain ⟨eo, ec, rfl, hec⟩ := rE
      go_wp2_with fail
      go_loopw [13, 14] (fun d i wr => ∃ k : Nat, k ≤ MB.length ∧ i = .int .i64 (k : Int) ∧ wr.ownsRow w5.heap.size 96 2 d ((MB.take k).map (sub MA)).length (mcs ((MB.take k).map (sub MA))) ∧ Below w5.heap.size w5 wr) (fun _ i _ => MB.length - (intOf i).toNat)
      case atStart => exact ⟨0, by omega, rfl, World.ownsRow_nil _ _ _ _, Below.refl _ _⟩
      case round =>
        obtain ⟨k, hk, rfl, hown, hbl⟩ := hrel
        have hsz := hbl.size
        by_cases hkm : k < MB.length
        · have hkm' : (k : Int) < (MB.length : Int) := by omega
          have hMk : MB[k]? = some MB[k] := List.getElem?_eq_getElem hkm
          obtain ⟨b, off, rfl, hbb, e0, e1⟩ := hec k _ hMk
          have c0 := (hbl.cell (p := ⟨b, off + k * 2, none⟩) hbb).trans e0
          have c1 := (hbl.cell (p := ⟨b, off + k * 2 + 1, none⟩) hbb).trans e1
          have HS : Hid ((MB.take (k + 1)).map (sub MA) = (MB.take k).map (sub MA) ++ [sub MA MB[k]]) := by
            show _ = _
            rw [List.take_add_one, hMk, List.map_append]; rfl
          have hll : ((MB.take k).map (sub MA)).length ≤ 1000 := by rw [List.length_map, List.length_take]; omega
          have hmem : MB[k] ∈ MB := List.getElem_mem hkm
          clear hec e0 e1
          generalize (MB.take k).map (sub MA) = L at *
          obtain ⟨ao5, cp5, rfl⟩ := own_form hown
          cases hmk : MB[k] with
          | inl p =>
            rw [hmk] at c0 c1 HS hmem
            have hp := hlt p hmem
            have hpl : p < MA.length := by omega
            have hpM : MA[p]? = some MA[p] := List.getElem?_eq_getElem hpl
            obtain ⟨b2, off2, rfl, hbb2, f0, f1⟩ := hmc p _ hpM
            have g0 := (hbl.cell (p := ⟨b2, off2 + p * 2, none⟩) hbb2).trans f0
            have g1 := (hbl.cell (p := ⟨b2, off2 + p * 2 + 1, none⟩) hbb2).trans f1
            have hsb : sub MA (.inl p) = MA[p] := by simp [sub, hpl]
            rw [hsb] at HS
            simp only [mF, mP] at c0 c1
            have hp' : (p : Int) < (MA.length : Int) := by omega
            have hp0 : (0 : Int) ≤ (p : Int) := by omega
            clear hmc f0 f1 hsb hpM hmem hlt hMk hmk
            generalize MA[p] = mm at *
            obtain ⟨fa, hfa⟩ : ∃ fa, fa = mF mm := ⟨_, rfl⟩
            obtain ⟨fb, hfb⟩ : ∃ fb, fb = mP mm := ⟨_, rfl⟩
            rw [← hfa] at g0
            rw [← hfb] at g1
            have HF : Hid (fa = mF mm ∧ fb = mP mm) := ⟨hfa, hfb⟩
            clear hfa hfb
            go_wp2_with (at_builtin; refine wpList_append_lies _ rfl (.tmp 52) (.tmp 61) 93 rfl w5.heap.size 96 i0 (.agg #[.int .i64 0, .int .i64 0]) 2 16 Try.underlying93 hin hz0 hz1 hz2 rfl (by decide) (.slice ao5 L.length cp5) L.length (mcs L) rfl (hown.alloc _) ⟨_, 0, none⟩ 1 1 [.int .i64 fa, .int .i64 fb] rfl rfl (many_new _ _ _) (two_one _ _) (by decide) (by unfold maxLen; omega) (by omega) (by simp; omega) _ rfl ?_; intro g4 c4 w6 ho6 hg6 _ _)
            have R4 := own_mark (m := mm) ho6 rfl HF.out.1 HF.out.2
            have B6 : Below w5.heap.size w5 w6 := (hbl.alloc hsz _).grown hg6 (by simp; omega) (fun k hk => (hown.lt k hk).1)
            go_roundw
            case rel => exact ⟨k + 1, by omega, by go_num, by rw [HS.out]; exact R4, B6⟩
            case measure => simp [intOf]; omega
          | inr z =>
            rw [hmk] at c0 c1 HS
            have hsb : sub MA (.inr z) = .inr z := rfl
            rw [hsb] at HS
            simp only [mF, mP] at c0 c1
            clear hmc hsb hmem hlt hMk hmk
            go_wp2_with (at_builtin; refine wpList_append_lies _ rfl (.tmp 63) (.tmp 68) 93 rfl w5.heap.size 96 i0 (.agg #[.int .i64 0, .int .i64 0]) 2 16 Try.underlying93 hin hz0 hz1 hz2 rfl (by decide) (.slice ao5 L.length cp5) L.length (mcs L) rfl (hown.alloc _) ⟨_, 0, none⟩ 1 1 [.int .i64 (-1), .int .i64 z] rfl rfl (many_new _ _ _) (two_one _ _) (by decide) (by unfold maxLen; omega) (by omega) (by simp; omega) _ rfl ?_; intro g4 c4 w6 ho6 hg6 _ _)
            have R4 := own_mark (m := .inr z) ho6 rfl rfl rfl
            have B6 : Below w5.heap.size w5 w6 := (hbl.alloc hsz _).grown hg6 (by simp; omega) (fun k hk => (hown.lt k hk).1)
            go_roundw
            case rel => exact ⟨k + 1, by omega, by go_num, by rw [HS.out]; exact R4, B6⟩
            case measure => simp [intOf]; omega
        · obtain rfl : k = MB.length := by omega
          rw [List.take_length] at hown
          have rL := rdm_own hown
          have B6 := chain B5 hbl
          clear hec hmc hlt
          go_wp2_with fail
          refine (cB2 _ (hA.below B6)).mono ?_
          rintro e w7 ⟨rfl, hb7⟩
          have B7 := chain B6 hb7
          go_wp2_with fail
          refine (cF _ _ (rL.below hb7).b).mono ?_
          rintro e w8 ⟨u8, rfl, ho8, hb8⟩
          go_wp2_with fail
          go_ret2
          exact ⟨_, rfl, by rw [HLEN.out]; exact own_lower ho8 B7.size, chain B7 hb8⟩
    · have ct' : ((tsum (stR A) : Int) != (bsum (stR B) : Int)) = true := by simp; omega
      have e0 : coR A B = ([], 91) := by rw [coR, if_pos c1, if_pos c2, if_neg ct]
      rw [e0]
      clear e0 c1 c2 ct bdA bdB jA jB
      generalize tsum (stR A) = tA at *
      generalize bsum (stR B) = nB at *
      generalize bsum (stR A) = nA at *
      go_enter Try.func30, Try.ntmps30
      go_wp2_with fail
      refine cK.mono ?_
      rintro e w1 ⟨rfl, hb1⟩
      go_wp2_with fail
      refine (cT _ (hA.below hb1)).mono ?_
      rintro e w2 ⟨rfl, hb2⟩
      have B2 := chain hb1 hb2
      go_wp2_with fail
      refine (cB _ (hB.below B2)).mono ?_
      rintro e w3 ⟨rfl, hb3⟩
      go_wp2_with fail
      go_ret2
      exact ⟨_, rfl, World.ownsRow_nil _ _ _ _, chain B2 hb3⟩
  · have hco : coR A B = ([], if chk A = 0 then chk B else chk A) := by
      rw [coR]
      by_cases h1 : chk A = 0
      · rw [if_pos h1, if_neg (fun h => c ⟨h1, h⟩), if_pos h1]
      · rw [if_neg h1, if_neg h1]
    have hne : ((if chk A = 0 then chk B else chk A) != 0) = true := by
      split
      · rename_i h1; simp; exact fun h => c ⟨h1, h⟩
      · rename_i h1; simpa using h1
    rw [hco]
    generalize (if chk A = 0 then chk B else chk A) = er at *
    clear hco
    go_enter Try.func30, Try.ntmps30
    go_wp2_with fail
    refine cK.mono ?_
    rintro e w1 ⟨rfl, hb1⟩
    go_wp2_with fail
    go_ret2
    exact ⟨_, rfl, World.ownsRow_nil _ _ _ _, hb1⟩
end Go.Proofs.Ytgabanndjiegdab
