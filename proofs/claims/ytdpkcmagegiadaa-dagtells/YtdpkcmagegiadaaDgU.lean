/-
  The reference: Above, Tips and Common.
-/
import Derived.Test.YtdpkcmagegiadaaDgS
namespace Go.Proofs.Ytdpkcmagegiadaa
open Go.Maps Go.WideShapes Go.RowKit Go.ChangeShapes Go.ChangeAt Go.PlainAid

theorem pick_ris (L : List Lk) (m : Nat → Bool) : pick L (mrow L (inS m)) = ris L m := by rw [pick_row]; rfl

set_option maxRecDepth 20000 in
set_option maxHeartbeats 2000000 in
theorem RAbove_any {w : World} {v : Value} {L : List Lk} (n : Int) (hv : RdL w v L) (hl : L.length ≤ maxLen) (hok : ∀ k ∈ L, k.Ok) :
    Calls Try.prog 8 #[v, .int .i64 n] w fun e w' => ∃ u, e = .returned (.tuple #[u, .int .i64 (upR L n).2]) ∧ NewI w w' u (upR L n).1 ∧ Below w.heap.size w w' := by
  have cK := rcheck_any hv hl hok
  have hrd : ∀ W, Below w.heap.size w W → RdL W v L := fun W ho => hv.below ho
  obtain ⟨ao, cp, rfl, -⟩ := hv
  by_cases hg : Good L
  · rw [chkR_ok hg] at cK
    have h300 := good_300 hg
    have hfd := fdI_neg hg n
    have cF := fun W hb => find_any n (hrd W hb) (by omega)
    cases hc : (nums L).contains n with
    | false =>
      have hm : n ∉ nums L := by simpa [List.contains_eq_mem] using hc
      have e : upR L n = ([], 131) := by unfold upR; rw [goodB_true hg, hc]; rfl
      rw [e]
      simp only [fdI_none hm] at cF
      clear hc e hfd hm
      go_enter Try.func8, Try.ntmps8
      go_wp2_with fail
      refine cK.mono ?_
      rintro e w1 ⟨rfl, hb⟩
      have cF' := cF w1 hb
      clear cK cF hrd
      go_wp2_with fail
      refine cF'.mono ?_
      rintro e w' ⟨rfl, hw⟩
      rw [hw]
      clear hw w' cF'
      go_wp2_with fail
      go_ret2
      exact ⟨_, rfl, World.ownsRow_nil _ _ _ _, hb⟩
    | true =>
      have hm : n ∈ nums L := by simpa [List.contains_eq_mem] using hc
      have e : upR L n = (ris L (upM L n), 0) := by unfold upR; rw [goodB_true hg, hc]; rfl
      rw [e]
      obtain ⟨k, hk, efd, -⟩ := fdI_mem hg hm
      simp only [efd] at cF
      have cA := fun W hb => rabove_any n (hrd W hb) hg hm
      have cN := fun (W : World) (g : Nat) (hb : Below w.heap.size w W) (hr : RowB W g (mrow L (inS (upM L n)))) => rnumbers_any (hrd W hb) hr (mrow_len _ _) h300
      simp only [pick_ris] at cN
      clear hc e hfd hm efd hrd
      have hk0 : ¬ (k : Int) < 0 := by omega
      dsimp only
      go_enter Try.func8, Try.ntmps8
      go_wp2_with fail
      refine cK.mono ?_
      rintro e w1 ⟨rfl, hb⟩
      have cF' := cF w1 hb
      clear cK cF
      go_wp2_with fail
      refine cF'.mono ?_
      rintro e w' ⟨rfl, hw⟩
      rw [hw]
      clear hw w' cF'
      have cA' := cA w1 hb
      clear cA
      go_wp2_with fail
      refine cA'.mono ?_
      rintro e w2 ⟨rfl, hr2, hb2⟩
      have hb12 := chain hb hb2
      have cN' := cN w2 _ hb12 hr2
      clear cA' cN hr2
      go_wp2_with fail
      refine cN'.mono ?_
      rintro e w3 ⟨u, rfl, ho3, hb3⟩
      have HO : Hid (NewI w w3 u (ris L (upM L n))) := own_lower ho3 hb12.size
      clear cN' ho3
      go_wp2_with fail
      go_ret2
      exact ⟨_, rfl, HO.out, chain hb12 hb3⟩
  · rw [chkR_bad hg] at cK
    have e : upR L n = ([], 130) := by unfold upR; rw [goodB_false hg]; rfl
    rw [e]
    clear e hg hrd
    go_enter Try.func8, Try.ntmps8
    go_wp2_with fail
    refine cK.mono ?_
    rintro e w1 ⟨rfl, hb⟩
    clear cK
    go_wp2_with fail
    go_ret2
    exact ⟨_, rfl, World.ownsRow_nil _ _ _ _, hb⟩

set_option maxRecDepth 20000 in
set_option maxHeartbeats 2000000 in
theorem RTips_any {w : World} {v : Value} {L : List Lk} (hv : RdL w v L) (hl : L.length ≤ maxLen) (hok : ∀ k ∈ L, k.Ok) :
    Calls Try.prog 15 #[v] w fun e w' => ∃ u, e = .returned u ∧ NewI w w' u (tipR L) ∧ Below w.heap.size w w' := by
  have cK := rcheck_any hv hl hok
  have hrd : ∀ W, Below w.heap.size w W → RdL W v L := fun W ho => hv.below ho
  obtain ⟨ao, cp, rfl, -⟩ := hv
  by_cases hg : Good L
  · rw [chkR_ok hg] at cK
    have h300 := good_300 hg
    have e : tipR L = ris L (chl L (numS L)) := by unfold tipR; rw [goodB_true hg]; rfl
    rw [e]
    clear e
    have cN := fun (W : World) (g : Nat) (hb : Below w.heap.size w W) (hr : RowB W g (mrow L (inS (chl L (numS L))))) => rnumbers_any (hrd W hb) hr (mrow_len _ _) h300
    simp only [pick_ris] at cN
    have HR : Hid (mrow L (tpF L L.length) = mrow L (inS (chl L (numS L)))) := tp_row hg
    have HG : Hid (Good L) := hg
    have hmk := make_boo L.length (by omega)
    have h300' : (L.length : Int) ≤ 300 := by omega
    clear hg
    go_enter Try.func15, Try.ntmps15
    go_wp2_with fail
    refine cK.mono ?_
    rintro e w1 ⟨rfl, hb1⟩
    have HV : Hid (RdL w1 (.slice ao L.length cp) L) := hrd w1 hb1
    have hA := alloc_below w1 (.cells (Array.replicate L.length (Value.bool false)) 4)
    have h0 : MR w1 (w1.alloc (.cells (Array.replicate L.length (Value.bool false)) 4)) (.slice ao L.length cp) L w1.heap.size (mrow L (tpF L 0)) := by
      refine ⟨hA, HV.out.below hA, ?_, Nat.le_refl _⟩
      rw [tpF_zero, mrow_false]
      exact RowB.made w1 L.length
    clear cK hrd hA
    go_wp2_with fail
    clear hmk
    go_loopw [4] (fun i wr => ∃ q : Nat, q ≤ L.length ∧ i = .int .i64 (q : Int) ∧ MR w1 wr (.slice ao L.length cp) L w1.heap.size (mrow L (tpF L q))) (fun i _ => L.length - (Go.RowKit.intOf i).toNat)
    case atStart => exact ⟨0, Nat.zero_le _, rfl, h0⟩
    case round =>
      obtain ⟨q, hq0, rfl, hM⟩ := hrel
      clear h0
      by_cases hq : q < L.length
      · have hq2 : (q : Int) < (L.length : Int) := by omega
        obtain ⟨_, _, e1, -, hcs⟩ := id HV.out
        obtain ⟨gb, off, pv, e2, hgb, c0, c1, hps⟩ := hcs q L[q] (by simp [hq])
        simp at e1
        obtain ⟨rfl, rfl⟩ := e1
        subst e2
        obtain ⟨pao, pcp, rfl, -⟩ := id hps
        have HW : Hid (∀ W, Below w1.heap.size w1 W → W.cell? ⟨gb, off + q * 2 + 1, none⟩ = some (.slice pao L[q].ps.length pcp) ∧ RdI W (.slice pao L[q].ps.length pcp) L[q].ps) := fun W hb =>
          ⟨(hb.cell (p := ⟨gb, off + q * 2 + 1, none⟩) hgb).trans c1, hps.below hb⟩
        clear hcs c0 c1 hps
        have cB := hM.row.cell (i := q) (by rw [mrow_len]; exact hq)
        have fB := hM.row.frz q
        have hM1 : MR w1 (wr.setCell ⟨w1.heap.size, q, none⟩ (.bool true)) (.slice (some ⟨gb, off, none⟩) L.length cp) L w1.heap.size (mrow L (subF (fun x => (nums (L.take (q + 1))).contains x && !((L.take q).any fun k => k.ps.contains x)) (L[q].ps.take 0))) := by
          have := hM.set HV.out q true
          rw [mrow_set HG.out hq, tpF_new HG.out hq] at this
          rw [List.take_zero, subF_nil]
          exact this
        have HE : Hid (subF (fun x => (nums (L.take (q + 1))).contains x && !((L.take q).any fun k => k.ps.contains x)) L[q].ps = tpF L (q + 1)) := tpF_succ hq
        have HPM : Hid (∀ p ∈ L[q].ps, p ∈ nums L) := fun p hp => good_mem HG.out L[q] (by simp) p hp
        have hp2 := (HG.out q hq).two
        generalize (mrow L (tpF L q))[q]'(by rw [mrow_len]; exact hq) = old at *
        generalize L[q] = lk at *
        generalize (fun x => (nums (L.take (q + 1))).contains x && !((L.take q).any fun k => k.ps.contains x)) = f at *
        clear hM
        go_wp2_with fail
        clear cB fB
        go_loopw [5] (fun i wx => ∃ j : Nat, j ≤ lk.ps.length ∧ i = .int .i64 (j : Int) ∧ MR w1 wx (.slice (some ⟨gb, off, none⟩) L.length cp) L w1.heap.size (mrow L (subF f (lk.ps.take j)))) (fun i _ => lk.ps.length - (Go.RowKit.intOf i).toNat)
        case atStart => exact ⟨0, Nat.zero_le _, rfl, hM1⟩
        case round =>
          obtain ⟨j, hj, rfl, hM2⟩ := hrel
          clear hM1
          obtain ⟨c1, hps⟩ := HW.out wr hM2.bel
          by_cases cj : j < lk.ps.length
          · have cj' : (j : Int) < (lk.ps.length : Int) := by omega
            obtain ⟨_, _, e1, hcs⟩ := id hps
            obtain ⟨pg, poff, e2, hpg, d0⟩ := hcs j lk.ps[j] (by simp [cj])
            simp at e1
            obtain ⟨rfl, rfl⟩ := e1
            subst e2
            have hpm := HPM.out lk.ps[j] (by simp)
            obtain ⟨kk, hkk, efd, enum⟩ := fdI_mem HG.out hpm
            have cF := find_any lk.ps[j] hM2.rd (by omega)
            rw [efd] at cF
            have hM3 : MR w1 (wr.setCell ⟨w1.heap.size, kk, none⟩ (.bool false)) (.slice (some ⟨gb, off, none⟩) L.length cp) L w1.heap.size (mrow L (subF f (lk.ps.take (j + 1)))) := by
              have := hM2.set HV.out kk false
              rw [mrow_set HG.out hkk, enum, subF_snoc, ← List.take_succ_eq_append_getElem cj] at this
              exact this
            have fB := hM2.row.frz kk
            have cK := hM2.row.cell (i := kk) (by rw [mrow_len]; exact hkk)
            have hk1 : (kk : Int) < (L.length : Int) := by omega
            clear hcs hpm efd enum hM2 HPM HE cN
            generalize (mrow L (subF f (lk.ps.take j)))[kk]'(by rw [mrow_len]; exact hkk) = old at *
            generalize lk.ps[j] = p at *
            go_wp2_with fail
            refine cF.mono ?_
            rintro e w' ⟨rfl, hw⟩
            rw [hw]
            clear hw w' cF
            go_wp2_with fail
            exact ⟨⟨j + 1, by omega, by go_num, hM3⟩, by simp only [Go.RowKit.intOf]; omega⟩
          · obtain rfl : j = lk.ps.length := by omega
            rw [List.take_length, HE.out] at hM2
            clear HE HPM hps cN
            go_wp2_with fail
            exact ⟨⟨q + 1, by omega, by go_num, hM2⟩, by simp only [Go.RowKit.intOf]; omega⟩
      · obtain rfl : q = L.length := by omega
        have hrow := hM.row
        rw [HR.out] at hrow
        have hb2 := chain hb1 hM.bel
        have cN' := cN wr _ hb2 hrow
        clear cN hM hrow
        go_wp2_with fail
        refine cN'.mono ?_
        rintro e w3 ⟨u, rfl, ho3, hb3⟩
        have HO : Hid (NewI w w3 u (ris L (chl L (numS L)))) := own_lower ho3 hb2.size
        clear cN' ho3
        go_wp2_with fail
        go_ret
        exact ⟨_, rfl, HO.out, chain hb2 hb3⟩
  · rw [chkR_bad hg] at cK
    have e : tipR L = [] := by unfold tipR; rw [goodB_false hg]; rfl
    rw [e]
    clear e hg hrd
    go_enter Try.func15, Try.ntmps15
    go_wp2_with fail
    refine cK.mono ?_
    rintro e w1 ⟨rfl, hb⟩
    clear cK
    go_wp2_with fail
    go_ret
    exact ⟨_, rfl, World.ownsRow_nil _ _ _ _, hb⟩
end Go.Proofs.Ytdpkcmagegiadaa
