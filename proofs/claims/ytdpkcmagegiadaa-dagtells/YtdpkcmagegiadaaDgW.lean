/-
  The reference: Common.
-/
import Derived.Test.YtdpkcmagegiadaaDgU
namespace Go.Proofs.Ytdpkcmagegiadaa
open Go.Maps Go.WideShapes Go.RowKit Go.ChangeShapes Go.ChangeAt Go.PlainAid

theorem MR.below {w W W' : World} {v : Value} {L : List Lk} {g : Nat} {B : List Bool} (h : MR w W v L g B) (hb : Below W.heap.size W W') : MR w W' v L g B := ⟨chain h.bel hb, h.rd.below hb, h.row.below hb, h.new⟩
theorem num_inj {L : List Lk} (hg : Good L) {i j : Nat} (hi : i < L.length) (hj : j < L.length) : L[i].num = L[j].num ↔ i = j := by
  constructor
  · intro e
    have hA := List.pairwise_iff_getElem.1 (good_asc hg).up
    rcases Nat.lt_trichotomy i j with h | h | h
    · have := hA i j hi hj h; omega
    · exact h
    · have := hA j i hj hi h; omega
  · rintro rfl; rfl
theorem rowMix {L : List Lk} {f g : Int → Bool} {k : Nat} (hk : k < L.length) {W : World} {b : Nat} (h : RowB W b (mixB (mrow L f) (mrow L g) k)) : W.cell? ⟨b, k, none⟩ = some (.bool (g L[k].num)) := by
  have hl : (mrow L f).length = (mrow L g).length := by rw [mrow_len, mrow_len]
  have := h.cell (i := k) (by rw [mixB_len hl, mrow_len]; exact hk)
  rwa [mixB_at hl (by rw [mrow_len]; exact hk), mrow_at hk] at this
theorem mixSet {L : List Lk} {f g : Int → Bool} {k : Nat} (hk : k < L.length) {b : Bool} (hb : b = f L[k].num) : (mixB (mrow L f) (mrow L g) k).set k b = mixB (mrow L f) (mrow L g) (k + 1) := by
  have hl : (mrow L f).length = (mrow L g).length := by rw [mrow_len, mrow_len]
  rw [← mixB_set hl (by rw [mrow_len]; exact hk), mrow_at hk, hb]
theorem mixKeep {L : List Lk} {f g : Int → Bool} {k : Nat} (hk : k < L.length) (hb : g L[k].num = f L[k].num) : mixB (mrow L f) (mrow L g) k = mixB (mrow L f) (mrow L g) (k + 1) := by
  rw [← mixSet hk hb]
  symm
  have hl : (mrow L f).length = (mrow L g).length := by rw [mrow_len, mrow_len]
  have e := mixB_at hl (k := k) (by rw [mrow_len]; exact hk)
  rw [mrow_at hk] at e
  rw [← e]
  exact List.set_getElem_self _
theorem mixEnd {L : List Lk} {f g : Int → Bool} : mixB (mrow L f) (mrow L g) L.length = mrow L f := by
  have hl : (mrow L f).length = (mrow L g).length := by rw [mrow_len, mrow_len]
  have := mixB_all hl
  rwa [mrow_len] at this

set_option maxRecDepth 20000 in
set_option maxHeartbeats 2000000 in
theorem RCommon_any {w : World} {v : Value} {L : List Lk} (a b : Int) (hv : RdL w v L) (hl : L.length ≤ maxLen) (hok : ∀ k ∈ L, k.Ok) :
    Calls Try.prog 10 #[v, .int .i64 a, .int .i64 b] w fun e w' => ∃ u, e = .returned (.tuple #[u, .int .i64 (coR L a b).2]) ∧ NewI w w' u (coR L a b).1 ∧ Below w.heap.size w w' := by
  have cK := rcheck_any hv hl hok
  have hrd : ∀ W, Below w.heap.size w W → RdL W v L := fun W ho => hv.below ho
  obtain ⟨ao, cp, rfl, -⟩ := hv
  by_cases hg : Good L
  · rw [chkR_ok hg] at cK
    have h300 := good_300 hg
    have cFa := fun W hb => find_any a (hrd W hb) (by omega)
    have cFb := fun W hb => find_any b (hrd W hb) (by omega)
    cases hc : (nums L).contains a with
    | false =>
      have hm : a ∉ nums L := by simpa [List.contains_eq_mem] using hc
      have e : coR L a b = ([], 131) := by unfold coR; rw [goodB_true hg, hc]; rfl
      rw [e]
      simp only [fdI_none hm] at cFa
      clear hc e hm cFb
      go_enter Try.func10, Try.ntmps10
      go_wp2_with fail
      refine cK.mono ?_
      rintro e w1 ⟨rfl, hb⟩
      have cF' := cFa w1 hb
      clear cK cFa hrd
      go_wp2_with fail
      refine cF'.mono ?_
      rintro e w' ⟨rfl, hw⟩
      rw [hw]
      clear hw w' cF'
      go_wp2_with fail
      go_ret2
      exact ⟨_, rfl, World.ownsRow_nil _ _ _ _, hb⟩
    | true =>
      have hma : a ∈ nums L := by simpa [List.contains_eq_mem] using hc
      obtain ⟨ka, hka, efa, -⟩ := fdI_mem hg hma
      simp only [efa] at cFa
      have hka0 : ¬ (ka : Int) < 0 := by omega
      cases hd : (nums L).contains b with
      | false =>
        have hm : b ∉ nums L := by simpa [List.contains_eq_mem] using hd
        have e : coR L a b = ([], 131) := by unfold coR; rw [goodB_true hg, hc, hd]; rfl
        rw [e]
        simp only [fdI_none hm] at cFb
        clear hc hd e hm hma efa
        go_enter Try.func10, Try.ntmps10
        go_wp2_with fail
        refine cK.mono ?_
        rintro e w1 ⟨rfl, hb⟩
        have cF' := cFa w1 hb
        have cG' := cFb w1 hb
        clear cK cFa cFb hrd
        go_wp2_with fail
        refine cF'.mono ?_
        rintro e w' ⟨rfl, hw⟩
        rw [hw]
        clear hw w' cF'
        go_wp2_with fail
        refine cG'.mono ?_
        rintro e w' ⟨rfl, hw⟩
        rw [hw]
        clear hw w' cG'
        go_wp2_with fail
        go_ret2
        exact ⟨_, rfl, World.ownsRow_nil _ _ _ _, hb⟩
      | true =>
        have hmb : b ∈ nums L := by simpa [List.contains_eq_mem] using hd
        obtain ⟨kb, hkb, efb, -⟩ := fdI_mem hg hmb
        simp only [efb] at cFb
        have hkb0 : ¬ (kb : Int) < 0 := by omega
        have e : coR L a b = (ris L (chl L (comM L a b)), 0) := by unfold coR; rw [goodB_true hg, hc, hd]; rfl
        rw [e]
        have cA := fun W hb => rabove_any a (hrd W hb) hg hma
        have cB := fun W hb => rabove_any b (hrd W hb) hg hmb
        have HAb : Hid (∀ (k : Nat) (hk : k < L.length) W, RdL W (.slice ao L.length cp) L → Calls Try.prog 24 #[.slice ao L.length cp, .int .i64 L[k].num] W fun e w' => e = .returned (.slice (some ⟨W.heap.size, 0, none⟩) L.length L.length) ∧ RowB w' W.heap.size (mrow L (inS (upM L L[k].num))) ∧ Below W.heap.size W w') := fun k hk W h => rabove_any L[k].num h hg (List.mem_map.2 ⟨L[k], by simp, rfl⟩)
        have cN := fun (W : World) (g : Nat) (hb : Below w.heap.size w W) (hr : RowB W g (mrow L (inS (chl L (comM L a b))))) => rnumbers_any (hrd W hb) hr (mrow_len _ _) h300
        simp only [pick_ris] at cN
        have HR : Hid (mrow L (cmF L (inS (upM L a)) (inS (upM L b)) L.length) = mrow L (inS (chl L (comM L a b)))) := cm_row hg hma hmb
        have HG : Hid (Good L) := hg
        have hmk := make_boo L.length (by omega)
        have h300' : (L.length : Int) ≤ 300 := by omega
        clear hc hd e hma hmb efa efb hg hl hok
        dsimp only
        go_enter Try.func10, Try.ntmps10
        go_wp2_with fail
        refine cK.mono ?_
        rintro e w1 ⟨rfl, hb1⟩
        have cF' := cFa w1 hb1
        have cG' := cFb w1 hb1
        have cA' := cA w1 hb1
        clear cK cFa cFb cA
        go_wp2_with fail
        refine cF'.mono ?_
        rintro e w' ⟨rfl, hw⟩
        rw [hw]
        clear hw w' cF'
        go_wp2_with fail
        refine cG'.mono ?_
        rintro e w' ⟨rfl, hw⟩
        rw [hw]
        clear hw w' cG'
        go_wp2_with fail
        refine cA'.mono ?_
        rintro e w2 ⟨rfl, hrx, hb2⟩
        have hb12 := chain hb1 hb2
        have cB' := cB w2 hb12
        clear cA' cB
        go_wp2_with fail
        refine cB'.mono ?_
        rintro e w3 ⟨rfl, hry, hb3⟩
        have hb13 := chain hb12 hb3
        have HV : Hid (RdL w3 (.slice ao L.length cp) L) := hrd w3 hb13
        have HX : Hid (∀ W, Below w3.heap.size w3 W → RowB W w1.heap.size (mrow L (inS (upM L a))) ∧ RowB W w2.heap.size (mrow L (inS (upM L b)))) := fun W hb => ⟨(hrx.below hb3).below hb, hry.below hb⟩
        clear cB' hrd hrx hry hb1 hb2 hb3 hb12
        generalize inS (upM L a) = fx at *
        generalize inS (upM L b) = fy at *
        have hA := alloc_below w3 (.cells (Array.replicate L.length (Value.bool false)) 4)
        have h0 : MR w3 (w3.alloc (.cells (Array.replicate L.length (Value.bool false)) 4)) (.slice ao L.length cp) L w3.heap.size (mixB (mrow L (cmF L fx fy 0)) (mrow L (fun _ => false)) 0) := by
          refine ⟨hA, HV.out.below hA, ?_, Nat.le_refl _⟩
          rw [mixB_zero, mrow_false]
          exact RowB.made w3 L.length
        clear hA
        go_wp2_with fail
        clear hmk
        go_loopw [11] (fun i wr => ∃ q : Nat, q ≤ L.length ∧ i = .int .i64 (q : Int) ∧ MR w3 wr (.slice ao L.length cp) L w3.heap.size (mixB (mrow L (cmF L fx fy 0)) (mrow L (fun _ => false)) q)) (fun i _ => L.length - (Go.RowKit.intOf i).toNat)
        case atStart => exact ⟨0, Nat.zero_le _, rfl, h0⟩
        case round =>
          obtain ⟨q, hq0, rfl, hM⟩ := hrel
          clear h0
          by_cases hq : q < L.length
          · have hq2 : (q : Int) < (L.length : Int) := by omega
            obtain ⟨rx, ry⟩ := HX.out wr hM.bel
            have cX := rx.cell (i := q) (by rw [mrow_len]; exact hq)
            have cY := ry.cell (i := q) (by rw [mrow_len]; exact hq)
            rw [mrow_at hq] at cX cY
            have cI := rowMix hq hM.row
            have fI := hM.row.frz q
            have HS : Hid (∀ z, z = (fx L[q].num && fy L[q].num) → MR w3 (wr.setCell ⟨w3.heap.size, q, none⟩ (.bool z)) (.slice ao L.length cp) L w3.heap.size (mixB (mrow L (cmF L fx fy 0)) (mrow L (fun _ => false)) (q + 1))) := fun z hz => by
              have := hM.set HV.out q z
              rwa [mixSet hq (by rw [cmF_zero]; exact hz)] at this
            clear hM rx ry cN HAb
            generalize fx L[q].num = zx at *
            generalize fy L[q].num = zy at *
            cases zx with
            | true =>
              have HS' := HS.out zy (by simp)
              have HS2 : Hid (MR w3 (wr.setCell ⟨w3.heap.size, q, none⟩ (.bool zy)) (.slice ao L.length cp) L w3.heap.size (mixB (mrow L (cmF L fx fy 0)) (mrow L (fun _ => false)) (q + 1))) := HS'
              clear HS HS'
              go_wp2_with fail
              exact ⟨⟨q + 1, by omega, by go_num, HS2.out⟩, by simp only [Go.RowKit.intOf]; omega⟩
            | false =>
              have HS' := HS.out false (by simp)
              have HS2 : Hid (MR w3 (wr.setCell ⟨w3.heap.size, q, none⟩ (.bool false)) (.slice ao L.length cp) L w3.heap.size (mixB (mrow L (cmF L fx fy 0)) (mrow L (fun _ => false)) (q + 1))) := HS'
              clear HS HS'
              go_wp2_with fail
              exact ⟨⟨q + 1, by omega, by go_num, HS2.out⟩, by simp only [Go.RowKit.intOf]; omega⟩
          · obtain rfl : q = L.length := by omega
            rw [mixEnd] at hM
            go_wp2_with fail
            go_loopw [12] (fun i wx => ∃ q : Nat, q ≤ L.length ∧ i = .int .i64 (q : Int) ∧ MR w3 wx (.slice ao L.length cp) L w3.heap.size (mrow L (cmF L fx fy q))) (fun i _ => L.length - (Go.RowKit.intOf i).toNat)
            case atStart => exact ⟨0, Nat.zero_le _, rfl, hM⟩
            case round =>
              obtain ⟨q, hq0, rfl, hM2⟩ := hrel
              clear hM hq
              by_cases hq : q < L.length
              · have hq2 : (q : Int) < (L.length : Int) := by omega
                obtain ⟨rx, ry⟩ := HX.out wr hM2.bel
                have cX := rx.cell (i := q) (by rw [mrow_len]; exact hq)
                have cY := ry.cell (i := q) (by rw [mrow_len]; exact hq)
                rw [mrow_at hq] at cX cY
                clear rx ry
                cases hzx : fx L[q].num with
                | false =>
                  have HK : Hid (mrow L (cmF L fx fy (q + 1)) = mrow L (cmF L fx fy q)) := mrow_congr fun k _ => by rw [cmF_succ hq, hzx]; simp
                  rw [hzx] at cX
                  clear hzx cN HAb
                  go_wp2_with fail
                  exact ⟨⟨q + 1, by omega, by go_num, by rw [HK.out]; exact hM2⟩, by simp only [Go.RowKit.intOf]; omega⟩
                | true =>
                  rw [hzx] at cX
                  cases hzy : fy L[q].num with
                  | false =>
                    have HK : Hid (mrow L (cmF L fx fy (q + 1)) = mrow L (cmF L fx fy q)) := mrow_congr fun k _ => by rw [cmF_succ hq, hzy]; simp
                    rw [hzy] at cY
                    clear hzx hzy cN HAb
                    go_wp2_with fail
                    exact ⟨⟨q + 1, by omega, by go_num, by rw [HK.out]; exact hM2⟩, by simp only [Go.RowKit.intOf]; omega⟩
                  | true =>
                    rw [hzy] at cY
                    obtain ⟨_, _, e1, -, hcs⟩ := id HV.out
                    obtain ⟨gb, off, pv, e2, hgb, c0, -, -⟩ := hcs q L[q] (by simp [hq])
                    simp at e1
                    obtain ⟨rfl, rfl⟩ := e1
                    subst e2
                    have c0 := (hM2.bel.cell (p := ⟨gb, off + q * 2, none⟩) hgb).trans c0
                    have cZ := HAb.out q hq wr hM2.rd
                    have HS : Hid (∀ k (hk : k < L.length), cmF L fx fy (q + 1) L[k].num = (cmF L fx fy q L[k].num && !(decide (k ≠ q) && inS (upM L L[q].num) L[k].num))) := fun k hk => by
                      rw [cmF_succ hq, hzx, hzy]
                      simp only [Bool.true_and]
                      congr 3
                      rw [Bool.eq_iff_iff, decide_eq_true_eq, decide_eq_true_eq, Ne, Ne, num_inj HG.out hk hq]
                    clear hcs hzx hzy cN HAb
                    generalize inS (upM L L[q].num) = fz at *
                    generalize L[q].num = nq at *
                    go_wp2_with fail
                    refine cZ.mono ?_
                    rintro e w5 ⟨rfl, hrz, hb5⟩
                    obtain ⟨w0, rfl⟩ : ∃ x, x = wr := ⟨_, rfl⟩
                    have hlt0 := hM2.row
                    have hM5 : MR w3 w5 (.slice (some ⟨gb, off, none⟩) L.length cp) L w3.heap.size (mixB (mrow L (cmF L fx fy (q + 1))) (mrow L (cmF L fx fy q)) 0) ∧ RowB w5 w0.heap.size (mrow L fz) := ⟨by rw [mixB_zero]; exact hM2.below hb5, hrz⟩
                    have hlt : w3.heap.size < w0.heap.size := heap_lt hlt0
                    clear cZ hM2 hrz cX cY c0 hlt0
                    go_wp2_with fail
                    go_loopw [14] (fun i wx => ∃ k : Nat, k ≤ L.length ∧ i = .int .i64 (k : Int) ∧ MR w3 wx (.slice (some ⟨gb, off, none⟩) L.length cp) L w3.heap.size (mixB (mrow L (cmF L fx fy (q + 1))) (mrow L (cmF L fx fy q)) k) ∧ RowB wx w0.heap.size (mrow L fz)) (fun i _ => L.length - (Go.RowKit.intOf i).toNat)
                    case atStart => exact ⟨0, Nat.zero_le _, rfl, hM5⟩
                    case round =>
                      obtain ⟨k, hk0, rfl, hM6, hz6⟩ := hrel
                      clear hM5
                      by_cases hk : k < L.length
                      · have hk2 : (k : Int) < (L.length : Int) := by omega
                        have cz := hz6.cell (i := k) (by rw [mrow_len]; exact hk)
                        rw [mrow_at hk] at cz
                        have HSk := HS.out k hk
                        cases hzk : fz L[k].num with
                        | false =>
                          rw [hzk] at cz
                          have HK : Hid (mixB (mrow L (cmF L fx fy (q + 1))) (mrow L (cmF L fx fy q)) k = mixB (mrow L (cmF L fx fy (q + 1))) (mrow L (cmF L fx fy q)) (k + 1)) := mixKeep hk (by rw [HSk, hzk]; simp)
                          clear HS HSk hzk
                          go_wp2_with fail
                          exact ⟨⟨k + 1, by omega, by go_num, by rw [← HK.out]; exact hM6, hz6⟩, by simp only [Go.RowKit.intOf]; omega⟩
                        | true =>
                          rw [hzk] at cz
                          by_cases hne : k = q
                          · have HK : Hid (mixB (mrow L (cmF L fx fy (q + 1))) (mrow L (cmF L fx fy q)) k = mixB (mrow L (cmF L fx fy (q + 1))) (mrow L (cmF L fx fy q)) (k + 1)) := mixKeep hk (by rw [HSk]; simp [hne])
                            clear HS HSk hzk
                            subst hne
                            go_wp2_with fail
                            exact ⟨⟨k + 1, by omega, by go_num, by rw [← HK.out]; exact hM6, hz6⟩, by simp only [Go.RowKit.intOf]; omega⟩
                          · have hne' : (k : Int) ≠ (q : Int) := by omega
                            have hM7 : MR w3 (wr.setCell ⟨w3.heap.size, k, none⟩ (.bool false)) (.slice (some ⟨gb, off, none⟩) L.length cp) L w3.heap.size (mixB (mrow L (cmF L fx fy (q + 1))) (mrow L (cmF L fx fy q)) (k + 1)) := by
                              have := hM6.set HV.out k false
                              rwa [mixSet hk (by rw [HSk, hzk]; simp [hne])] at this
                            have hz7 := hz6.only (Only.setCell wr (S := [w3.heap.size]) (p := ⟨w3.heap.size, k, none⟩) (by simp) (.bool false)) (by simp; omega)
                            have cI := rowMix hk hM6.row
                            have fI := hM6.row.frz k
                            clear HS HSk hzk hne hM6 hz6
                            generalize cmF L fx fy q L[k].num = old at *
                            go_wp2_with fail
                            exact ⟨⟨k + 1, by omega, by go_num, hM7, hz7⟩, by simp only [Go.RowKit.intOf]; omega⟩
                      · obtain rfl : k = L.length := by omega
                        rw [mixEnd] at hM6
                        clear HS hz6
                        go_wp2_with fail
                        exact ⟨⟨q + 1, by omega, by go_num, hM6⟩, by simp only [Go.RowKit.intOf]; omega⟩
              · obtain rfl : q = L.length := by omega
                have hrow := hM2.row
                rw [HR.out] at hrow
                have hb2 := chain hb13 hM2.bel
                have cN' := cN wr _ hb2 hrow
                clear cN hM2 hrow HAb
                go_wp2_with fail
                refine cN'.mono ?_
                rintro e w4 ⟨u, rfl, ho4, hb4⟩
                have HO : Hid (NewI w w4 u (ris L (chl L (comM L a b)))) := own_lower ho4 hb2.size
                clear cN' ho4
                go_wp2_with fail
                go_ret2
                exact ⟨_, rfl, HO.out, chain hb2 hb4⟩
  · rw [chkR_bad hg] at cK
    have e : coR L a b = ([], 130) := by unfold coR; rw [goodB_false hg]; rfl
    rw [e]
    clear e hg hrd
    go_enter Try.func10, Try.ntmps10
    go_wp2_with fail
    refine cK.mono ?_
    rintro e w1 ⟨rfl, hb⟩
    clear cK
    go_wp2_with fail
    go_ret2
    exact ⟨_, rfl, World.ownsRow_nil _ _ _ _, hb⟩
end Go.Proofs.Ytdpkcmagegiadaa
