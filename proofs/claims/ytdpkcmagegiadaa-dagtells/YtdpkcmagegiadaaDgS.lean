/-
  The reference: above, Above and Tips.
-/
import Derived.Test.YtdpkcmagegiadaaDgR
import Derived.Test.YtdpkcmagegiadaaDgV
namespace Go.Proofs.Ytdpkcmagegiadaa
open Go.Maps Go.WideShapes Go.RowKit Go.ChangeShapes Go.ChangeAt Go.PlainAid

/-- A row of marks and links, in the world. -/
structure MR (w W : World) (v : Value) (L : List Lk) (g : Nat) (B : List Bool) : Prop where
  bel : Below w.heap.size w W
  rd : RdL W v L
  row : RowB W g B
  new : w.heap.size ≤ g
theorem MR.set {w W : World} {v : Value} {L : List Lk} {g : Nat} {B : List Bool} (h : MR w W v L g B) (hw : RdL w v L) (i : Nat) (x : Bool) : MR w (W.setCell ⟨g, i, none⟩ (.bool x)) v L g (B.set i x) := by
  have ho : Only [g] W (W.setCell ⟨g, i, none⟩ (.bool x)) := Only.setCell W (by simp) _
  have hb := h.bel.trans (ho.below h.bel.size (by simp [h.new]))
  exact ⟨hb, hw.below hb, h.row.set i x, h.new⟩

/-- What step i of the reference's above makes. -/
theorem drop_cons {L : List Lk} {i : Nat} (hi : i < L.length) (n : Int) : rmS (L.drop i) n = addF (upd (rmS (L.drop (i + 1)) n) L[i].num (rmS (L.drop (i + 1)) n L[i].num || L[i].num == n)) (if (rmS (L.drop (i + 1)) n L[i].num || L[i].num == n) then L[i].ps else []) := by
  rw [List.drop_eq_getElem_cons hi]
  rfl

set_option maxRecDepth 20000 in
set_option maxHeartbeats 2000000 in
theorem rabove_any {w : World} {v : Value} {L : List Lk} (n : Int) (hv : RdL w v L) (hg : Good L) (hn : n ∈ nums L) :
    Calls Try.prog 24 #[v, .int .i64 n] w fun e w' => e = .returned (.slice (some ⟨w.heap.size, 0, none⟩) L.length L.length) ∧ RowB w' w.heap.size (mrow L (inS (upM L n))) ∧ Below w.heap.size w w' := by
  have h300 := good_300 hg
  have HV : Hid (RdL w v L) := hv
  obtain ⟨ao, cp, rfl, -⟩ := id hv
  have hA := alloc_below w (.cells (Array.replicate L.length (Value.bool false)) 4)
  have h0 : MR w (w.alloc (.cells (Array.replicate L.length (Value.bool false)) 4)) (.slice ao L.length cp) L w.heap.size (mrow L (rmS (L.drop L.length) n)) := by
    refine ⟨hA, hv.below hA, ?_, Nat.le_refl _⟩
    rw [List.drop_length]
    show RowB _ _ (mrow L (fun _ => false))
    rw [mrow_false]
    exact RowB.made w L.length
  have hmk := make_boo L.length (by omega)
  have HR : Hid (mrow L (rmS L n) = mrow L (inS (upM L n))) := rm_row hg hn
  have HG : Hid (Good L) := hg
  have h300' : (L.length : Int) ≤ 300 := by omega
  clear hv hg hn hA
  go_enter Try.func24, Try.ntmps24
  go_wp2_with fail
  clear hmk
  go_loopw [6] (fun i wr => ∃ r : Nat, r ≤ L.length ∧ i = .int .i64 ((r : Int) - 1) ∧ MR w wr (.slice ao L.length cp) L w.heap.size (mrow L (rmS (L.drop r) n))) (fun i _ => (Go.RowKit.intOf i + 1).toNat)
  case atStart => exact ⟨L.length, Nat.le_refl _, rfl, h0⟩
  case round =>
    obtain ⟨r, hr, rfl, hM⟩ := hrel
    clear h0
    cases r with
    | zero =>
      have HRow : Hid (RowB wr w.heap.size (mrow L (inS (upM L n)))) := by
        have := hM.row
        rw [List.drop_zero, HR.out] at this
        exact this
      have HB : Hid (Below w.heap.size w wr) := hM.bel
      clear hM
      go_wp2_with fail
      go_ret
      exact ⟨rfl, HRow.out, HB.out⟩
    | succ q =>
      have hq : q < L.length := by omega
      have e1 : ((q + 1 : Nat) : Int) - 1 = (q : Int) := by omega
      rw [e1]
      clear e1
      have hq1 : (0 : Int) ≤ (q : Int) := by omega
      have hq2 : (q : Int) < (L.length : Int) := by omega
      obtain ⟨_, _, e1, -, hcs⟩ := id HV.out
      obtain ⟨gb, off, pv, e2, hgb, c0, c1, hps⟩ := hcs q L[q] (by simp [hq])
      simp at e1
      obtain ⟨rfl, rfl⟩ := e1
      subst e2
      obtain ⟨pao, pcp, rfl, -⟩ := id hps
      have HW : Hid (∀ W, Below w.heap.size w W → W.cell? ⟨gb, off + q * 2, none⟩ = some (.int .i64 L[q].num) ∧ W.cell? ⟨gb, off + q * 2 + 1, none⟩ = some (.slice pao L[q].ps.length pcp) ∧ RdI W (.slice pao L[q].ps.length pcp) L[q].ps) := fun W hb =>
        ⟨(hb.cell (p := ⟨gb, off + q * 2, none⟩) hgb).trans c0, (hb.cell (p := ⟨gb, off + q * 2 + 1, none⟩) hgb).trans c1, hps.below hb⟩
      clear hcs c0 c1 hps
      obtain ⟨c0, c1, -⟩ := HW.out wr hM.bel
      have cB := hM.row.cell (i := q) (by rw [mrow_len]; exact hq)
      rw [mrow_at hq] at cB
      have fB := hM.row.frz q
      have HD : Hid (rmS (L.drop q) n = addF (upd (rmS (L.drop (q + 1)) n) L[q].num (rmS (L.drop (q + 1)) n L[q].num || L[q].num == n)) (if (rmS (L.drop (q + 1)) n L[q].num || L[q].num == n) then L[q].ps else [])) := drop_cons hq n
      have HS : Hid (∀ b, (mrow L (rmS (L.drop (q + 1)) n)).set q b = mrow L (upd (rmS (L.drop (q + 1)) n) L[q].num b)) := fun b => mrow_set HG.out hq b
      have HPM : Hid (∀ p ∈ L[q].ps, p ∈ nums L ∧ p ≠ L[q].num) := fun p hp => ⟨good_mem HG.out L[q] (by simp) p hp, by have := (good_asc HG.out).dn L[q] (by simp) p hp; omega⟩
      have hp2 := (HG.out q hq).two
      obtain ⟨lk, hlk⟩ : ∃ lk, L[q] = lk := ⟨_, rfl⟩
      rw [hlk] at c0 c1 cB HW HD HS HPM hp2
      generalize rmS (L.drop (q + 1)) n = f at *
      have HK : Hid (L[q] = lk) := hlk
      clear hlk
      cases hz : f lk.num with
      | true =>
        have HBT : (f lk.num || lk.num == n) = true := by rw [hz]; rfl
        rw [hz] at cB
        clear hz
        have hM1 : MR w (wr.setCell ⟨w.heap.size, q, none⟩ (.bool true)) (.slice (some ⟨gb, off, none⟩) L.length cp) L w.heap.size (mrow L (addF (upd f lk.num true) (lk.ps.take 0))) := by
          have := hM.set HV.out q true
          rw [HS.out] at this
          rw [List.take_zero, addF_nil]
          exact this
        have HE : Hid (rmS (L.drop q) n = addF (upd f lk.num true) lk.ps) := by show _ = _; rw [HD.out, HBT]; rfl
        clear HS HD hM HBT
        go_wp2_with fail
        clear c0 c1 cB fB
        go_loopw [7] (fun i wx => ∃ j : Nat, j ≤ lk.ps.length ∧ i = .int .i64 (j : Int) ∧ MR w wx (.slice (some ⟨gb, off, none⟩) L.length cp) L w.heap.size (mrow L (addF (upd f lk.num true) (lk.ps.take j)))) (fun i _ => lk.ps.length - (Go.RowKit.intOf i).toNat)
        case atStart => exact ⟨0, Nat.zero_le _, rfl, hM1⟩
        case round =>
          obtain ⟨j, hj, rfl, hM2⟩ := hrel
          clear hM1
          obtain ⟨c0, c1, hps⟩ := HW.out wr hM2.bel
          have cB := hM2.row.cell (i := q) (by rw [mrow_len]; exact hq)
          rw [mrow_at hq, HK.out] at cB
          have hz : addF (upd f lk.num true) (lk.ps.take j) lk.num = true := by simp [addF, upd]
          rw [hz] at cB
          clear hz
          by_cases cj : j < lk.ps.length
          · have cj' : (j : Int) < (lk.ps.length : Int) := by omega
            obtain ⟨_, _, e1, hcs⟩ := id hps
            obtain ⟨pg, poff, e2, hpg, d0⟩ := hcs j lk.ps[j] (by simp [cj])
            simp at e1
            obtain ⟨rfl, rfl⟩ := e1
            subst e2
            obtain ⟨hpm, -⟩ := HPM.out lk.ps[j] (by simp)
            obtain ⟨kk, hkk, efd, enum⟩ := fdI_mem HG.out hpm
            have cF := find_any lk.ps[j] hM2.rd (by omega)
            rw [efd] at cF
            have hM3 : MR w (wr.setCell ⟨w.heap.size, kk, none⟩ (.bool true)) (.slice (some ⟨gb, off, none⟩) L.length cp) L w.heap.size (mrow L (addF (upd f lk.num true) (lk.ps.take (j + 1)))) := by
              have := hM2.set HV.out kk true
              rw [mrow_set HG.out hkk, enum, addF_snoc, ← List.take_succ_eq_append_getElem cj] at this
              exact this
            have fB := hM2.row.frz kk
            have cK := hM2.row.cell (i := kk) (by rw [mrow_len]; exact hkk)
            have hk1 : (kk : Int) < (L.length : Int) := by omega
            clear hcs hpm efd enum hM2 HPM HE
            generalize (mrow L (addF (upd f lk.num true) (lk.ps.take j)))[kk]'(by rw [mrow_len]; exact hkk) = old at *
            generalize lk.ps[j] = p at *
            go_wp2_with fail
            refine cF.mono ?_
            rintro e w' ⟨rfl, hw⟩
            rw [hw]
            clear hw w' cF
            go_wp2_with fail
            exact ⟨⟨j + 1, by omega, by go_num, hM3⟩, by simp only [Go.RowKit.intOf]; omega⟩
          · obtain rfl : j = lk.ps.length := by omega
            rw [List.take_length, ← HE.out] at hM2
            clear HE HPM hps
            go_wp2_with fail
            exact ⟨⟨q, by omega, by go_num, hM2⟩, by simp only [Go.RowKit.intOf]; omega⟩
      | false =>
        rw [hz] at cB
        by_cases he : lk.num = n
        · have HBT : (f lk.num || lk.num == n) = true := by rw [hz, he]; simp
          clear hz
          have hM1 : MR w (wr.setCell ⟨w.heap.size, q, none⟩ (.bool true)) (.slice (some ⟨gb, off, none⟩) L.length cp) L w.heap.size (mrow L (addF (upd f lk.num true) (lk.ps.take 0))) := by
            have := hM.set HV.out q true
            rw [HS.out] at this
            rw [List.take_zero, addF_nil]
            exact this
          have HE : Hid (rmS (L.drop q) n = addF (upd f lk.num true) lk.ps) := by show _ = _; rw [HD.out, HBT]; rfl
          clear HS HD hM HBT
          go_wp2_with fail
          clear c0 c1 cB fB
          go_loopw [7] (fun i wx => ∃ j : Nat, j ≤ lk.ps.length ∧ i = .int .i64 (j : Int) ∧ MR w wx (.slice (some ⟨gb, off, none⟩) L.length cp) L w.heap.size (mrow L (addF (upd f lk.num true) (lk.ps.take j)))) (fun i _ => lk.ps.length - (Go.RowKit.intOf i).toNat)
          case atStart => exact ⟨0, Nat.zero_le _, rfl, hM1⟩
          case round =>
            obtain ⟨j, hj, rfl, hM2⟩ := hrel
            clear hM1
            obtain ⟨c0, c1, hps⟩ := HW.out wr hM2.bel
            have cB := hM2.row.cell (i := q) (by rw [mrow_len]; exact hq)
            rw [mrow_at hq, HK.out] at cB
            have hz : addF (upd f lk.num true) (lk.ps.take j) lk.num = true := by simp [addF, upd]
            rw [hz] at cB
            clear hz
            by_cases cj : j < lk.ps.length
            · have cj' : (j : Int) < (lk.ps.length : Int) := by omega
              obtain ⟨_, _, e1, hcs⟩ := id hps
              obtain ⟨pg, poff, e2, hpg, d0⟩ := hcs j lk.ps[j] (by simp [cj])
              simp at e1
              obtain ⟨rfl, rfl⟩ := e1
              subst e2
              obtain ⟨hpm, -⟩ := HPM.out lk.ps[j] (by simp)
              obtain ⟨kk, hkk, efd, enum⟩ := fdI_mem HG.out hpm
              have cF := find_any lk.ps[j] hM2.rd (by omega)
              rw [efd] at cF
              have hM3 : MR w (wr.setCell ⟨w.heap.size, kk, none⟩ (.bool true)) (.slice (some ⟨gb, off, none⟩) L.length cp) L w.heap.size (mrow L (addF (upd f lk.num true) (lk.ps.take (j + 1)))) := by
                have := hM2.set HV.out kk true
                rw [mrow_set HG.out hkk, enum, addF_snoc, ← List.take_succ_eq_append_getElem cj] at this
                exact this
              have fB := hM2.row.frz kk
              have cK := hM2.row.cell (i := kk) (by rw [mrow_len]; exact hkk)
              have hk1 : (kk : Int) < (L.length : Int) := by omega
              clear hcs hpm efd enum hM2 HPM HE
              generalize (mrow L (addF (upd f lk.num true) (lk.ps.take j)))[kk]'(by rw [mrow_len]; exact hkk) = old at *
              generalize lk.ps[j] = p at *
              go_wp2_with fail
              refine cF.mono ?_
              rintro e w' ⟨rfl, hw⟩
              rw [hw]
              clear hw w' cF
              go_wp2_with fail
              exact ⟨⟨j + 1, by omega, by go_num, hM3⟩, by simp only [Go.RowKit.intOf]; omega⟩
            · obtain rfl : j = lk.ps.length := by omega
              rw [List.take_length, ← HE.out] at hM2
              clear HE HPM hps
              go_wp2_with fail
              exact ⟨⟨q, by omega, by go_num, hM2⟩, by simp only [Go.RowKit.intOf]; omega⟩
        · have HBT : (f lk.num || lk.num == n) = false := by rw [hz]; simpa using he
          have hne : (lk.num == n) = false := by simpa using he
          clear hz
          have hM1 : MR w (wr.setCell ⟨w.heap.size, q, none⟩ (.bool false)) (.slice (some ⟨gb, off, none⟩) L.length cp) L w.heap.size (mrow L (rmS (L.drop q) n)) := by
            have := hM.set HV.out q false
            rw [HS.out] at this
            rw [HD.out, HBT]
            simp only [Bool.false_eq_true, if_false]
            rw [addF_nil]
            exact this
          have hz : rmS (L.drop q) n lk.num = false := by
            rw [HD.out, HBT]
            simp [addF, upd]
          have HZ : Hid (rmS (L.drop q) n lk.num = false) := hz
          clear HS HD hM HBT hz
          go_wp2_with fail
          clear c0 c1 cB fB
          go_loopw [7] (fun i wx => i = .int .i64 0 ∧ MR w wx (.slice (some ⟨gb, off, none⟩) L.length cp) L w.heap.size (mrow L (rmS (L.drop q) n))) (fun _ _ => 0)
          case atStart => exact ⟨rfl, hM1⟩
          case round =>
            obtain ⟨rfl, hM2⟩ := hrel
            clear hM1
            obtain ⟨c0, c1, -⟩ := HW.out wr hM2.bel
            have cB := hM2.row.cell (i := q) (by rw [mrow_len]; exact hq)
            rw [mrow_at hq, HK.out, HZ.out] at cB
            by_cases cj : (0 : Int) < (lk.ps.length : Int)
            · go_wp2_with fail
              exact ⟨⟨q, by omega, by go_num, hM2⟩, by simp only [Go.RowKit.intOf]; omega⟩
            · go_wp2_with fail
              exact ⟨⟨q, by omega, by go_num, hM2⟩, by simp only [Go.RowKit.intOf]; omega⟩
end Go.Proofs.Ytdpkcmagegiadaa
