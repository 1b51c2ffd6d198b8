/-
  The reference of record: commits.
-/
import Derived.Test.YtdheddgdlindmaaRcN
import Derived.Test.YtdheddgdlindmaaRfA
import Derived.Test.YtdheddgdlindmaaDrA
namespace Go.Proofs.Ytdheddgdlindmaa
open Go.ChangeShapes Go.WideShapes Go.ChangeAt Go.RowKit Go.PlainAid

set_option maxRecDepth 20000 in
set_option maxHeartbeats 4000000 in
theorem commits15_any (S : StD) (v1 v2 v3 : Value) (w : World) (hr : RdCo w v1 S.cs) (hF : ∀ x ∈ S.cs, x.Fit) (hSm : ∀ x ∈ S.cs, (∀ o ∈ x.d, o.Sm) ∧ ∀ o ∈ x.o, o.Sm) (hn0 : 1 ≤ S.nc) (hn1 : S.nc ≤ 1000000) :
    Calls Try.prog 53 #[.agg (S.fs v1 v2 v3)] w fun e w' => e = .returned (.bool (rwB CoD.n coF 300 (S.nc - 1) S.cs)) ∧ Below w.heap.size w w' := by
  have hal := alloc_bR w (.cells (S.fs v1 v2 v3) 26)
  have hx := sb_new w S v1 v2 v3
  obtain ⟨ao, cp, rfl, hcs⟩ := hr
  obtain ⟨R, HR⟩ : ∃ R, Hid (rwB CoD.n coF 300 (S.nc - 1) S.cs = R) := ⟨_, rfl⟩
  rw [HR.out]
  generalize hw1 : w.alloc (.cells (S.fs (.slice ao S.cs.length cp) v2 v3) 26) = w1 at *
  obtain ⟨nc, nb, cs, bs, us⟩ := S
  simp only [StD.fs] at *
  have hSl : ∀ W', Below w1.heap.size w1 W' → W'.cell? ⟨w.heap.size, 2, none⟩ = some (.slice ao cs.length cp) := fun W' h => (cellsSB (hx.below h)).2.2.1
  have hSn : ∀ W', Below w1.heap.size w1 W' → W'.cell? ⟨w.heap.size, 0, none⟩ = some (.int .i64 nc) := fun W' h => (cellsSB (hx.below h)).1
  have x4 := hSl w1 (Below.refl _ _)
  have hwn : IntKind.i64.wrap (nc - 1) = nc - 1 := by rw [IntKind.wrap_i64]; omega
  by_cases hbig : (cs.length : Int) > 300
  · have e : R = false := by rw [← HR.out, rwB, decide_eq_false (by omega)]; rfl
    subst e
    clear HR hcs hSl hSn
    go_enter Try.func53, Try.ntmps53
    go_wp2_with fail
    go_ret
    exact ⟨rfl, hal⟩
  · have HR2 : Hid (rwG CoD.n coF (nc - 1) 0 cs = R) := by show _ = _; rw [← HR.out, rwB, decide_eq_true (by omega), Bool.true_and]
    clear HR hx
    go_enter Try.func53, Try.ntmps53
    go_wp2_with fail
    clear x4
    go_loopw [3] (fun i wr => ∃ (k : Nat) (a : Int), k ≤ cs.length ∧ i = .int .i64 (k : Int) ∧ Hid (rwG CoD.n coF (nc - 1) a (cs.drop k) = R) ∧ 0 ≤ a ∧ Hid (k = 0 ∧ a = 0 ∨ ∃ j x, k = j + 1 ∧ cs[j]? = some x ∧ a = x.n) ∧ Below w1.heap.size w1 wr) (fun i _ => cs.length - (Go.RowKit.intOf i).toNat)
    case atStart => exact ⟨0, 0, by omega, rfl, HR2, Int.le_refl _, .inl ⟨rfl, rfl⟩, Below.refl _ _⟩
    case round =>
      clear HR2
      obtain ⟨k, a, hk, rfl, HA, ha0, HP, hbl⟩ := hrel
      have x4 := hSl wr hbl
      by_cases hlt : k < cs.length
      · have hlt' : (k : Int) < (cs.length : Int) := by omega
        obtain ⟨b, off, lv, dv, ov, rfl, hl, ⟨c0, c1, c2, c3, c4, c5⟩, s0, s1, s2⟩ := hcs k cs[k] (by simp [hlt])
        have hsm := hSm cs[k] (List.getElem_mem hlt)
        have hft := hF cs[k] (List.getElem_mem hlt)
        have hlw : Below w.heap.size w wr := hal.trans (hbl.mono hal.size)
        rw [← hlw.cell (p := ⟨b, _, none⟩) hl] at c0 c1 c2 c3 c4 c5
        have Hst := fun h1 h2 h3 => (rwG_step (num := CoD.n) (right := coF) (last := nc - 1) (a := a) hlt h1 h2 h3).symm.trans HA.out
        have Hbd := fun h => (rwG_bad (num := CoD.n) (right := coF) (last := nc - 1) (a := a) hlt h).symm.trans HA.out
        have Hnx : Hid (cs[k]? = some cs[k]) := by show _ = _; simp [hlt]
        generalize cs[k] = x at *
        obtain ⟨al, cl, rfl⟩ := rdi_len s0
        obtain ⟨ad, kd, ed, -⟩ := id s1
        subst ed
        obtain ⟨ae, ke, ee, -⟩ := id s2
        subst ee
        obtain ⟨wa, hwa⟩ : ∃ wa, wa = wr.alloc (.cells #[.int .i64 x.n, .slice al x.ps.length cl, .slice ad x.d.length kd, .slice ae x.o.length ke, .int .i64 x.c, .int .i64 x.s] 48) := ⟨_, rfl⟩
        have hala := alloc_bR wr (.cells #[.int .i64 x.n, .slice al x.ps.length cl, .slice ad x.d.length kd, .slice ae x.o.length ke, .int .i64 x.c, .int .i64 x.s] 48)
        have hxa := heap_alloc_new wr (.cells #[.int .i64 x.n, .slice al x.ps.length cl, .slice ad x.d.length kd, .slice ae x.o.length ke, .int .i64 x.c, .int .i64 x.s] 48)
        rw [← hwa] at hala hxa
        have hBa := hbl.trans (hala.mono hbl.size)
        have hlwa := hlw.trans (hala.mono hlw.size)
        have p0 : ∀ u : Beh wa, u.it.cell? ⟨wr.heap.size, 0, none⟩ = some (.int .i64 x.n) := fun u => cell_of_row _ _ 0 _ _ (0, 0) ((u.h.block _ (heap_lt hxa)).trans hxa)
        have p1 : ∀ u : Beh wa, u.it.cell? ⟨wr.heap.size, 1, none⟩ = some (.slice al x.ps.length cl) := fun u => cell_of_row _ _ 1 _ _ (0, 0) ((u.h.block _ (heap_lt hxa)).trans hxa)
        have p2 : ∀ u : Beh wa, u.it.cell? ⟨wr.heap.size, 2, none⟩ = some (.slice ad x.d.length kd) := fun u => cell_of_row _ _ 2 _ _ (0, 0) ((u.h.block _ (heap_lt hxa)).trans hxa)
        have p3 : ∀ u : Beh wa, u.it.cell? ⟨wr.heap.size, 3, none⟩ = some (.slice ae x.o.length ke) := fun u => cell_of_row _ _ 3 _ _ (0, 0) ((u.h.block _ (heap_lt hxa)).trans hxa)
        have p4 : ∀ u : Beh wa, u.it.cell? ⟨wr.heap.size, 4, none⟩ = some (.int .i64 x.c) := fun u => cell_of_row _ _ 4 _ _ (0, 0) ((u.h.block _ (heap_lt hxa)).trans hxa)
        have p5 : ∀ u : Beh wa, u.it.cell? ⟨wr.heap.size, 5, none⟩ = some (.int .i64 x.s) := fun u => cell_of_row _ _ 5 _ _ (0, 0) ((u.h.block _ (heap_lt hxa)).trans hxa)
        have pl : ∀ u : Beh wa, u.it.cell? ⟨w.heap.size, 2, none⟩ = some (.slice (some ⟨b, off, none⟩) cs.length cp) := fun u => hSl _ (hBa.trans (u.h.mono hBa.size))
        have pn : ∀ u : Beh wa, u.it.cell? ⟨w.heap.size, 0, none⟩ = some (.int .i64 nc) := fun u => hSn _ (hBa.trans (u.h.mono hBa.size))
        by_cases g1 : 1 ≤ x.n ∧ x.n ≤ nc - 1
        · have e1 : (decide (1 ≤ x.n) && decide (x.n ≤ nc - 1)) = true := by rw [decide_eq_true g1.1, decide_eq_true g1.2]; rfl
          rcases HP.out with ⟨rfl, rfl⟩ | ⟨j, y, rfl, hy, rfl⟩
          · simp only [Nat.zero_mul, Nat.add_zero] at c0 c1 c2 c3 c4 c5
            by_cases g4 : x.ps.length > 2
            · have h4a : decide (2 < x.ps.length) = true := decide_eq_true g4
              have h4b : decide ((2 : Int) < (x.ps.length : Int)) = true := decide_eq_true (by omega)
              have h4c : decide ((x.ps.length : Int) > 2) = true := decide_eq_true (by omega)
              have e : R = false := (Hbd (.inr (.inr (by unfold coF; rw [decide_eq_false (show ¬ x.ps.length ≤ 2 by omega)]; simp)))).symm
              subst e
              clear Hst Hbd HA HP Hnx hcs hSm hsm
              go_upto_region 7 with fail
              rw [← hwa]
              refine wp_region_beh (by kernel_rfl) (by kernel_rfl) ?_
              repeat (go_big_quiet_step ((go_at_call 52; exact Beh.call (within15_beh _ _ _ _))))
              refine wpQuiet_nil ?_
              intro wq hw'
              have hwq := Beh.out hw'
              clear hw' p0 p1 p2 p3 p4 p5 pl pn 
              go_wp2_with fail
              go_ret
              exact ⟨rfl, hal.trans ((hBa.trans (hwq.mono hBa.size)).mono hal.size)⟩
            · have h4a : decide (2 < x.ps.length) = false := decide_eq_false g4
              have h4b : decide ((2 : Int) < (x.ps.length : Int)) = false := decide_eq_false (by omega)
              have h4c : decide ((x.ps.length : Int) > 2) = false := decide_eq_false (by omega)
              clear HA HP hcs hSm
              go_upto_region 7 with fail
              rw [← hwa]
              refine wp_region_beh (by kernel_rfl) (by kernel_rfl) ?_
              repeat (go_big_quiet_step ((go_at_call 52; exact Beh.call (within15_beh _ _ _ _))))
              refine wpQuiet_nil ?_
              intro wq hw'
              have hwq := Beh.out hw'
              clear hw' p0 p1 p2 p3 p4 p5 pl pn 
              have hBq := hBa.trans (hwq.mono hBa.size)
              have hxq := (hwq.block _ (heap_lt hxa)).trans hxa
              have hcel : ∀ W, Below wq.heap.size wq W → W.cell? ⟨wr.heap.size, 0, none⟩ = some (.int .i64 x.n) ∧ W.cell? ⟨wr.heap.size, 1, none⟩ = some (.slice al x.ps.length cl) ∧ W.cell? ⟨wr.heap.size, 2, none⟩ = some (.slice ad x.d.length kd) ∧ W.cell? ⟨wr.heap.size, 3, none⟩ = some (.slice ae x.o.length ke) ∧ W.cell? ⟨wr.heap.size, 4, none⟩ = some (.int .i64 x.c) ∧ W.cell? ⟨wr.heap.size, 5, none⟩ = some (.int .i64 x.s) := fun W h => by
                have q := fun j => cell_of_row W wr.heap.size j _ _ (0, 0) ((h.block _ (heap_lt hxq)).trans hxq)
                exact ⟨q 0, q 1, q 2, q 3, q 4, q 5⟩
              have sq := s0.below (hlwa.trans (hwq.mono hlwa.size))
              have sq1 := s1.below (hlwa.trans (hwq.mono hlwa.size))
              have sq2 := s2.below (hlwa.trans (hwq.mono hlwa.size))
              generalize wr.heap.size = gx at *
              clear hxa hxq hwq hala hBa hlwa hwa hlw hbl x4 s0 s1 s2 c0 c1 c2 c3 c4 c5
              go_wp2_with fail
              go_loopw [5] (fun i wr => ∃ m : Nat, m ≤ x.ps.length ∧ i = .int .i64 (m : Int) ∧ Hid (∀ n ∈ x.ps.take m, 1 ≤ n ∧ n ≤ 1000000) ∧ Below wq.heap.size wq wr) (fun i _ => x.ps.length - (Go.RowKit.intOf i).toNat)
              case atStart => exact ⟨0, by omega, rfl, (fun n hn => by simp at hn), Below.refl _ _⟩
              case round =>
                obtain ⟨m, hm, rfl, HM, hbm⟩ := hrel
                have hbw := hBq.trans (hbm.mono hBq.size)
                obtain ⟨d0, d1, d2, d3, d4, d5⟩ := hcel wr hbm
                by_cases hml : m < x.ps.length
                · have hml' : (m : Int) < (x.ps.length : Int) := by omega
                  obtain ⟨ao2, cp2, ev, hci⟩ := sq
                  simp only [Value.slice.injEq] at ev
                  obtain ⟨rfl, -, rfl⟩ := ev
                  obtain ⟨gi, oi, rfl, hgi, ci⟩ := hci m x.ps[m] (by simp [hml])
                  rw [← hbm.cell (p := ⟨gi, _, none⟩) hgi] at ci
                  have HM2 : (1 ≤ x.ps[m] ∧ x.ps[m] ≤ 1000000) → Hid (∀ n ∈ x.ps.take (m + 1), 1 ≤ n ∧ n ≤ 1000000) := fun h n hn => by
                    rw [List.take_succ_eq_append_getElem hml] at hn
                    rcases List.mem_append.1 hn with h1 | h1
                    · exact HM.out n h1
                    · rw [List.mem_singleton.1 h1]; exact h
                  have HM3 : ¬ (1 ≤ x.ps[m] ∧ x.ps[m] ≤ 1000000) → wtl 1 1000000 x.ps = false := fun h => by
                    cases hw : wtl 1 1000000 x.ps with
                    | false => rfl
                    | true => exact absurd (wtl_iff.1 hw _ (List.getElem_mem hml)) h
                  generalize x.ps[m] = n at *
                  have cW := within15_any n 1 1000000 wr
                  clear hci
                  by_cases hn : 1 ≤ n ∧ n ≤ 1000000
                  · have H3 := HM2 hn
                    rw [decide_eq_true hn.1, decide_eq_true hn.2] at cW
                    clear HM2 HM3 HM
                    go_wp2_with fail
                    refine cW.mono ?_
                    rintro e wx ⟨rfl, rfl⟩
                    go_wp2_with fail
                    exact ⟨⟨m + 1, by omega, by go_num, H3, hbm⟩, by simp [Go.RowKit.intOf]; omega⟩
                  · have e : R = false := (Hbd (.inr (.inr (by unfold coF; rw [HM3 hn]; simp)))).symm
                    subst e
                    have hnb : (decide (1 ≤ n) && decide (n ≤ 1000000)) = false := by simpa using hn
                    rw [hnb] at cW
                    clear HM2 HM3 HM Hst Hbd
                    go_wp2_with fail
                    refine cW.mono ?_
                    rintro e wx ⟨rfl, rfl⟩
                    go_wp2_with fail
                    go_ret
                    exact ⟨rfl, hal.trans (hbw.mono hal.size)⟩
                · have hml' : ¬ (m : Int) < (x.ps.length : Int) := by omega
                  have hwt : wtl 1 1000000 x.ps = true := by
                    refine wtl_iff.2 (fun n hn => HM.out n ?_)
                    rw [List.take_of_length_le (by omega)]
                    exact hn
                  clear HM
                  have hco : coF x = (decide (chk x.d = 0) && (decide (chk x.o = 0) && ((decide (0 ≤ x.c) && decide (x.c ≤ 8)) && (decide (0 ≤ x.s) && decide (x.s ≤ 100000))))) := by unfold coF; rw [hwt, decide_eq_true (show x.ps.length ≤ 2 by omega)]; rfl
                  have cD := refCheck_any _ x.d wr (sq1.below hbm) hft.dl hsm.1
                  have cO := fun W (h : Below wq.heap.size wq W) => refCheck_any _ x.o W (sq2.below h) hft.ol hsm.2
                  clear hwt sq sq1 sq2
                  by_cases hd : chk x.d = 0
                  · rw [hd] at cD
                    rw [decide_eq_true hd, Bool.true_and] at hco
                    go_wp2_with fail
                    refine cD.mono ?_
                    rintro e w5 ⟨rfl, hb5⟩
                    have hb5q := hbm.trans (hb5.mono hbm.size)
                    have cO5 := cO w5 hb5q
                    clear d0 d1 d2 d3 d4 d5 cD
                    obtain ⟨d0, d1, d2, d3, d4, d5⟩ := hcel w5 hb5q
                    by_cases ho : chk x.o = 0
                    · rw [ho] at cO5
                      rw [decide_eq_true ho, Bool.true_and] at hco
                      go_wp2_with fail
                      refine cO5.mono ?_
                      rintro e w6 ⟨rfl, hb6⟩
                      have hb6q := hb5q.trans (hb6.mono hb5q.size)
                      clear d0 d1 d2 d3 d4 d5 cO5 cO
                      obtain ⟨d0, d1, d2, d3, d4, d5⟩ := hcel w6 hb6q
                      have cC := within15_any x.c 0 8 w6
                      have cS := within15_any x.s 0 100000 w6
                      have hbw6 := hBq.trans (hb6q.mono hBq.size)
                      generalize (decide (0 ≤ x.c) && decide (x.c ≤ 8)) = t1 at *
                      generalize (decide (0 ≤ x.s) && decide (x.s ≤ 100000)) = t2 at *
                      cases t1 with
                      | false =>
                        have e : R = false := (Hbd (.inr (.inr hco))).symm
                        subst e
                        clear Hst Hbd hco
                        go_wp2_with fail
                        refine cC.mono ?_
                        rintro e wx ⟨rfl, rfl⟩
                        go_wp2_with fail
                        go_ret
                        exact ⟨rfl, hal.trans (hbw6.mono hal.size)⟩
                      | true =>
                        go_wp2_with fail
                        refine cC.mono ?_
                        rintro e wx ⟨rfl, rfl⟩
                        go_wp2_with fail
                        refine cS.mono ?_
                        rintro e wy ⟨rfl, rfl⟩
                        cases t2 with
                        | false =>
                          have e : R = false := (Hbd (.inr (.inr hco))).symm
                          subst e
                          clear Hst Hbd hco
                          go_wp2_with fail
                          go_ret
                          exact ⟨rfl, hal.trans (hbw6.mono hal.size)⟩
                        | true =>
                          have H2 := Hst (by omega) (by omega) hco
                          clear Hst Hbd hco
                          go_wp2_with fail
                          exact ⟨⟨0 + 1, x.n, by omega, by go_num, H2, by omega, .inr ⟨0, x, rfl, Hnx.out, rfl⟩, hbw6⟩, by simp [Go.RowKit.intOf]; omega⟩
                    · have e : R = false := (Hbd (.inr (.inr (by rw [hco, decide_eq_false ho]; rfl)))).symm
                      subst e
                      clear Hst Hbd hco cO
                      have hon : (chk x.o != 0) = true := by simpa using ho
                      go_wp2_with fail
                      refine cO5.mono ?_
                      rintro e w6 ⟨rfl, hb6⟩
                      have hb6q := hb5q.trans (hb6.mono hb5q.size)
                      go_wp2_with fail
                      go_ret
                      exact ⟨rfl, hal.trans ((hBq.trans (hb6q.mono hBq.size)).mono hal.size)⟩
                  · have e : R = false := (Hbd (.inr (.inr (by rw [hco, decide_eq_false hd]; rfl)))).symm
                    subst e
                    clear Hst Hbd hco cO
                    have hdn : (chk x.d != 0) = true := by simpa using hd
                    go_wp2_with fail
                    refine cD.mono ?_
                    rintro e w5 ⟨rfl, hb5⟩
                    have hb5q := hbm.trans (hb5.mono hbm.size)
                    go_wp2_with fail
                    go_ret
                    exact ⟨rfl, hal.trans ((hBq.trans (hb5q.mono hBq.size)).mono hal.size)⟩
          · obtain ⟨b', off', pv', dv', ov', eb, hl', ⟨z0, -⟩, -⟩ := hcs j y hy
            simp only [Option.some.injEq, Addr.mk.injEq, and_true] at eb
            obtain ⟨rfl, rfl⟩ := eb
            have p9 : ∀ u : Beh wa, u.it.cell? ⟨b, off + j * 6, none⟩ = some (.int .i64 y.n) := fun u => by
              have h2 := hlwa.trans (u.h.mono hlwa.size)
              rw [h2.cell (p := ⟨b, off + j * 6, none⟩) hl']
              exact z0
            have hwj : IntKind.i64.wrap ((j : Int) + 1 - 1) = (j : Int) := by rw [Int.add_sub_cancel, IntKind.wrap_i64]; omega
            have hwk : IntKind.i64.wrap (((j + 1 : Nat) : Int) - 1) = (j : Int) := by rw [show (((j + 1 : Nat) : Int) - 1) = (j : Int) by omega, IntKind.wrap_i64]; omega
            have hjl : (j : Int) < (cs.length : Int) := by omega
            have hd1 : decide (((j + 1 : Nat) : Int) > 0) = true := decide_eq_true (by omega)
            have hd2 : decide ((0 : Int) < ((j + 1 : Nat) : Int)) = true := decide_eq_true (by omega)
            have hd3 : decide ((0 : Int) < (j : Int) + 1) = true := decide_eq_true (by omega)
            clear z0
            by_cases g2 : y.n ≥ x.n
            · have hg2 : decide (y.n ≥ x.n) = true := decide_eq_true g2
              have hg3 : decide (x.n ≤ y.n) = true := decide_eq_true (by omega)
              have e : R = false := (Hbd (.inl (by omega))).symm
              subst e
              clear Hst Hbd HA HP Hnx hcs hSm hsm
              go_upto_region 7 with fail
              rw [← hwa]
              refine wp_region_beh (by kernel_rfl) (by kernel_rfl) ?_
              repeat (go_big_quiet_step ((go_at_call 52; exact Beh.call (within15_beh _ _ _ _))))
              refine wpQuiet_nil ?_
              intro wq hw'
              have hwq := Beh.out hw'
              clear hw' p0 p1 p2 p3 p4 p5 pl pn p9
              go_wp2_with fail
              go_ret
              exact ⟨rfl, hal.trans ((hBa.trans (hwq.mono hBa.size)).mono hal.size)⟩
            · have hg2 : decide (y.n ≥ x.n) = false := decide_eq_false g2
              have hg3 : decide (x.n ≤ y.n) = false := decide_eq_false (by omega)
              by_cases g4 : x.ps.length > 2
              · have h4a : decide (2 < x.ps.length) = true := decide_eq_true g4
                have h4b : decide ((2 : Int) < (x.ps.length : Int)) = true := decide_eq_true (by omega)
                have h4c : decide ((x.ps.length : Int) > 2) = true := decide_eq_true (by omega)
                have e : R = false := (Hbd (.inr (.inr (by unfold coF; rw [decide_eq_false (show ¬ x.ps.length ≤ 2 by omega)]; simp)))).symm
                subst e
                clear Hst Hbd HA HP Hnx hcs hSm hsm
                go_upto_region 7 with fail
                rw [← hwa]
                refine wp_region_beh (by kernel_rfl) (by kernel_rfl) ?_
                repeat (go_big_quiet_step ((go_at_call 52; exact Beh.call (within15_beh _ _ _ _))))
                refine wpQuiet_nil ?_
                intro wq hw'
                have hwq := Beh.out hw'
                clear hw' p0 p1 p2 p3 p4 p5 pl pn p9
                go_wp2_with fail
                go_ret
                exact ⟨rfl, hal.trans ((hBa.trans (hwq.mono hBa.size)).mono hal.size)⟩
              · have h4a : decide (2 < x.ps.length) = false := decide_eq_false g4
                have h4b : decide ((2 : Int) < (x.ps.length : Int)) = false := decide_eq_false (by omega)
                have h4c : decide ((x.ps.length : Int) > 2) = false := decide_eq_false (by omega)
                clear HA HP hcs hSm
                go_upto_region 7 with fail
                rw [← hwa]
                refine wp_region_beh (by kernel_rfl) (by kernel_rfl) ?_
                repeat (go_big_quiet_step ((go_at_call 52; exact Beh.call (within15_beh _ _ _ _))))
                refine wpQuiet_nil ?_
                intro wq hw'
                have hwq := Beh.out hw'
                clear hw' p0 p1 p2 p3 p4 p5 pl pn p9
                have hBq := hBa.trans (hwq.mono hBa.size)
                have hxq := (hwq.block _ (heap_lt hxa)).trans hxa
                have hcel : ∀ W, Below wq.heap.size wq W → W.cell? ⟨wr.heap.size, 0, none⟩ = some (.int .i64 x.n) ∧ W.cell? ⟨wr.heap.size, 1, none⟩ = some (.slice al x.ps.length cl) ∧ W.cell? ⟨wr.heap.size, 2, none⟩ = some (.slice ad x.d.length kd) ∧ W.cell? ⟨wr.heap.size, 3, none⟩ = some (.slice ae x.o.length ke) ∧ W.cell? ⟨wr.heap.size, 4, none⟩ = some (.int .i64 x.c) ∧ W.cell? ⟨wr.heap.size, 5, none⟩ = some (.int .i64 x.s) := fun W h => by
                  have q := fun j => cell_of_row W wr.heap.size j _ _ (0, 0) ((h.block _ (heap_lt hxq)).trans hxq)
                  exact ⟨q 0, q 1, q 2, q 3, q 4, q 5⟩
                have sq := s0.below (hlwa.trans (hwq.mono hlwa.size))
                have sq1 := s1.below (hlwa.trans (hwq.mono hlwa.size))
                have sq2 := s2.below (hlwa.trans (hwq.mono hlwa.size))
                generalize wr.heap.size = gx at *
                clear hxa hxq hwq hala hBa hlwa hwa hlw hbl x4 s0 s1 s2 c0 c1 c2 c3 c4 c5
                go_wp2_with fail
                go_loopw [5] (fun i wr => ∃ m : Nat, m ≤ x.ps.length ∧ i = .int .i64 (m : Int) ∧ Hid (∀ n ∈ x.ps.take m, 1 ≤ n ∧ n ≤ 1000000) ∧ Below wq.heap.size wq wr) (fun i _ => x.ps.length - (Go.RowKit.intOf i).toNat)
                case atStart => exact ⟨0, by omega, rfl, (fun n hn => by simp at hn), Below.refl _ _⟩
                case round =>
                  obtain ⟨m, hm, rfl, HM, hbm⟩ := hrel
                  have hbw := hBq.trans (hbm.mono hBq.size)
                  obtain ⟨d0, d1, d2, d3, d4, d5⟩ := hcel wr hbm
                  by_cases hml : m < x.ps.length
                  · have hml' : (m : Int) < (x.ps.length : Int) := by omega
                    obtain ⟨ao2, cp2, ev, hci⟩ := sq
                    simp only [Value.slice.injEq] at ev
                    obtain ⟨rfl, -, rfl⟩ := ev
                    obtain ⟨gi, oi, rfl, hgi, ci⟩ := hci m x.ps[m] (by simp [hml])
                    rw [← hbm.cell (p := ⟨gi, _, none⟩) hgi] at ci
                    have HM2 : (1 ≤ x.ps[m] ∧ x.ps[m] ≤ 1000000) → Hid (∀ n ∈ x.ps.take (m + 1), 1 ≤ n ∧ n ≤ 1000000) := fun h n hn => by
                      rw [List.take_succ_eq_append_getElem hml] at hn
                      rcases List.mem_append.1 hn with h1 | h1
                      · exact HM.out n h1
                      · rw [List.mem_singleton.1 h1]; exact h
                    have HM3 : ¬ (1 ≤ x.ps[m] ∧ x.ps[m] ≤ 1000000) → wtl 1 1000000 x.ps = false := fun h => by
                      cases hw : wtl 1 1000000 x.ps with
                      | false => rfl
                      | true => exact absurd (wtl_iff.1 hw _ (List.getElem_mem hml)) h
                    generalize x.ps[m] = n at *
                    have cW := within15_any n 1 1000000 wr
                    clear hci
                    by_cases hn : 1 ≤ n ∧ n ≤ 1000000
                    · have H3 := HM2 hn
                      rw [decide_eq_true hn.1, decide_eq_true hn.2] at cW
                      clear HM2 HM3 HM
                      go_wp2_with fail
                      refine cW.mono ?_
                      rintro e wx ⟨rfl, rfl⟩
                      go_wp2_with fail
                      exact ⟨⟨m + 1, by omega, by go_num, H3, hbm⟩, by simp [Go.RowKit.intOf]; omega⟩
                    · have e : R = false := (Hbd (.inr (.inr (by unfold coF; rw [HM3 hn]; simp)))).symm
                      subst e
                      have hnb : (decide (1 ≤ n) && decide (n ≤ 1000000)) = false := by simpa using hn
                      rw [hnb] at cW
                      clear HM2 HM3 HM Hst Hbd
                      go_wp2_with fail
                      refine cW.mono ?_
                      rintro e wx ⟨rfl, rfl⟩
                      go_wp2_with fail
                      go_ret
                      exact ⟨rfl, hal.trans (hbw.mono hal.size)⟩
                  · have hml' : ¬ (m : Int) < (x.ps.length : Int) := by omega
                    have hwt : wtl 1 1000000 x.ps = true := by
                      refine wtl_iff.2 (fun n hn => HM.out n ?_)
                      rw [List.take_of_length_le (by omega)]
                      exact hn
                    clear HM
                    have hco : coF x = (decide (chk x.d = 0) && (decide (chk x.o = 0) && ((decide (0 ≤ x.c) && decide (x.c ≤ 8)) && (decide (0 ≤ x.s) && decide (x.s ≤ 100000))))) := by unfold coF; rw [hwt, decide_eq_true (show x.ps.length ≤ 2 by omega)]; rfl
                    have cD := refCheck_any _ x.d wr (sq1.below hbm) hft.dl hsm.1
                    have cO := fun W (h : Below wq.heap.size wq W) => refCheck_any _ x.o W (sq2.below h) hft.ol hsm.2
                    clear hwt sq sq1 sq2
                    by_cases hd : chk x.d = 0
                    · rw [hd] at cD
                      rw [decide_eq_true hd, Bool.true_and] at hco
                      go_wp2_with fail
                      refine cD.mono ?_
                      rintro e w5 ⟨rfl, hb5⟩
                      have hb5q := hbm.trans (hb5.mono hbm.size)
                      have cO5 := cO w5 hb5q
                      clear d0 d1 d2 d3 d4 d5 cD
                      obtain ⟨d0, d1, d2, d3, d4, d5⟩ := hcel w5 hb5q
                      by_cases ho : chk x.o = 0
                      · rw [ho] at cO5
                        rw [decide_eq_true ho, Bool.true_and] at hco
                        go_wp2_with fail
                        refine cO5.mono ?_
                        rintro e w6 ⟨rfl, hb6⟩
                        have hb6q := hb5q.trans (hb6.mono hb5q.size)
                        clear d0 d1 d2 d3 d4 d5 cO5 cO
                        obtain ⟨d0, d1, d2, d3, d4, d5⟩ := hcel w6 hb6q
                        have cC := within15_any x.c 0 8 w6
                        have cS := within15_any x.s 0 100000 w6
                        have hbw6 := hBq.trans (hb6q.mono hBq.size)
                        generalize (decide (0 ≤ x.c) && decide (x.c ≤ 8)) = t1 at *
                        generalize (decide (0 ≤ x.s) && decide (x.s ≤ 100000)) = t2 at *
                        cases t1 with
                        | false =>
                          have e : R = false := (Hbd (.inr (.inr hco))).symm
                          subst e
                          clear Hst Hbd hco
                          go_wp2_with fail
                          refine cC.mono ?_
                          rintro e wx ⟨rfl, rfl⟩
                          go_wp2_with fail
                          go_ret
                          exact ⟨rfl, hal.trans (hbw6.mono hal.size)⟩
                        | true =>
                          go_wp2_with fail
                          refine cC.mono ?_
                          rintro e wx ⟨rfl, rfl⟩
                          go_wp2_with fail
                          refine cS.mono ?_
                          rintro e wy ⟨rfl, rfl⟩
                          cases t2 with
                          | false =>
                            have e : R = false := (Hbd (.inr (.inr hco))).symm
                            subst e
                            clear Hst Hbd hco
                            go_wp2_with fail
                            go_ret
                            exact ⟨rfl, hal.trans (hbw6.mono hal.size)⟩
                          | true =>
                            have H2 := Hst (by omega) (by omega) hco
                            clear Hst Hbd hco
                            go_wp2_with fail
                            exact ⟨⟨(j + 1) + 1, x.n, by omega, by go_num, H2, by omega, .inr ⟨(j + 1), x, rfl, Hnx.out, rfl⟩, hbw6⟩, by simp [Go.RowKit.intOf]; omega⟩
                      · have e : R = false := (Hbd (.inr (.inr (by rw [hco, decide_eq_false ho]; rfl)))).symm
                        subst e
                        clear Hst Hbd hco cO
                        have hon : (chk x.o != 0) = true := by simpa using ho
                        go_wp2_with fail
                        refine cO5.mono ?_
                        rintro e w6 ⟨rfl, hb6⟩
                        have hb6q := hb5q.trans (hb6.mono hb5q.size)
                        go_wp2_with fail
                        go_ret
                        exact ⟨rfl, hal.trans ((hBq.trans (hb6q.mono hBq.size)).mono hal.size)⟩
                    · have e : R = false := (Hbd (.inr (.inr (by rw [hco, decide_eq_false hd]; rfl)))).symm
                      subst e
                      clear Hst Hbd hco cO
                      have hdn : (chk x.d != 0) = true := by simpa using hd
                      go_wp2_with fail
                      refine cD.mono ?_
                      rintro e w5 ⟨rfl, hb5⟩
                      have hb5q := hbm.trans (hb5.mono hbm.size)
                      go_wp2_with fail
                      go_ret
                      exact ⟨rfl, hal.trans ((hBq.trans (hb5q.mono hBq.size)).mono hal.size)⟩
        · have e1 : (decide (1 ≤ x.n) && decide (x.n ≤ nc - 1)) = false := by
            cases he : (decide (1 ≤ x.n) && decide (x.n ≤ nc - 1)) with
            | false => rfl
            | true => exact absurd (by simpa using he) g1
          have e : R = false := (Hbd (by omega)).symm
          subst e
          clear Hst Hbd HA HP Hnx hcs hSm hsm
          go_upto_region 7 with fail
          rw [← hwa]
          refine wp_region_beh (by kernel_rfl) (by kernel_rfl) ?_
          repeat (go_big_quiet_step ((go_at_call 52; exact Beh.call (within15_beh _ _ _ _))))
          refine wpQuiet_nil ?_
          intro wq hw'
          have hwq := Beh.out hw'
          clear hw' p0 p1 p2 p3 p4 p5 pl pn 
          go_wp2_with fail
          go_ret
          exact ⟨rfl, hal.trans ((hBa.trans (hwq.mono hBa.size)).mono hal.size)⟩
      · have hlt' : ¬ (k : Int) < (cs.length : Int) := by omega
        have e : R = true := by rw [← HA.out, List.drop_of_length_le (by omega), rwG]
        subst e
        clear hcs HA HP
        go_wp2_with fail
        go_ret
        exact ⟨rfl, hal.trans (hbl.mono hal.size)⟩
end Go.Proofs.Ytdheddgdlindmaa
