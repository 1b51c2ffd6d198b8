/-
  The reference of record: clients.
-/
import Derived.Test.YtdheddgdlindmaaRcM
namespace Go.Proofs.Ytdheddgdlindmaa
open Go.ChangeShapes Go.WideShapes Go.ChangeAt Go.RowKit Go.PlainAid

theorem within15_beh {w : World} (n lo hi : Int) (u : Beh w) : Calls Try.prog 52 #[.int .i64 n, .int .i64 lo, .int .i64 hi] u.it fun e w' => e = .returned (.bool (decide (lo ≤ n) && decide (n ≤ hi))) ∧ Below u.it.heap.size u.it w' :=
  (within15_any n lo hi u.it).mono (by rintro e w' ⟨rfl, rfl⟩; exact ⟨rfl, Below.refl _ _⟩)
set_option maxRecDepth 20000 in
set_option maxHeartbeats 2000000 in
theorem clients15_any (S : StD) (v1 v2 v3 : Value) (w : World) (hr : RdCu w v3 S.us) :
    Calls Try.prog 55 #[.agg (S.fs v1 v2 v3)] w fun e w' => e = .returned (.bool (rwB CuD.c cuF 8 8 S.us)) ∧ Below w.heap.size w w' := by
  have hal := alloc_bR w (.cells (S.fs v1 v2 v3) 26)
  have hx := sb_new w S v1 v2 v3
  obtain ⟨ao, cp, rfl, hcs⟩ := hr
  obtain ⟨R, HR⟩ : ∃ R, Hid (rwB CuD.c cuF 8 8 S.us = R) := ⟨_, rfl⟩
  rw [HR.out]
  generalize hw1 : w.alloc (.cells (S.fs v1 v2 (.slice ao S.us.length cp)) 26) = w1 at *
  obtain ⟨nc, nb, cs, bs, us⟩ := S
  simp only [StD.fs] at *
  have hS : ∀ W', Below w1.heap.size w1 W' → W'.cell? ⟨w.heap.size, 4, none⟩ = some (.slice ao us.length cp) := fun W' h => (cellsSB (hx.below h)).2.2.2.2
  have x4 := hS w1 (Below.refl _ _)
  by_cases hbig : (us.length : Int) > 8
  · have e : R = false := by rw [← HR.out, rwB, decide_eq_false (by omega)]; rfl
    subst e
    clear HR hcs hS
    go_enter Try.func55, Try.ntmps55
    go_wp2_with fail
    go_ret
    exact ⟨rfl, hal⟩
  · have HR2 : Hid (rwG CuD.c cuF 8 0 us = R) := by show _ = _; rw [← HR.out, rwB, decide_eq_true (by omega), Bool.true_and]
    clear HR hx
    go_enter Try.func55, Try.ntmps55
    go_wp2_with fail
    clear x4
    go_loopw [3] (fun i wr => ∃ (k : Nat) (a : Int), k ≤ us.length ∧ i = .int .i64 (k : Int) ∧ Hid (rwG CuD.c cuF 8 a (us.drop k) = R) ∧ 0 ≤ a ∧ Hid (k = 0 ∧ a = 0 ∨ ∃ j x, k = j + 1 ∧ us[j]? = some x ∧ a = x.c) ∧ Below w1.heap.size w1 wr) (fun i _ => us.length - (Go.RowKit.intOf i).toNat)
    case atStart => exact ⟨0, 0, by omega, rfl, HR2, Int.le_refl _, .inl ⟨rfl, rfl⟩, Below.refl _ _⟩
    case round =>
      clear HR2
      obtain ⟨k, a, hk, rfl, HA, ha0, HP, hbl⟩ := hrel
      have x4 := hS wr hbl
      by_cases hlt : k < us.length
      · have hlt' : (k : Int) < (us.length : Int) := by omega
        obtain ⟨b, off, rfl, hl, c0, c1, c2⟩ := hcs k us[k] (by simp [hlt])
        have hlw : Below w.heap.size w wr := hal.trans (hbl.mono hal.size)
        rw [← hlw.cell (p := ⟨b, _, none⟩) hl] at c0 c1 c2
        have Hst := fun h1 h2 h3 => (rwG_step (num := CuD.c) (right := cuF) (last := 8) (a := a) hlt h1 h2 h3).symm.trans HA.out
        have Hbd := fun h => (rwG_bad (num := CuD.c) (right := cuF) (last := 8) (a := a) hlt h).symm.trans HA.out
        have Hnx : Hid (us[k]? = some us[k]) := by show _ = _; simp [hlt]
        have hcu : cuF us[k] = ((decide (1 ≤ us[k].b) && decide (us[k].b ≤ 1000000)) && (decide (1 ≤ us[k].s) && decide (us[k].s ≤ 100000))) := by unfold cuF; simp only [Bool.and_assoc]
        generalize us[k] = x at *
        obtain ⟨wa, hwa⟩ : ∃ wa, wa = wr.alloc (.cells #[.int .i64 x.c, .int .i64 x.b, .int .i64 x.s] 61) := ⟨_, rfl⟩
        have hala := alloc_bR wr (.cells #[.int .i64 x.c, .int .i64 x.b, .int .i64 x.s] 61)
        have hxa := heap_alloc_new wr (.cells #[.int .i64 x.c, .int .i64 x.b, .int .i64 x.s] 61)
        rw [← hwa] at hala hxa
        have hBa := hbl.trans (hala.mono hbl.size)
        have p0 : ∀ u : Beh wa, u.it.cell? ⟨wr.heap.size, 0, none⟩ = some (.int .i64 x.c) := fun u => cell_of_row _ _ 0 _ _ (0, 0) ((u.h.block _ (heap_lt hxa)).trans hxa)
        have p1 : ∀ u : Beh wa, u.it.cell? ⟨wr.heap.size, 1, none⟩ = some (.int .i64 x.b) := fun u => cell_of_row _ _ 1 _ _ (0, 0) ((u.h.block _ (heap_lt hxa)).trans hxa)
        have p2 : ∀ u : Beh wa, u.it.cell? ⟨wr.heap.size, 2, none⟩ = some (.int .i64 x.s) := fun u => cell_of_row _ _ 2 _ _ (0, 0) ((u.h.block _ (heap_lt hxa)).trans hxa)
        have p4 : ∀ u : Beh wa, u.it.cell? ⟨w.heap.size, 4, none⟩ = some (.slice (some ⟨b, off, none⟩) us.length cp) := fun u => hS _ (hBa.trans (u.h.mono hBa.size))
        by_cases g1 : 1 ≤ x.c ∧ x.c ≤ 8
        · have e1 : (decide (1 ≤ x.c) && decide (x.c ≤ 8)) = true := by
            rw [decide_eq_true g1.1, decide_eq_true g1.2]; rfl
          rcases HP.out with ⟨rfl, rfl⟩ | ⟨j, y, rfl, hy, rfl⟩
          · simp only [Nat.zero_mul, Nat.add_zero] at c0 c1 c2
            cases e2 : (decide (1 ≤ x.b) && decide (x.b ≤ 1000000)) with
            | false =>
              have e : R = false := (Hbd (.inr (.inr (by rw [hcu]; simp [*])))).symm
              subst e
              clear Hst Hbd HA HP Hnx hcu hcs
              go_upto_region 7 with fail
              rw [← hwa]
              refine wp_region_beh (by kernel_rfl) (by kernel_rfl) ?_
              repeat (go_big_quiet_step ((go_at_call 52; exact Beh.call (within15_beh _ _ _ _))))
              refine wpQuiet_nil ?_
              intro wq hw'
              have hwq := Beh.out hw'
              clear hw' p0 p1 p2 p4 
              go_wp2_with fail
              go_ret
              exact ⟨rfl, hal.trans ((hBa.trans (hwq.mono hBa.size)).mono hal.size)⟩
            | true =>
              cases e3 : (decide (1 ≤ x.s) && decide (x.s ≤ 100000)) with
              | false =>
                have e : R = false := (Hbd (.inr (.inr (by rw [hcu]; simp [*])))).symm
                subst e
                clear Hst Hbd HA HP Hnx hcu hcs
                go_upto_region 7 with fail
                rw [← hwa]
                refine wp_region_beh (by kernel_rfl) (by kernel_rfl) ?_
                repeat (go_big_quiet_step ((go_at_call 52; exact Beh.call (within15_beh _ _ _ _))))
                refine wpQuiet_nil ?_
                intro wq hw'
                have hwq := Beh.out hw'
                clear hw' p0 p1 p2 p4 
                go_wp2_with fail
                go_ret
                exact ⟨rfl, hal.trans ((hBa.trans (hwq.mono hBa.size)).mono hal.size)⟩
              | true =>
                have H2 := Hst (by omega) (by omega) (by rw [hcu]; simp [*])
                clear Hst Hbd HA HP hcu hcs
                go_upto_region 7 with fail
                rw [← hwa]
                refine wp_region_beh (by kernel_rfl) (by kernel_rfl) ?_
                repeat (go_big_quiet_step ((go_at_call 52; exact Beh.call (within15_beh _ _ _ _))))
                refine wpQuiet_nil ?_
                intro wq hw'
                have hwq := Beh.out hw'
                clear hw' p0 p1 p2 p4 
                go_wp2_with fail
                exact ⟨⟨0 + 1, x.c, by omega, by go_num, H2, by omega, .inr ⟨0, x, rfl, Hnx.out, rfl⟩, hBa.trans (hwq.mono hBa.size)⟩, by simp [Go.RowKit.intOf]; omega⟩
          · obtain ⟨b', off', eb, hl', z0, -, -⟩ := hcs j y hy
            simp only [Option.some.injEq, Addr.mk.injEq, and_true] at eb
            obtain ⟨rfl, rfl⟩ := eb
            have p5 : ∀ u : Beh wa, u.it.cell? ⟨b, off + j * 3, none⟩ = some (.int .i64 y.c) := fun u => by
              have h1 := hlw.trans (hala.mono hlw.size)
              have h2 := h1.trans (u.h.mono h1.size)
              rw [h2.cell (p := ⟨b, off + j * 3, none⟩) hl']
              exact z0
            have hwj : IntKind.i64.wrap ((j : Int) + 1 - 1) = (j : Int) := by rw [Int.add_sub_cancel, IntKind.wrap_i64]; omega
            have hwk : IntKind.i64.wrap (((j + 1 : Nat) : Int) - 1) = (j : Int) := by rw [show (((j + 1 : Nat) : Int) - 1) = (j : Int) by omega, IntKind.wrap_i64]; omega
            have hjl : (j : Int) < (us.length : Int) := by omega
            have hd1 : decide (((j + 1 : Nat) : Int) > 0) = true := decide_eq_true (by omega)
            have hd2 : decide ((0 : Int) < ((j + 1 : Nat) : Int)) = true := decide_eq_true (by omega)
            have hd3 : decide ((0 : Int) < (j : Int) + 1) = true := decide_eq_true (by omega)
            clear z0
            by_cases g2 : y.c ≥ x.c
            · have e : R = false := (Hbd (.inl (by omega))).symm
              subst e
              have hg2 : decide (y.c ≥ x.c) = true := decide_eq_true g2
              have hg3 : decide (x.c ≤ y.c) = true := decide_eq_true (by omega)
              clear Hst Hbd HA HP Hnx hcu hcs
              go_upto_region 7 with fail
              rw [← hwa]
              refine wp_region_beh (by kernel_rfl) (by kernel_rfl) ?_
              repeat (go_big_quiet_step ((go_at_call 52; exact Beh.call (within15_beh _ _ _ _))))
              refine wpQuiet_nil ?_
              intro wq hw'
              have hwq := Beh.out hw'
              clear hw' p0 p1 p2 p4 p5
              go_wp2_with fail
              go_ret
              exact ⟨rfl, hal.trans ((hBa.trans (hwq.mono hBa.size)).mono hal.size)⟩
            · have hg2 : decide (y.c ≥ x.c) = false := decide_eq_false g2
              have hg3 : decide (x.c ≤ y.c) = false := decide_eq_false (by omega)
              cases e2 : (decide (1 ≤ x.b) && decide (x.b ≤ 1000000)) with
              | false =>
                have e : R = false := (Hbd (.inr (.inr (by rw [hcu]; simp [*])))).symm
                subst e
                clear Hst Hbd HA HP Hnx hcu hcs
                go_upto_region 7 with fail
                rw [← hwa]
                refine wp_region_beh (by kernel_rfl) (by kernel_rfl) ?_
                repeat (go_big_quiet_step ((go_at_call 52; exact Beh.call (within15_beh _ _ _ _))))
                refine wpQuiet_nil ?_
                intro wq hw'
                have hwq := Beh.out hw'
                clear hw' p0 p1 p2 p4 p5
                go_wp2_with fail
                go_ret
                exact ⟨rfl, hal.trans ((hBa.trans (hwq.mono hBa.size)).mono hal.size)⟩
              | true =>
                cases e3 : (decide (1 ≤ x.s) && decide (x.s ≤ 100000)) with
                | false =>
                  have e : R = false := (Hbd (.inr (.inr (by rw [hcu]; simp [*])))).symm
                  subst e
                  clear Hst Hbd HA HP Hnx hcu hcs
                  go_upto_region 7 with fail
                  rw [← hwa]
                  refine wp_region_beh (by kernel_rfl) (by kernel_rfl) ?_
                  repeat (go_big_quiet_step ((go_at_call 52; exact Beh.call (within15_beh _ _ _ _))))
                  refine wpQuiet_nil ?_
                  intro wq hw'
                  have hwq := Beh.out hw'
                  clear hw' p0 p1 p2 p4 p5
                  go_wp2_with fail
                  go_ret
                  exact ⟨rfl, hal.trans ((hBa.trans (hwq.mono hBa.size)).mono hal.size)⟩
                | true =>
                  have H2 := Hst (by omega) (by omega) (by rw [hcu]; simp [*])
                  clear Hst Hbd HA HP hcu hcs
                  go_upto_region 7 with fail
                  rw [← hwa]
                  refine wp_region_beh (by kernel_rfl) (by kernel_rfl) ?_
                  repeat (go_big_quiet_step ((go_at_call 52; exact Beh.call (within15_beh _ _ _ _))))
                  refine wpQuiet_nil ?_
                  intro wq hw'
                  have hwq := Beh.out hw'
                  clear hw' p0 p1 p2 p4 p5
                  go_wp2_with fail
                  exact ⟨⟨j + 1 + 1, x.c, by omega, by go_num, H2, by omega, .inr ⟨j + 1, x, rfl, Hnx.out, rfl⟩, hBa.trans (hwq.mono hBa.size)⟩, by simp [Go.RowKit.intOf]; omega⟩
        · have e1 : (decide (1 ≤ x.c) && decide (x.c ≤ 8)) = false := by
            rw [Bool.and_eq_false_iff, decide_eq_false_iff_not, decide_eq_false_iff_not]; omega
          have e : R = false := (Hbd (by omega)).symm
          subst e
          clear Hst Hbd HA HP Hnx hcu hcs
          go_upto_region 7 with fail
          rw [← hwa]
          refine wp_region_beh (by kernel_rfl) (by kernel_rfl) ?_
          repeat (go_big_quiet_step ((go_at_call 52; exact Beh.call (within15_beh _ _ _ _))))
          refine wpQuiet_nil ?_
          intro wq hw'
          have hwq := Beh.out hw'
          clear hw' p0 p1 p2 p4
          go_wp2_with fail
          go_ret
          exact ⟨rfl, hal.trans ((hBa.trans (hwq.mono hBa.size)).mono hal.size)⟩
      · have hlt' : ¬ (k : Int) < (us.length : Int) := by omega
        have e : R = true := by rw [← HA.out, List.drop_of_length_le (by omega), rwG]
        subst e
        clear hcs HA HP hS
        go_wp2_with fail
        go_ret
        exact ⟨rfl, hal.trans (hbl.mono hal.size)⟩
end Go.Proofs.Ytdheddgdlindmaa
