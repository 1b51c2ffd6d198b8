/-
  The reference of record: branches.
-/
import Derived.Test.YtdheddgdlindmaaRcN
namespace Go.Proofs.Ytdheddgdlindmaa
open Go.ChangeShapes Go.WideShapes Go.ChangeAt Go.RowKit Go.PlainAid

theorem name15_beh {w : World} (s : ByteArray) (hs : s.size ≤ 140737488355328) (u : Beh w) : Calls Try.prog 76 #[.string s] u.it fun e w' => e = .returned (.bool (nmOk s)) ∧ Below u.it.heap.size u.it w' := name15_any s u.it hs
set_option maxRecDepth 20000 in
set_option maxHeartbeats 4000000 in
theorem branches15_any (S : StD) (v1 v2 v3 : Value) (w : World) (hr : RdBr w v2 S.bs) (hF : ∀ x ∈ S.bs, x.Fit) (hn0 : 1 ≤ S.nb) (hn1 : S.nb ≤ 1000000) :
    Calls Try.prog 54 #[.agg (S.fs v1 v2 v3)] w fun e w' => e = .returned (.bool (rwB BrD.i brF 20 (S.nb - 1) S.bs)) ∧ Below w.heap.size w w' := by
  have hal := alloc_bR w (.cells (S.fs v1 v2 v3) 26)
  have hx := sb_new w S v1 v2 v3
  obtain ⟨ao, cp, rfl, hcs⟩ := hr
  obtain ⟨R, HR⟩ : ∃ R, Hid (rwB BrD.i brF 20 (S.nb - 1) S.bs = R) := ⟨_, rfl⟩
  rw [HR.out]
  generalize hw1 : w.alloc (.cells (S.fs v1 (.slice ao S.bs.length cp) v3) 26) = w1 at *
  obtain ⟨nc, nb, cs, bs, us⟩ := S
  simp only [StD.fs] at *
  have hSl : ∀ W', Below w1.heap.size w1 W' → W'.cell? ⟨w.heap.size, 3, none⟩ = some (.slice ao bs.length cp) := fun W' h => (cellsSB (hx.below h)).2.2.2.1
  have hSn : ∀ W', Below w1.heap.size w1 W' → W'.cell? ⟨w.heap.size, 1, none⟩ = some (.int .i64 nb) := fun W' h => (cellsSB (hx.below h)).2.1
  have x4 := hSl w1 (Below.refl _ _)
  have hwn : IntKind.i64.wrap (nb - 1) = nb - 1 := by rw [IntKind.wrap_i64]; omega
  by_cases hbig : (bs.length : Int) > 20
  · have e : R = false := by rw [← HR.out, rwB, decide_eq_false (by omega)]; rfl
    subst e
    clear HR hcs hSl hSn
    go_enter Try.func54, Try.ntmps54
    go_wp2_with fail
    go_ret
    exact ⟨rfl, hal⟩
  · have HR2 : Hid (rwG BrD.i brF (nb - 1) 0 bs = R) := by show _ = _; rw [← HR.out, rwB, decide_eq_true (by omega), Bool.true_and]
    clear HR hx
    go_enter Try.func54, Try.ntmps54
    go_wp2_with fail
    clear x4
    go_loopw [3] (fun i wr => ∃ (k : Nat) (a : Int), k ≤ bs.length ∧ i = .int .i64 (k : Int) ∧ Hid (rwG BrD.i brF (nb - 1) a (bs.drop k) = R) ∧ 0 ≤ a ∧ Hid (k = 0 ∧ a = 0 ∨ ∃ j x, k = j + 1 ∧ bs[j]? = some x ∧ a = x.i) ∧ Below w1.heap.size w1 wr) (fun i _ => bs.length - (Go.RowKit.intOf i).toNat)
    case atStart => exact ⟨0, 0, by omega, rfl, HR2, Int.le_refl _, .inl ⟨rfl, rfl⟩, Below.refl _ _⟩
    case round =>
      clear HR2
      obtain ⟨k, a, hk, rfl, HA, ha0, HP, hbl⟩ := hrel
      have x4 := hSl wr hbl
      by_cases hlt : k < bs.length
      · have hlt' : (k : Int) < (bs.length : Int) := by omega
        obtain ⟨b, off, lv, rfl, hl, ⟨c0, c1, c2⟩, s0⟩ := hcs k bs[k] (by simp [hlt])
        have hft := hF bs[k] (List.getElem_mem hlt)
        have hlw : Below w.heap.size w wr := hal.trans (hbl.mono hal.size)
        rw [← hlw.cell (p := ⟨b, _, none⟩) hl] at c0 c1 c2
        have Hst := fun h1 h2 h3 => (rwG_step (num := BrD.i) (right := brF) (last := nb - 1) (a := a) hlt h1 h2 h3).symm.trans HA.out
        have Hbd := fun h => (rwG_bad (num := BrD.i) (right := brF) (last := nb - 1) (a := a) hlt h).symm.trans HA.out
        have Hnx : Hid (bs[k]? = some bs[k]) := by show _ = _; simp [hlt]
        generalize bs[k] = x at *
        obtain ⟨al, cl, rfl⟩ := rdi_len s0
        obtain ⟨wa, hwa⟩ : ∃ wa, wa = wr.alloc (.cells #[.int .i64 x.i, .string x.nm, .slice al x.lg.length cl] 50) := ⟨_, rfl⟩
        have hala := alloc_bR wr (.cells #[.int .i64 x.i, .string x.nm, .slice al x.lg.length cl] 50)
        have hxa := heap_alloc_new wr (.cells #[.int .i64 x.i, .string x.nm, .slice al x.lg.length cl] 50)
        rw [← hwa] at hala hxa
        have hBa := hbl.trans (hala.mono hbl.size)
        have hlwa := hlw.trans (hala.mono hlw.size)
        have p0 : ∀ u : Beh wa, u.it.cell? ⟨wr.heap.size, 0, none⟩ = some (.int .i64 x.i) := fun u => cell_of_row _ _ 0 _ _ (0, 0) ((u.h.block _ (heap_lt hxa)).trans hxa)
        have p1 : ∀ u : Beh wa, u.it.cell? ⟨wr.heap.size, 1, none⟩ = some (.string x.nm) := fun u => cell_of_row _ _ 1 _ _ (0, 0) ((u.h.block _ (heap_lt hxa)).trans hxa)
        have p2 : ∀ u : Beh wa, u.it.cell? ⟨wr.heap.size, 2, none⟩ = some (.slice al x.lg.length cl) := fun u => cell_of_row _ _ 2 _ _ (0, 0) ((u.h.block _ (heap_lt hxa)).trans hxa)
        have pl : ∀ u : Beh wa, u.it.cell? ⟨w.heap.size, 3, none⟩ = some (.slice (some ⟨b, off, none⟩) bs.length cp) := fun u => hSl _ (hBa.trans (u.h.mono hBa.size))
        have pn : ∀ u : Beh wa, u.it.cell? ⟨w.heap.size, 1, none⟩ = some (.int .i64 nb) := fun u => hSn _ (hBa.trans (u.h.mono hBa.size))
        have cN := fun u : Beh wa => name15_beh x.nm hft.nm u
        by_cases g1 : 1 ≤ x.i ∧ x.i ≤ nb - 1
        · have e1 : (decide (1 ≤ x.i) && decide (x.i ≤ nb - 1)) = true := by rw [decide_eq_true g1.1, decide_eq_true g1.2]; rfl
          rcases HP.out with ⟨rfl, rfl⟩ | ⟨j, y, rfl, hy, rfl⟩
          · simp only [Nat.zero_mul, Nat.add_zero] at c0 c1 c2
            cases e2 : nmOk x.nm with
            | false =>
              have e : R = false := (Hbd (.inr (.inr (by unfold brF; rw [e2]; rfl)))).symm
              subst e
              clear Hst Hbd HA HP Hnx hcs
              go_upto_region 7 with fail
              rw [← hwa]
              refine wp_region_beh (by kernel_rfl) (by kernel_rfl) ?_
              repeat (go_big_quiet_step ((first | (go_at_call 52; exact Beh.call (within15_beh _ _ _ _)) | (go_at_call 76; exact Beh.call (cN _)))))
              refine wpQuiet_nil ?_
              intro wq hw'
              have hwq := Beh.out hw'
              clear hw' p0 p1 p2 pl pn 
              go_wp2_with fail
              go_ret
              exact ⟨rfl, hal.trans ((hBa.trans (hwq.mono hBa.size)).mono hal.size)⟩
            | true =>
              by_cases g4 : x.lg.length > 300
              · have h4a : decide (300 < x.lg.length) = true := decide_eq_true g4
                have h4b : decide ((300 : Int) < (x.lg.length : Int)) = true := decide_eq_true (by omega)
                have h4c : decide ((x.lg.length : Int) > 300) = true := decide_eq_true (by omega)
                have e : R = false := (Hbd (.inr (.inr (by unfold brF; rw [decide_eq_false (show ¬ x.lg.length ≤ 300 by omega)]; simp)))).symm
                subst e
                clear Hst Hbd HA HP Hnx hcs
                go_upto_region 7 with fail
                rw [← hwa]
                refine wp_region_beh (by kernel_rfl) (by kernel_rfl) ?_
                repeat (go_big_quiet_step ((first | (go_at_call 52; exact Beh.call (within15_beh _ _ _ _)) | (go_at_call 76; exact Beh.call (cN _)))))
                refine wpQuiet_nil ?_
                intro wq hw'
                have hwq := Beh.out hw'
                clear hw' p0 p1 p2 pl pn 
                go_wp2_with fail
                go_ret
                exact ⟨rfl, hal.trans ((hBa.trans (hwq.mono hBa.size)).mono hal.size)⟩
              · have h4a : decide (300 < x.lg.length) = false := decide_eq_false g4
                have h4b : decide ((300 : Int) < (x.lg.length : Int)) = false := decide_eq_false (by omega)
                have h4c : decide ((x.lg.length : Int) > 300) = false := decide_eq_false (by omega)
                clear HA HP hcs
                go_upto_region 7 with fail
                rw [← hwa]
                refine wp_region_beh (by kernel_rfl) (by kernel_rfl) ?_
                repeat (go_big_quiet_step ((first | (go_at_call 52; exact Beh.call (within15_beh _ _ _ _)) | (go_at_call 76; exact Beh.call (cN _)))))
                refine wpQuiet_nil ?_
                intro wq hw'
                have hwq := Beh.out hw'
                clear hw' p0 p1 p2 pl pn 
                have hBq := hBa.trans (hwq.mono hBa.size)
                have hxq := (hwq.block _ (heap_lt hxa)).trans hxa
                have hcel : ∀ W, Below wq.heap.size wq W → W.cell? ⟨wr.heap.size, 0, none⟩ = some (.int .i64 x.i) ∧ W.cell? ⟨wr.heap.size, 1, none⟩ = some (.string x.nm) ∧ W.cell? ⟨wr.heap.size, 2, none⟩ = some (.slice al x.lg.length cl) := fun W h => by
                  have q := fun j => cell_of_row W wr.heap.size j _ _ (0, 0) ((h.block _ (heap_lt hxq)).trans hxq)
                  exact ⟨q 0, q 1, q 2⟩
                have sq := s0.below (hlwa.trans (hwq.mono hlwa.size))
                generalize wr.heap.size = gx at *
                clear hxa hxq hwq hala hBa hlwa hwa hlw hbl x4 s0 c0 c1 c2
                go_wp2_with fail
                go_loopw [5] (fun i wr => ∃ m : Nat, m ≤ x.lg.length ∧ i = .int .i64 (m : Int) ∧ Hid (∀ n ∈ x.lg.take m, 1 ≤ n ∧ n ≤ 1000000) ∧ Below wq.heap.size wq wr) (fun i _ => x.lg.length - (Go.RowKit.intOf i).toNat)
                case atStart => exact ⟨0, by omega, rfl, (fun n hn => by simp at hn), Below.refl _ _⟩
                case round =>
                  obtain ⟨m, hm, rfl, HM, hbm⟩ := hrel
                  have hbw := hBq.trans (hbm.mono hBq.size)
                  obtain ⟨d0, d1, d2⟩ := hcel wr hbm
                  by_cases hml : m < x.lg.length
                  · have hml' : (m : Int) < (x.lg.length : Int) := by omega
                    obtain ⟨ao2, cp2, ev, hci⟩ := sq
                    simp only [Value.slice.injEq] at ev
                    obtain ⟨rfl, -, rfl⟩ := ev
                    obtain ⟨gi, oi, rfl, hgi, ci⟩ := hci m x.lg[m] (by simp [hml])
                    rw [← hbm.cell (p := ⟨gi, _, none⟩) hgi] at ci
                    have HM2 : (1 ≤ x.lg[m] ∧ x.lg[m] ≤ 1000000) → Hid (∀ n ∈ x.lg.take (m + 1), 1 ≤ n ∧ n ≤ 1000000) := fun h n hn => by
                      rw [List.take_succ_eq_append_getElem hml] at hn
                      rcases List.mem_append.1 hn with h1 | h1
                      · exact HM.out n h1
                      · rw [List.mem_singleton.1 h1]; exact h
                    have HM3 : ¬ (1 ≤ x.lg[m] ∧ x.lg[m] ≤ 1000000) → wtl 1 1000000 x.lg = false := fun h => by
                      cases hw : wtl 1 1000000 x.lg with
                      | false => rfl
                      | true => exact absurd (wtl_iff.1 hw _ (List.getElem_mem hml)) h
                    generalize x.lg[m] = n at *
                    have cW := within15_any n 1 1000000 wr
                    clear hci
                    by_cases hn : 1 ≤ n ∧ n ≤ 1000000
                    · have H3 := HM2 hn
                      rw [decide_eq_true hn.1, decide_eq_true hn.2] at cW
                      clear HM2 HM3 HM
                      go_wp2_with fail
                      refine cW.mono ?_
                      rintro e wx ⟨rfl, rfl⟩
                      go_wp2_with fail
                      exact ⟨⟨m + 1, by omega, by go_num, H3, hbm⟩, by simp [Go.RowKit.intOf]; omega⟩
                    · have e : R = false := (Hbd (.inr (.inr (by unfold brF; rw [HM3 hn]; simp)))).symm
                      subst e
                      have hnb : (decide (1 ≤ n) && decide (n ≤ 1000000)) = false := by simpa using hn
                      rw [hnb] at cW
                      clear HM2 HM3 HM Hst Hbd
                      go_wp2_with fail
                      refine cW.mono ?_
                      rintro e wx ⟨rfl, rfl⟩
                      go_wp2_with fail
                      go_ret
                      exact ⟨rfl, hal.trans (hbw.mono hal.size)⟩
                  · have hml' : ¬ (m : Int) < (x.lg.length : Int) := by omega
                    have hwt : wtl 1 1000000 x.lg = true := by
                      refine wtl_iff.2 (fun n hn => HM.out n ?_)
                      rw [List.take_of_length_le (by omega)]
                      exact hn
                    clear HM
                    have H2 := Hst (by omega) (by omega) (by unfold brF; rw [hwt, e2, decide_eq_true (show x.lg.length ≤ 300 by omega)]; rfl)
                    clear Hst Hbd
                    go_wp2_with fail
                    exact ⟨⟨0 + 1, x.i, by omega, by go_num, H2, by omega, .inr ⟨0, x, rfl, Hnx.out, rfl⟩, hbw⟩, by simp [Go.RowKit.intOf]; omega⟩
          · obtain ⟨b', off', lv', eb, hl', ⟨z0, -⟩, -⟩ := hcs j y hy
            simp only [Option.some.injEq, Addr.mk.injEq, and_true] at eb
            obtain ⟨rfl, rfl⟩ := eb
            have p9 : ∀ u : Beh wa, u.it.cell? ⟨b, off + j * 3, none⟩ = some (.int .i64 y.i) := fun u => by
              have h2 := hlwa.trans (u.h.mono hlwa.size)
              rw [h2.cell (p := ⟨b, off + j * 3, none⟩) hl']
              exact z0
            have hwj : IntKind.i64.wrap ((j : Int) + 1 - 1) = (j : Int) := by rw [Int.add_sub_cancel, IntKind.wrap_i64]; omega
            have hwk : IntKind.i64.wrap (((j + 1 : Nat) : Int) - 1) = (j : Int) := by rw [show (((j + 1 : Nat) : Int) - 1) = (j : Int) by omega, IntKind.wrap_i64]; omega
            have hjl : (j : Int) < (bs.length : Int) := by omega
            have hd1 : decide (((j + 1 : Nat) : Int) > 0) = true := decide_eq_true (by omega)
            have hd2 : decide ((0 : Int) < ((j + 1 : Nat) : Int)) = true := decide_eq_true (by omega)
            have hd3 : decide ((0 : Int) < (j : Int) + 1) = true := decide_eq_true (by omega)
            clear z0
            by_cases g2 : y.i ≥ x.i
            · have hg2 : decide (y.i ≥ x.i) = true := decide_eq_true g2
              have hg3 : decide (x.i ≤ y.i) = true := decide_eq_true (by omega)
              have e : R = false := (Hbd (.inl (by omega))).symm
              subst e
              clear Hst Hbd HA HP Hnx hcs
              go_upto_region 7 with fail
              rw [← hwa]
              refine wp_region_beh (by kernel_rfl) (by kernel_rfl) ?_
              repeat (go_big_quiet_step ((first | (go_at_call 52; exact Beh.call (within15_beh _ _ _ _)) | (go_at_call 76; exact Beh.call (cN _)))))
              refine wpQuiet_nil ?_
              intro wq hw'
              have hwq := Beh.out hw'
              clear hw' p0 p1 p2 pl pn p9
              go_wp2_with fail
              go_ret
              exact ⟨rfl, hal.trans ((hBa.trans (hwq.mono hBa.size)).mono hal.size)⟩
            · have hg2 : decide (y.i ≥ x.i) = false := decide_eq_false g2
              have hg3 : decide (x.i ≤ y.i) = false := decide_eq_false (by omega)
              cases e2 : nmOk x.nm with
              | false =>
                have e : R = false := (Hbd (.inr (.inr (by unfold brF; rw [e2]; rfl)))).symm
                subst e
                clear Hst Hbd HA HP Hnx hcs
                go_upto_region 7 with fail
                rw [← hwa]
                refine wp_region_beh (by kernel_rfl) (by kernel_rfl) ?_
                repeat (go_big_quiet_step ((first | (go_at_call 52; exact Beh.call (within15_beh _ _ _ _)) | (go_at_call 76; exact Beh.call (cN _)))))
                refine wpQuiet_nil ?_
                intro wq hw'
                have hwq := Beh.out hw'
                clear hw' p0 p1 p2 pl pn p9
                go_wp2_with fail
                go_ret
                exact ⟨rfl, hal.trans ((hBa.trans (hwq.mono hBa.size)).mono hal.size)⟩
              | true =>
                by_cases g4 : x.lg.length > 300
                · have h4a : decide (300 < x.lg.length) = true := decide_eq_true g4
                  have h4b : decide ((300 : Int) < (x.lg.length : Int)) = true := decide_eq_true (by omega)
                  have h4c : decide ((x.lg.length : Int) > 300) = true := decide_eq_true (by omega)
                  have e : R = false := (Hbd (.inr (.inr (by unfold brF; rw [decide_eq_false (show ¬ x.lg.length ≤ 300 by omega)]; simp)))).symm
                  subst e
                  clear Hst Hbd HA HP Hnx hcs
                  go_upto_region 7 with fail
                  rw [← hwa]
                  refine wp_region_beh (by kernel_rfl) (by kernel_rfl) ?_
                  repeat (go_big_quiet_step ((first | (go_at_call 52; exact Beh.call (within15_beh _ _ _ _)) | (go_at_call 76; exact Beh.call (cN _)))))
                  refine wpQuiet_nil ?_
                  intro wq hw'
                  have hwq := Beh.out hw'
                  clear hw' p0 p1 p2 pl pn p9
                  go_wp2_with fail
                  go_ret
                  exact ⟨rfl, hal.trans ((hBa.trans (hwq.mono hBa.size)).mono hal.size)⟩
                · have h4a : decide (300 < x.lg.length) = false := decide_eq_false g4
                  have h4b : decide ((300 : Int) < (x.lg.length : Int)) = false := decide_eq_false (by omega)
                  have h4c : decide ((x.lg.length : Int) > 300) = false := decide_eq_false (by omega)
                  clear HA HP hcs
                  go_upto_region 7 with fail
                  rw [← hwa]
                  refine wp_region_beh (by kernel_rfl) (by kernel_rfl) ?_
                  repeat (go_big_quiet_step ((first | (go_at_call 52; exact Beh.call (within15_beh _ _ _ _)) | (go_at_call 76; exact Beh.call (cN _)))))
                  refine wpQuiet_nil ?_
                  intro wq hw'
                  have hwq := Beh.out hw'
                  clear hw' p0 p1 p2 pl pn p9
                  have hBq := hBa.trans (hwq.mono hBa.size)
                  have hxq := (hwq.block _ (heap_lt hxa)).trans hxa
                  have hcel : ∀ W, Below wq.heap.size wq W → W.cell? ⟨wr.heap.size, 0, none⟩ = some (.int .i64 x.i) ∧ W.cell? ⟨wr.heap.size, 1, none⟩ = some (.string x.nm) ∧ W.cell? ⟨wr.heap.size, 2, none⟩ = some (.slice al x.lg.length cl) := fun W h => by
                    have q := fun j => cell_of_row W wr.heap.size j _ _ (0, 0) ((h.block _ (heap_lt hxq)).trans hxq)
                    exact ⟨q 0, q 1, q 2⟩
                  have sq := s0.below (hlwa.trans (hwq.mono hlwa.size))
                  generalize wr.heap.size = gx at *
                  clear hxa hxq hwq hala hBa hlwa hwa hlw hbl x4 s0 c0 c1 c2
                  go_wp2_with fail
                  go_loopw [5] (fun i wr => ∃ m : Nat, m ≤ x.lg.length ∧ i = .int .i64 (m : Int) ∧ Hid (∀ n ∈ x.lg.take m, 1 ≤ n ∧ n ≤ 1000000) ∧ Below wq.heap.size wq wr) (fun i _ => x.lg.length - (Go.RowKit.intOf i).toNat)
                  case atStart => exact ⟨0, by omega, rfl, (fun n hn => by simp at hn), Below.refl _ _⟩
                  case round =>
                    obtain ⟨m, hm, rfl, HM, hbm⟩ := hrel
                    have hbw := hBq.trans (hbm.mono hBq.size)
                    obtain ⟨d0, d1, d2⟩ := hcel wr hbm
                    by_cases hml : m < x.lg.length
                    · have hml' : (m : Int) < (x.lg.length : Int) := by omega
                      obtain ⟨ao2, cp2, ev, hci⟩ := sq
                      simp only [Value.slice.injEq] at ev
                      obtain ⟨rfl, -, rfl⟩ := ev
                      obtain ⟨gi, oi, rfl, hgi, ci⟩ := hci m x.lg[m] (by simp [hml])
                      rw [← hbm.cell (p := ⟨gi, _, none⟩) hgi] at ci
                      have HM2 : (1 ≤ x.lg[m] ∧ x.lg[m] ≤ 1000000) → Hid (∀ n ∈ x.lg.take (m + 1), 1 ≤ n ∧ n ≤ 1000000) := fun h n hn => by
                        rw [List.take_succ_eq_append_getElem hml] at hn
                        rcases List.mem_append.1 hn with h1 | h1
                        · exact HM.out n h1
                        · rw [List.mem_singleton.1 h1]; exact h
                      have HM3 : ¬ (1 ≤ x.lg[m] ∧ x.lg[m] ≤ 1000000) → wtl 1 1000000 x.lg = false := fun h => by
                        cases hw : wtl 1 1000000 x.lg with
                        | false => rfl
                        | true => exact absurd (wtl_iff.1 hw _ (List.getElem_mem hml)) h
                      generalize x.lg[m] = n at *
                      have cW := within15_any n 1 1000000 wr
                      clear hci
                      by_cases hn : 1 ≤ n ∧ n ≤ 1000000
                      · have H3 := HM2 hn
                        rw [decide_eq_true hn.1, decide_eq_true hn.2] at cW
                        clear HM2 HM3 HM
                        go_wp2_with fail
                        refine cW.mono ?_
                        rintro e wx ⟨rfl, rfl⟩
                        go_wp2_with fail
                        exact ⟨⟨m + 1, by omega, by go_num, H3, hbm⟩, by simp [Go.RowKit.intOf]; omega⟩
                      · have e : R = false := (Hbd (.inr (.inr (by unfold brF; rw [HM3 hn]; simp)))).symm
                        subst e
                        have hnb : (decide (1 ≤ n) && decide (n ≤ 1000000)) = false := by simpa using hn
                        rw [hnb] at cW
                        clear HM2 HM3 HM Hst Hbd
                        go_wp2_with fail
                        refine cW.mono ?_
                        rintro e wx ⟨rfl, rfl⟩
                        go_wp2_with fail
                        go_ret
                        exact ⟨rfl, hal.trans (hbw.mono hal.size)⟩
                    · have hml' : ¬ (m : Int) < (x.lg.length : Int) := by omega
                      have hwt : wtl 1 1000000 x.lg = true := by
                        refine wtl_iff.2 (fun n hn => HM.out n ?_)
                        rw [List.take_of_length_le (by omega)]
                        exact hn
                      clear HM
                      have H2 := Hst (by omega) (by omega) (by unfold brF; rw [hwt, e2, decide_eq_true (show x.lg.length ≤ 300 by omega)]; rfl)
                      clear Hst Hbd
                      go_wp2_with fail
                      exact ⟨⟨(j + 1) + 1, x.i, by omega, by go_num, H2, by omega, .inr ⟨(j + 1), x, rfl, Hnx.out, rfl⟩, hbw⟩, by simp [Go.RowKit.intOf]; omega⟩
        · have e1 : (decide (1 ≤ x.i) && decide (x.i ≤ nb - 1)) = false := by
            cases he : (decide (1 ≤ x.i) && decide (x.i ≤ nb - 1)) with
            | false => rfl
            | true => exact absurd (by simpa using he) g1
          have e : R = false := (Hbd (by omega)).symm
          subst e
          clear Hst Hbd HA HP Hnx hcs
          go_upto_region 7 with fail
          rw [← hwa]
          refine wp_region_beh (by kernel_rfl) (by kernel_rfl) ?_
          repeat (go_big_quiet_step ((first | (go_at_call 52; exact Beh.call (within15_beh _ _ _ _)) | (go_at_call 76; exact Beh.call (cN _)))))
          refine wpQuiet_nil ?_
          intro wq hw'
          have hwq := Beh.out hw'
          clear hw' p0 p1 p2 pl pn 
          go_wp2_with fail
          go_ret
          exact ⟨rfl, hal.trans ((hBa.trans (hwq.mono hBa.size)).mono hal.size)⟩
      · have hlt' : ¬ (k : Int) < (bs.length : Int) := by omega
        have e : R = true := by rw [← HA.out, List.drop_of_length_le (by omega), rwG]
        subst e
        clear hcs HA HP
        go_wp2_with fail
        go_ret
        exact ⟨rfl, hal.trans (hbl.mono hal.size)⟩
end Go.Proofs.Ytdheddgdlindmaa
