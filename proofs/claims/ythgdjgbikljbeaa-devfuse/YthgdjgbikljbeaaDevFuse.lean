/-
  Proved: with a fuse just so many of the writes and syncs that follow go, and all behind them are refused and change nothing (the law DevFuse), for every input.
-/
import Derived.Test.YthgdjgbikljbeaaOpsArg
namespace Go.Proofs.Ythgdjgbikljbeaa.devFuse
open Go.RowKit Go.Maps Go.ChangeShapes Go.WideShapes Go.ChangeAt Go.PlainAid
open Go.ChangeMaps (open_string shut_string)

/-- What the fuse is, and whether the device is up. -/
theorem up_fuse {s : DevS} {F n : Nat} (h : s.fuse = (F : Int) - (n : Int)) (hn : n ≤ F) : s.up = decide ((n : Int) < (F : Int)) := by
  unfold DevS.up
  rw [h, Bool.eq_iff_iff]
  simp
  omega

theorem burnt_lt {s : DevS} {F n : Nat} (h : s.fuse = (F : Int) - (n : Int)) (hn : n < F) : burnt s.fuse = (F : Int) - ((n + 1 : Nat) : Int) := by
  unfold burnt
  rw [if_pos (by omega)]
  omega

/-- A write: refused, for it is down; or for its argument; or it goes. -/
theorem write_cases {s : DevS} {F n : Nat} (h : s.fuse = (F : Int) - (n : Int)) (hn : n ≤ F) (k : Int) (x : ByteArray) :
    (n = F ∧ (s.write k x).1 = 3 ∧ (s.write k x).2 = s) ∨ (n < F ∧ (s.write k x).1 = 1 ∧ (s.write k x).2 = s) ∨ (n < F ∧ (s.write k x).1 = 0 ∧ (s.write k x).2.fuse = (F : Int) - ((n + 1 : Nat) : Int)) := by
  have hu := up_fuse h hn
  unfold DevS.write
  by_cases e : n = F
  · left
    have : s.up = false := by rw [hu]; simp; omega
    rw [if_pos this]
    exact ⟨e, rfl, rfl⟩
  · have hlt : n < F := by omega
    have : s.up = true := by rw [hu]; simp; omega
    right
    rw [if_neg (by simp [this])]
    by_cases ha : s.inB k = false ∨ x.size ≠ 64
    · left
      rw [if_pos ha]
      exact ⟨hlt, rfl, rfl⟩
    · right
      rw [if_neg ha]
      exact ⟨hlt, rfl, burnt_lt h hlt⟩

theorem sync_cases {s : DevS} {F n : Nat} (h : s.fuse = (F : Int) - (n : Int)) (hn : n ≤ F) :
    (n = F ∧ s.sync.1 = 3 ∧ s.sync.2 = s) ∨ (n < F ∧ s.sync.1 = 1 ∧ s.sync.2 = s) ∨ (n < F ∧ s.sync.1 = 0 ∧ s.sync.2.fuse = (F : Int) - ((n + 1 : Nat) : Int)) := by
  have hu := up_fuse h hn
  unfold DevS.sync
  by_cases e : n = F
  · left
    have : s.up = false := by rw [hu]; simp; omega
    rw [if_pos this]
    exact ⟨e, rfl, rfl⟩
  · have hlt : n < F := by omega
    have : s.up = true := by rw [hu]; simp; omega
    right
    right
    rw [if_neg (by simp [this])]
    exact ⟨hlt, rfl, burnt_lt h hlt⟩

set_option maxRecDepth 20000 in
set_option maxHeartbeats 8000000 in
theorem walk (c : Int) (v1 : Value) (l1 : List OpD) (f : Int) (v2 : Value) (l2 : List OpD) (w : World) (hc0 : -9223372036854775808 ≤ c) (hc1 : c ≤ 9223372036854775807) (hv1 : RdOps w v1 l1) (hl1 : l1.length ≤ maxLen) (ho1 : ∀ o ∈ l1, o.Ok)
    (hf0 : -9223372036854775808 ≤ f) (hf1 : f ≤ 9223372036854775807) (hv2 : RdOps w v2 l2) (hl2 : l2.length ≤ maxLen) (ho2 : ∀ o ∈ l2, o.Ok) :
    Calls Try.prog 6 #[.int .i64 c, v1, .int .i64 f, v2] w fun e w' => e = .returned (.bool true) ∧ Below w.heap.size w w' := by
  have cP := played_any c v1 l1 w hv1 hl1 ho1 hc0 hc1
  have hp := pickI_bd f 20 (by omega)
  have cK := fun W => pick_any f 20 W hf0 hf1 (by omega) (by omega)
  obtain ⟨F, hF⟩ := Int.eq_ofNat_of_zero_le hp.1
  rw [hF] at cK hp
  have hF20 : F < 20 := by omega
  clear hF hp hc0 hc1 hf0 hf1 hl1 ho1
  obtain ⟨ao1, cp1, rfl, _⟩ := hv1
  obtain ⟨ao, cp, rfl, hop⟩ := hv2
  unfold maxLen at hl2
  go_enter Try.func6, Try.ntmps6
  go_wp2_with fail
  refine cP.mono ?_
  rintro e w1 ⟨p, bs, bw, s0, rfl, hd1, _, hp1, hbs1, hbw1, hb1⟩
  clear cP
  go_wp2_with fail
  refine (cK _).mono ?_
  rintro e w2 ⟨rfl, hw⟩
  subst hw
  clear cK
  go_wp2_with fail
  refine (fuse_ok hd1 (F : Int) (by omega) (by omega)).mono ?_
  rintro e w3 ⟨rfl, hd3, ho3⟩
  have hB3 : Below w.heap.size w w3 := hb1.trans (ho3.below hb1.size (by simp; omega))
  clear hd1 ho3 hb1
  go_wp2_with fail
  go_loopw [10, 11] (fun g i wr => ∃ (j n : Nat) (s : DevS), j ≤ l2.length ∧ i = .int .i64 (j : Int) ∧ g = .int .i64 (n : Int) ∧ n ≤ F ∧ s.fuse = (F : Int) - (n : Int) ∧ IsDev wr p bs bw s ∧ Below w.heap.size w wr)
    (fun _ i _ => l2.length - (intOf i).toNat)
  case atStart => exact ⟨0, 0, _, Nat.zero_le _, rfl, rfl, Nat.zero_le _, by simp, hd3, hB3⟩
  case round =>
    obtain ⟨j, n, s, hj, rfl, rfl, hnF, hsf, hds, hBs⟩ := hrel
    have hup := up_fuse hsf hnF
    by_cases hlt : j < l2.length
    · have hlt' : (j : Int) < (l2.length : Int) := by omega
      have hoj := ho2 l2[j] (List.getElem_mem hlt)
      obtain ⟨b, off, rfl, hbl, e0, e1, e2, e3⟩ := hop j l2[j] (by simp [hlt])
      have hBc : ∀ o, wr.cell? ⟨b, o, none⟩ = w.cell? ⟨b, o, none⟩ := fun o => hBs.cell (p := ⟨b, o, none⟩) hbl
      rw [← hBc] at e0 e1 e2 e3
      generalize l2[j] = o at *
      clear hBc hop ho2 hd3 hB3
      have hA : Only [] wr (wr.alloc (.cells #[.int .i64 o.d, .int .i64 o.k, .string o.x, .bool o.f] 35)) := Only.alloc _ _ _
      have hbox := heap_alloc_last wr (.cells #[.int .i64 o.d, .int .i64 o.k, .string o.x, .bool o.f] 35)
      have hdA := hds.kept hA (by simp) (by simp) (by simp)
      have hsz := hBs.size
      have hBA : Below w.heap.size w (wr.alloc (.cells #[.int .i64 o.d, .int .i64 o.k, .string o.x, .bool o.f] 35)) := hBs.trans (hA.below hsz (by simp))
      have hAs : (wr.alloc (.cells #[.int .i64 o.d, .int .i64 o.k, .string o.x, .bool o.f] 35)).heap.size = wr.heap.size + 1 := World.size_alloc _ _
      have HAs : Hid _ := hAs
      clear hAs
      have hlp := hds.ltp
      have hls := hds.lts
      have hlw := hds.ltw
      clear hds
      have cW := waiting_any hdA
      by_cases q0 : o.d = 0
      · have q0' : (o.d != 0) = false := by simpa using q0
        have q0'' : (o.d == 0) = true := by simpa using q0
        have hx := hoj.x1
        have hcase := write_cases hsf hnF o.k (opBytes o.x o.f)
        have cC : ∀ W, IsDev W p bs bw s → Calls Try.prog 17 #[.pointer (some ⟨p, 0, none⟩), .int .i64 o.k, .string (opBytes o.x o.f)] W fun e w' => e = .returned (.int .i64 (s.write o.k (opBytes o.x o.f)).1) ∧ IsDev w' p bs bw (s.write o.k (opBytes o.x o.f)).2 ∧ Only [p, bs, bw] W w' := fun W hW => write_all hW _ _
        generalize (s.write o.k (opBytes o.x o.f)).1 = er at hcase cC
        generalize (s.write o.k (opBytes o.x o.f)).2 = s' at hcase cC
        clear q0 hoj
        go_wp2_with fail
        refine cW.mono ?_
        rintro e w4 ⟨v, rfl, hrow, _, hb4⟩
        obtain ⟨ao4, cp4, rfl, _⟩ := own_shape hrow
        have hd4 := hdA.below hb4
        have hbx4 := (hb4.block wr.heap.size (by rw [HAs.out]; omega)).trans hbox
        have g0 : w4.cell? ⟨wr.heap.size, 0, none⟩ = some (.int .i64 o.d) := cell_at hbx4 0
        have g1 : w4.cell? ⟨wr.heap.size, 1, none⟩ = some (.int .i64 o.k) := cell_at hbx4 1
        have g2 : w4.cell? ⟨wr.heap.size, 2, none⟩ = some (.string o.x) := cell_at hbx4 2
        have g3 : w4.cell? ⟨wr.heap.size, 3, none⟩ = some (.bool o.f) := cell_at hbx4 3
        have hB4 : Below w.heap.size w w4 := hBA.trans (hb4.mono (by rw [HAs.out]; omega))
        have hs4 : wr.heap.size < w4.heap.size := by
          have := hb4.size
          rw [HAs.out] at this
          omega
        clear hrow hb4 cW hbox hdA hBA hA e0 e1 e2 e3
        rcases hcase with ⟨rfl, rfl, hss⟩ | ⟨c1, rfl, hss⟩ | ⟨c1, rfl, c3⟩
        · obtain rfl : s = s' := hss.symm
          have hd4' : IsDev w4.drew p bs bw s := hd4.kept (Only.drew [] _) (by simp) (by simp) (by simp)
          have hB4' : Below w.heap.size w w4.drew := hB4.drew
          have hbx4' : w4.drew.heap[wr.heap.size]? = some (.cells #[.int .i64 o.d, .int .i64 o.k, .string o.x, .bool o.f] 35) := hbx4
          have hs4' : wr.heap.size < w4.drew.heap.size := hs4
          clear hd4 hB4 hs4
          go_wp2_with fail
          go_region_held3 (fun W => W.cell? ⟨wr.heap.size, 0, none⟩ = some (.int .i64 o.d) ∧ W.cell? ⟨wr.heap.size, 1, none⟩ = some (.int .i64 o.k) ∧ W.cell? ⟨wr.heap.size, 2, none⟩ = some (.string o.x) ∧ W.cell? ⟨wr.heap.size, 3, none⟩ = some (.bool o.f)) (go_keep)
            (first
              | (go_at_call 27; refine (opBytes_any _ _ _ _ _ hx).mono ?_; rintro e w5 ⟨rfl, hb5⟩; have hd5 := hd4'.below hb5; have hbx5 := (hb5.block wr.heap.size hs4').trans hbx4'; have k0 := cell_at hbx5 0; have k1 := cell_at hbx5 1; have k2 := cell_at hbx5 2; have k3 := cell_at hbx5 3)
              | (go_at_call 17; refine (cC _ hd5).mono ?_; rintro e w6 ⟨rfl, hd6, ho6⟩; have hbx6 := only_heap hbx5 ho6 (by simp; omega); have k0' := cell_at hbx6 0; have k1' := cell_at hbx6 1; have k2' := cell_at hbx6 2; have k3' := cell_at hbx6 3))
          have hs5 := hb5.size
          have hB6 : Below w.heap.size w w6 := (hB4'.trans (hb5.mono (by omega))).trans (ho6.below (by omega) (by simp; omega))
          clear k0 k1 k2 k3 k0' k1' k2' k3' hbx5 hbx6 ho6 hb5 hd5 hd4' hB4' hbx4' hs4' hs5 cC g0 g1 g2 g3 hbx4
          have hup' : s.up = false := by rw [hup]; simp
          have cU := up_any hd6
          rw [hup'] at cU
          have cW2 := waiting_any hd6
          clear hup hup'
          go_wp2_with fail
          refine cU.mono ?_
          rintro e w7 ⟨rfl, hw⟩
          subst hw
          clear cU
          go_wp2_with fail
          refine cW2.mono ?_
          rintro e w8 ⟨v, rfl, hrow, _, hb8⟩
          obtain ⟨ao8, cp8, rfl, _⟩ := own_shape hrow
          have hd8 := hd6.below hb8
          have hB8 := hB6.trans (hb8.mono hB6.size)
          clear hrow hb8 cW2 hd6 hB6
          go_wp2_with fail
          go_roundw
          case rel => exact ⟨j + 1, _, s, by omega, by go_num, rfl, Nat.le_refl _, hsf, hd8, hB8⟩
          case measure => simp [intOf]; omega
        · obtain rfl : s = s' := hss.symm
          have hne : ((n : Int) == (F : Int)) = false := by simp; omega
          have hd4' : IsDev w4.drew p bs bw s := hd4.kept (Only.drew [] _) (by simp) (by simp) (by simp)
          have hB4' : Below w.heap.size w w4.drew := hB4.drew
          have hbx4' : w4.drew.heap[wr.heap.size]? = some (.cells #[.int .i64 o.d, .int .i64 o.k, .string o.x, .bool o.f] 35) := hbx4
          have hs4' : wr.heap.size < w4.drew.heap.size := hs4
          clear hd4 hB4 hs4
          go_wp2_with fail
          go_region_held3 (fun W => W.cell? ⟨wr.heap.size, 0, none⟩ = some (.int .i64 o.d) ∧ W.cell? ⟨wr.heap.size, 1, none⟩ = some (.int .i64 o.k) ∧ W.cell? ⟨wr.heap.size, 2, none⟩ = some (.string o.x) ∧ W.cell? ⟨wr.heap.size, 3, none⟩ = some (.bool o.f)) (go_keep)
            (first
              | (go_at_call 27; refine (opBytes_any _ _ _ _ _ hx).mono ?_; rintro e w5 ⟨rfl, hb5⟩; have hd5 := hd4'.below hb5; have hbx5 := (hb5.block wr.heap.size hs4').trans hbx4'; have k0 := cell_at hbx5 0; have k1 := cell_at hbx5 1; have k2 := cell_at hbx5 2; have k3 := cell_at hbx5 3)
              | (go_at_call 17; refine (cC _ hd5).mono ?_; rintro e w6 ⟨rfl, hd6, ho6⟩; have hbx6 := only_heap hbx5 ho6 (by simp; omega); have k0' := cell_at hbx6 0; have k1' := cell_at hbx6 1; have k2' := cell_at hbx6 2; have k3' := cell_at hbx6 3))
          have hs5 := hb5.size
          have hB6 : Below w.heap.size w w6 := (hB4'.trans (hb5.mono (by omega))).trans (ho6.below (by omega) (by simp; omega))
          clear k0 k1 k2 k3 k0' k1' k2' k3' hbx5 hbx6 ho6 hb5 hd5 hd4' hB4' hbx4' hs4' hs5 cC g0 g1 g2 g3 hbx4
          go_wp2_with fail
          go_roundw
          case rel => exact ⟨j + 1, n, s, by omega, by go_num, rfl, hnF, hsf, hd6, hB6⟩
          case measure => simp [intOf]; omega
        · have hne : ((n : Int) == (F : Int)) = false := by simp; omega
          have HF : Hid (s'.fuse = (F : Int) - ((n + 1 : Nat) : Int)) := c3
          clear c3
          have hd4' : IsDev w4.drew p bs bw s := hd4.kept (Only.drew [] _) (by simp) (by simp) (by simp)
          have hB4' : Below w.heap.size w w4.drew := hB4.drew
          have hbx4' : w4.drew.heap[wr.heap.size]? = some (.cells #[.int .i64 o.d, .int .i64 o.k, .string o.x, .bool o.f] 35) := hbx4
          have hs4' : wr.heap.size < w4.drew.heap.size := hs4
          clear hd4 hB4 hs4
          go_wp2_with fail
          go_region_held3 (fun W => W.cell? ⟨wr.heap.size, 0, none⟩ = some (.int .i64 o.d) ∧ W.cell? ⟨wr.heap.size, 1, none⟩ = some (.int .i64 o.k) ∧ W.cell? ⟨wr.heap.size, 2, none⟩ = some (.string o.x) ∧ W.cell? ⟨wr.heap.size, 3, none⟩ = some (.bool o.f)) (go_keep)
            (first
              | (go_at_call 27; refine (opBytes_any _ _ _ _ _ hx).mono ?_; rintro e w5 ⟨rfl, hb5⟩; have hd5 := hd4'.below hb5; have hbx5 := (hb5.block wr.heap.size hs4').trans hbx4'; have k0 := cell_at hbx5 0; have k1 := cell_at hbx5 1; have k2 := cell_at hbx5 2; have k3 := cell_at hbx5 3)
              | (go_at_call 17; refine (cC _ hd5).mono ?_; rintro e w6 ⟨rfl, hd6, ho6⟩; have hbx6 := only_heap hbx5 ho6 (by simp; omega); have k0' := cell_at hbx6 0; have k1' := cell_at hbx6 1; have k2' := cell_at hbx6 2; have k3' := cell_at hbx6 3))
          have hs5 := hb5.size
          have hB6 : Below w.heap.size w w6 := (hB4'.trans (hb5.mono (by omega))).trans (ho6.below (by omega) (by simp; omega))
          clear k0 k1 k2 k3 k0' k1' k2' k3' hbx5 hbx6 ho6 hb5 hd5 hd4' hB4' hbx4' hs4' hs5 cC g0 g1 g2 g3 hbx4
          go_wp2_with fail
          go_roundw
          case rel => exact ⟨j + 1, n + 1, s', by omega, by go_num, by go_num, by omega, HF.out, hd6, hB6⟩
          case measure => simp [intOf]; omega
      · have q0' : (o.d != 0) = true := by simpa using q0
        have q0'' : (o.d == 0) = false := by simpa using q0
        by_cases q1 : o.d = 1
        · have q1' : (o.d != 1) = false := by simpa using q1
          have hcase := sync_cases hsf hnF
          have cC : ∀ W, IsDev W p bs bw s → Calls Try.prog 19 #[.pointer (some ⟨p, 0, none⟩)] W fun e w' => e = .returned (.int .i64 s.sync.1) ∧ IsDev w' p bs bw s.sync.2 ∧ Only [p, bs, bw] W w' := fun W hW => sync_all hW
          generalize s.sync.1 = er at hcase cC
          generalize s.sync.2 = s' at hcase cC
          clear q0 q1 hoj
          go_wp2_with fail
          refine cW.mono ?_
          rintro e w4 ⟨v, rfl, hrow, _, hb4⟩
          obtain ⟨ao4, cp4, rfl, _⟩ := own_shape hrow
          have hd4 := hdA.below hb4
          have hbx4 := (hb4.block wr.heap.size (by rw [HAs.out]; omega)).trans hbox
          have g0 : w4.cell? ⟨wr.heap.size, 0, none⟩ = some (.int .i64 o.d) := cell_at hbx4 0
          have g1 : w4.cell? ⟨wr.heap.size, 1, none⟩ = some (.int .i64 o.k) := cell_at hbx4 1
          have g2 : w4.cell? ⟨wr.heap.size, 2, none⟩ = some (.string o.x) := cell_at hbx4 2
          have g3 : w4.cell? ⟨wr.heap.size, 3, none⟩ = some (.bool o.f) := cell_at hbx4 3
          have hB4 : Below w.heap.size w w4 := hBA.trans (hb4.mono (by rw [HAs.out]; omega))
          have hs4 : wr.heap.size < w4.heap.size := by
            have := hb4.size
            rw [HAs.out] at this
            omega
          clear hrow hb4 cW hbox hdA hBA hA e0 e1 e2 e3
          rcases hcase with ⟨rfl, rfl, hss⟩ | ⟨c1, rfl, hss⟩ | ⟨c1, rfl, c3⟩
          · obtain rfl : s = s' := hss.symm
            go_wp2_with fail
            refine (cC _ hd4).mono ?_
            rintro e w6 ⟨rfl, hd6, ho6⟩
            have hB6 : Below w.heap.size w w6 := hB4.trans (ho6.below (by omega) (by simp; omega))
            clear ho6 hd4 hB4 cC g0 g1 g2 g3 hbx4
            have hup' : s.up = false := by rw [hup]; simp
            have cU := up_any hd6
            rw [hup'] at cU
            have cW2 := waiting_any hd6
            clear hup hup'
            go_wp2_with fail
            refine cU.mono ?_
            rintro e w7 ⟨rfl, hw⟩
            subst hw
            clear cU
            go_wp2_with fail
            refine cW2.mono ?_
            rintro e w8 ⟨v, rfl, hrow, _, hb8⟩
            obtain ⟨ao8, cp8, rfl, _⟩ := own_shape hrow
            have hd8 := hd6.below hb8
            have hB8 := hB6.trans (hb8.mono hB6.size)
            clear hrow hb8 cW2 hd6 hB6
            go_wp2_with fail
            go_roundw
            case rel => exact ⟨j + 1, _, s, by omega, by go_num, rfl, Nat.le_refl _, hsf, hd8, hB8⟩
            case measure => simp [intOf]; omega
          · obtain rfl : s = s' := hss.symm
            have hne : ((n : Int) == (F : Int)) = false := by simp; omega
            go_wp2_with fail
            refine (cC _ hd4).mono ?_
            rintro e w6 ⟨rfl, hd6, ho6⟩
            have hB6 : Below w.heap.size w w6 := hB4.trans (ho6.below (by omega) (by simp; omega))
            clear ho6 hd4 hB4 cC g0 g1 g2 g3 hbx4
            go_wp2_with fail
            go_roundw
            case rel => exact ⟨j + 1, n, s, by omega, by go_num, rfl, hnF, hsf, hd6, hB6⟩
            case measure => simp [intOf]; omega
          · have hne : ((n : Int) == (F : Int)) = false := by simp; omega
            have HF : Hid (s'.fuse = (F : Int) - ((n + 1 : Nat) : Int)) := c3
            clear c3
            go_wp2_with fail
            refine (cC _ hd4).mono ?_
            rintro e w6 ⟨rfl, hd6, ho6⟩
            have hB6 : Below w.heap.size w w6 := hB4.trans (ho6.below (by omega) (by simp; omega))
            clear ho6 hd4 hB4 cC g0 g1 g2 g3 hbx4
            go_wp2_with fail
            go_roundw
            case rel => exact ⟨j + 1, n + 1, s', by omega, by go_num, by go_num, by omega, HF.out, hd6, hB6⟩
            case measure => simp [intOf]; omega
        · have q1' : (o.d != 1) = true := by simpa using q1
          clear q0 q1 hoj cW
          go_wp2_with fail
          go_roundw
          case rel => exact ⟨j + 1, n, s, by omega, by go_num, rfl, hnF, hsf, hdA, hBA⟩
          case measure => simp [intOf]; omega
    · have hlt' : ¬ (j : Int) < (l2.length : Int) := by omega
      have cU := up_any hds
      rw [hup] at cU
      clear hop ho2 hd3 hB3 hup
      go_wp2_with fail
      refine cU.mono ?_
      rintro e w7 ⟨rfl, hw⟩
      subst hw
      clear cU
      go_wp2_with fail
      go_ret
      exact ⟨by simp, hBs⟩

theorem own : ownKnob Try.prog.godebug = none := by kernel_rfl
theorem laidOut : laidOutB Try.prog = true := by kernel_rfl

theorem contract (H : Type) (enc : TypeId × Value → H) (W : World) (base : Nat) (args : Array Value) (ds gs : List (DataW H)) (before : List MemPlace)
    (hval : ∀ (j : Nat) t v, Try.f6.params[j]? = some t → args[j]? = some v → Value.okWide Try.prog W .any base t v)
    (hW : DataW.Whole enc Try.prog Try.f6.params.toList Rows.devFuseSpec.vars false W args.toList ds gs before) :
    Calls Try.prog 6 args W fun e W' => ∃ v, e = .returned v ∧ Rows.devFuseSpec.post enc Try.prog Try.f6 false true false false W args v W' := by
  have hW' := hW
  obtain ⟨p, q, hA0, hV, rfl, hfz, hnd⟩ := hW
  have hA : DataW.TrodAll enc Try.prog W 0 (fun _ => true) true Try.f6.params.toList args.toList ds p := hA0
  rw [Try.params6] at hA hval
  obtain ⟨v0, vs0, d0, ds0, p0, q0, hargs, rfl, rfl, h0, r0⟩ := trodAll_cons hA
  obtain ⟨v1, vs1, d1, ds1, p1, q1, rfl, rfl, rfl, h1, r1⟩ := trodAll_cons r0
  obtain ⟨v2, vs2, d2, ds2, p2, q2, rfl, rfl, rfl, h2, r2⟩ := trodAll_cons r1
  obtain ⟨v3, vs3, d3, ds3, p3, q3, rfl, rfl, rfl, h3, r3⟩ := trodAll_cons r2
  obtain ⟨rfl, rfl, rfl⟩ := trodAll_nil r3
  obtain rfl : args = #[v0, v1, v2, v3] := by cases args; simp_all
  obtain ⟨rfl, rfl⟩ := trodVars_none hV
  have k0 := h0
  have lt0 : ∀ x ∈ p0, x.block < W.heap.size := by obtain ⟨m, hm⟩ := k0; exact DataW.trod_lt m _ _ _ hm
  have k1 := h1
  have lt1 : ∀ x ∈ p1, x.block < W.heap.size := by obtain ⟨m, hm⟩ := k1; exact DataW.trod_lt m _ _ _ hm
  have k2 := h2
  have lt2 : ∀ x ∈ p2, x.block < W.heap.size := by obtain ⟨m, hm⟩ := k2; exact DataW.trod_lt m _ _ _ hm
  have k3 := h3
  have lt3 : ∀ x ∈ p3, x.block < W.heap.size := by obtain ⟨m, hm⟩ := k3; exact DataW.trod_lt m _ _ _ hm
  obtain ⟨a0, rfl, rfl, rfl, w0⟩ := open_int Try.underlying3 (hval 0 3 v0 rfl rfl) h0
  obtain ⟨a1, len1, cap1, rfl⟩ := okWide_slice Try.underlying32 (hval 1 32 v1 rfl rfl)
  obtain ⟨fuel1, hf1⟩ := h1
  obtain ⟨l1, rd1, ln1, ok1⟩ := open_ops hf1
  obtain ⟨a2, rfl, rfl, rfl, w2⟩ := open_int Try.underlying3 (hval 2 3 v2 rfl rfl) h2
  obtain ⟨a3, len3, cap3, rfl⟩ := okWide_slice Try.underlying32 (hval 3 32 v3 rfl rfl)
  obtain ⟨fuel3, hf3⟩ := h3
  obtain ⟨l3, rd3, ln3, ok3⟩ := open_ops hf3
  clear hA0
  simp only [List.append_nil] at hW'
  refine (walk a0 (.slice a1 len1 cap1) l1 a2 (.slice a3 len3 cap3) l3 W (wf_bd w0).1 (wf_bd w0).2 rd1 ln1 ok1 (wf_bd w2).1 (wf_bd w2).2 rd3 ln3 ok3).mono fun e W' ⟨he, bel⟩ => ?_
  subst he
  exact ⟨_, rfl, _, _, _, [], _, [], hW', trodAll_mk1 (shut_bool Try.underlying4 _), (trodAll_cons_mk (Below.trod laidOut (by kernel_rfl) (of_decide_eq_true (by kernel_rfl)) k0 bel lt0) (trodAll_cons_mk (Below.trod laidOut (by kernel_rfl) (of_decide_eq_true (by kernel_rfl)) k1 bel lt1) (trodAll_cons_mk (Below.trod laidOut (by kernel_rfl) (of_decide_eq_true (by kernel_rfl)) k2 bel lt2) (trodAll_cons_mk (Below.trod laidOut (by kernel_rfl) (of_decide_eq_true (by kernel_rfl)) k3 bel lt3) trodAll_mk0)))), rfl, bel.frame _, fun h => by cases h⟩

set_option maxRecDepth 100000 in
theorem lifted (os : Os) (started : os.Started) (H : Type) (enc : TypeId × Value → H) :
    ReturnsInHanded {} Try.checked os 6 .any (Rows.devFuseSpec.pre6 enc Try.prog Try.f6 Rows.devFuseRow.domain false) (Rows.devFuseSpec.post enc Try.prog Try.f6 false true false false) := by
  refine returnsInHanded_of_change (C := Try.checked) own started (by kernel_rfl) Try.func6
    (ChangeSpec.witness6 (enc := enc) (C := Try.checked) false ⟨#[], #[.int .i64 0, .slice none 0 0, .int .i64 0, .slice none 0 0], []⟩ 8 (by kernel_rfl) (by kernel_rfl) (by kernel_rfl) (by kernel_rfl)) ?_
  intro W base args ds gs before hval hW _ _
  exact contract H enc W base args ds gs before hval hW

theorem holds : Rows.DevFuseSaid :=
  OpenClaim.holds_of_wide 6 Try.f6 rfl rfl rfl rfl rfl rfl rfl ⟨rfl, rfl, rfl, rfl, rfl⟩ rfl rfl rfl rfl rfl (by kernel_rfl) Try.func6 (by kernel_rfl)
    (of_decide_eq_true (by kernel_rfl)) (by unfold Func.isWrapper; first | (rw [if_pos (by decide +kernel)]; kernel_rfl) | (rw [if_neg (by decide +kernel)]; exact ⟨rfl, rfl⟩))
    (fun os started H enc _ => lifted os started H enc)
end Go.Proofs.Ythgdjgbikljbeaa.devFuse
namespace Go.Proofs.Ythgdjgbikljbeaa
theorem devFuse_holds : Rows.DevFuseSaid := devFuse.holds
#print axioms devFuse_holds
end Go.Proofs.Ythgdjgbikljbeaa
