/-
  The walk of the reference's Formed; Normal.
-/
import Derived.Test.YtcdnlkhjlgaaoaaGreatDoorDrG
import Derived.Deep.DeepCutAuto
import Derived.BigRegion
namespace Go.Proofs.YtcdnlkhjlgaaoaaGreatDoor
open Go.ChangeShapes Go.WideShapes Go.ChangeAt Go.RowKit Go.PlainAid

theorem Tryz.infoStr : (Tryz.prog.info? 9).map (fun i => (i.zero, i.size, i.bytes)) = some (some (.string ⟨#[]⟩), 1, 16) := by kernel_rfl
theorem Tryz.infoBoo : (Tryz.prog.info? 4).map (fun i => (i.zero, i.size, i.bytes)) = some (some (.bool false), 1, 1) := by kernel_rfl
set_option maxRecDepth 20000 in
theorem make_str (n : Nat) (hn : n ≤ 1001) (W : World) : (Instr.makeSlice 37 (.int .i64 (n : Int)) (.int .i64 (n : Int))).run Tryz.prog W = .ok (.slice (some ⟨W.heap.size, 0, none⟩) n n) (W.alloc (.cells ((List.replicate n (⟨#[]⟩ : ByteArray)).map Value.string).toArray 9)) := by
  obtain ⟨i0, hi, hz0, hz1, hz2⟩ := info_parts Tryz.infoStr
  have h := run_make (P := Tryz.prog) W 37 9 i0 (.string ⟨#[]⟩) Tryz.underlying37 hi hz0 .i64 .i64 (n : Int) (n : Int) (by omega) (by omega) (by rw [hz2]; omega) (by omega)
  rw [h, hz1]
  simp only [Int.toNat_natCast, Nat.mul_one]
  congr 3
  apply Array.ext'
  rw [show (Value.string (⟨#[]⟩ : ByteArray)).cells = #[.string ⟨#[]⟩] from rfl, toList_madeCells_one]
  simp
set_option maxRecDepth 20000 in
theorem make_boo (n : Nat) (hn : n ≤ 1001) (W : World) : (Instr.makeSlice 111 (.int .i64 (n : Int)) (.int .i64 (n : Int))).run Tryz.prog W = .ok (.slice (some ⟨W.heap.size, 0, none⟩) n n) (W.alloc (.cells ((List.replicate n false).map Value.bool).toArray 4)) := by
  obtain ⟨i0, hi, hz0, hz1, hz2⟩ := info_parts Tryz.infoBoo
  have h := run_make (P := Tryz.prog) W 111 4 i0 (.bool false) Tryz.underlying111 hi hz0 .i64 .i64 (n : Int) (n : Int) (by omega) (by omega) (by rw [hz2]; omega) (by omega)
  rw [h, hz1]
  simp only [Int.toNat_natCast, Nat.mul_one]
  congr 3
  apply Array.ext'
  rw [show (Value.bool false).cells = #[.bool false] from rfl, toList_madeCells_one]
  simp

section
variable (u : World) (a b c : Obj)
theorem al2 : (((u.alloc a).alloc b).alloc c).drew.heap[u.heap.size + 1 + 1]? = some c := by
  have := heap_alloc_new ((u.alloc a).alloc b) c
  rw [World.size_alloc, World.size_alloc] at this
  exact this
theorem al1 : (((u.alloc a).alloc b).alloc c).drew.heap[u.heap.size + 1]? = some b := by
  have h1 := heap_alloc_new (u.alloc a) b
  have h2 := Below.heap_alloc ((u.alloc a).alloc b) c (u.alloc a).heap.size (by simp)
  have := h2.trans h1
  rw [World.size_alloc] at this
  exact this
theorem al0 : (((u.alloc a).alloc b).alloc c).drew.heap[u.heap.size]? = some a := by
  have h1 := heap_alloc_new u a
  have h2 := Below.heap_alloc (u.alloc a) b u.heap.size (by simp)
  have h3 := Below.heap_alloc ((u.alloc a).alloc b) c u.heap.size (by simp; omega)
  exact h3.trans (h2.trans h1)
theorem alb : Below u.heap.size u (((u.alloc a).alloc b).alloc c).drew := ((((Below.refl _ u).alloc (Nat.le_refl _) a).alloc (by simp) b).alloc (by simp; omega) c).drew
theorem alr (k : Nat) (hk : k < u.heap.size) : (((u.alloc a).alloc b).alloc c).drew.heap[k]? = u.heap[k]? := (alb u a b c).block k hk
end
theorem fm_mk {n : Nat} {w W : World} {pr pb gi gg : Nat} (h1 : W.heap[pb]? = some (.cells #[.slice (some ⟨gi, 0, none⟩) (n + 1) (n + 1), .slice (some ⟨gg, 0, none⟩) n n] 113))
    (h2 : W.heap[gi]? = some (.cells (Array.replicate (n + 1) (Value.string ⟨#[]⟩)) 9)) (h3 : W.heap[gg]? = some (.cells (Array.replicate n (Value.bool false)) 4)) (h4 : W.heap[pr]? = some (.cells #[.slice none 0 0, .slice none 0 0] 113))
    (h5 : pr ≠ pb) (h6 : w.heap.size ≤ pb) (h7 : w.heap.size ≤ gi) (h8 : w.heap.size ≤ gg) (h9 : w.heap.size ≤ pr) (h10 : Below w.heap.size w W) : FM n w W pr pb gi gg (List.replicate (n + 1) ⟨#[]⟩) (List.replicate n false) :=
  ⟨h1, by rw [h2]; simp, by rw [h3]; simp, h4, h5, h6, h7, h8, h9, h10⟩

section
variable {n : Nat} {w W : World} {pr pb gi gg : Nat} {ins : List ByteArray} {gone : List Bool}
theorem fm_c0 (h : FM n w W pr pb gi gg ins gone) : W.cell? ⟨pb, 0, none⟩ = some (.slice (some ⟨gi, 0, none⟩) (n + 1) (n + 1)) := cell_of_row _ _ 0 _ _ (0, 0) h.box
theorem fm_c1 (h : FM n w W pr pb gi gg ins gone) : W.cell? ⟨pb, 1, none⟩ = some (.slice (some ⟨gg, 0, none⟩) n n) := cell_of_row _ _ 1 _ _ (0, 0) h.box
theorem fm_cg (h : FM n w W pr pb gi gg ins gone) (j : Nat) (hj : j < gone.length) : W.cell? ⟨gg, j, none⟩ = some (.bool (gone.getD j false)) := by
  rw [cell_of_row _ _ j _ _ (0, 0) h.gr]
  simp [hj]
theorem fm_ci (h : FM n w W pr pb gi gg ins gone) (j : Nat) (hj : j < ins.length) : W.cell? ⟨gi, j, none⟩ = some (.string (ins.getD j ⟨#[]⟩)) := by
  rw [cell_of_row _ _ j _ _ (0, 0) h.ir]
  simp [hj]
theorem fm_zg (h : FM n w W pr pb gi gg ins gone) (j : Nat) : W.frozen? ⟨gg, j, none⟩ = false := frz h.gr j
theorem fm_zi (h : FM n w W pr pb gi gg ins gone) (j : Nat) : W.frozen? ⟨gi, j, none⟩ = false := frz h.ir j
end

theorem rdv_row {W : World} {g m c : Nat} {xs : List Value} {t : TypeId} (h : W.heap[g]? = some (.cells xs.toArray t)) (hm : xs.length = m) : RdV W (.slice (some ⟨g, 0, none⟩) m c) xs := by
  subst hm
  refine ⟨_, _, rfl, fun i x hx => ⟨g, 0, rfl, heap_lt h, ?_⟩⟩
  rw [Nat.zero_add, cell_of_row _ _ i _ _ (0, 0) h]
  simpa using hx
theorem Tryz.sizeFo : (Tryz.prog.info? 113).map (·.size) = some 2 := by kernel_rfl

/-- A stretch of true. -/
def setT (gone : List Bool) (B : Nat) : Nat → List Bool
  | 0 => gone
  | j + 1 => (setT gone B j).set (B + j) true
theorem setT_len (gone : List Bool) (B : Nat) : ∀ j, (setT gone B j).length = gone.length
  | 0 => rfl
  | j + 1 => by rw [setT, List.length_set, setT_len gone B j]
theorem setT_get (gone : List Bool) (B : Nat) : ∀ j x, B + j ≤ gone.length → (setT gone B j).getD x false = if B ≤ x ∧ x < B + j then true else gone.getD x false
  | 0, x, _ => by rw [setT, if_neg (by omega)]
  | j + 1, x, h => by
    have ih := setT_get gone B j x (by omega)
    rw [setT]
    by_cases e : x = B + j
    · subst e
      rw [if_pos (by omega), List.getD_eq_getElem?_getD, List.getElem?_set_self (by rw [setT_len]; omega)]
      rfl
    · rw [List.getD_eq_getElem?_getD, List.getElem?_set_ne (fun q => e q.symm), ← List.getD_eq_getElem?_getD, ih]
      by_cases h1 : B ≤ x ∧ x < B + j
      · rw [if_pos h1, if_pos (by omega)]
      · rw [if_neg h1, if_neg (by omega)]

set_option maxRecDepth 20000 in
set_option maxHeartbeats 2000000 in
theorem formed_any (v : Value) (ds : List OpD) (w : World) (hr : RdD w v ds) (hm : ds.length ≤ maxLen) (hi : ∀ o ∈ ds, o.Sm) (hc0 : chk ds = 0) :
    Calls Tryz.prog 74 #[v] w fun e w' => ∃ vi vg ins gone g, e = .returned (.agg #[vi, vg]) ∧ RdV w' vi (ins.map Value.string) ∧ RdV w' vg (gone.map Value.bool) ∧ FI (stR ds) (bsum (stR ds)) (stR ds).length g ins gone ∧ Below w.heap.size w w' := by
  have hB := fun W h => refBase_any v ds W h hm hi
  have hbd := stR_bd ds
  have hln := stR_len ds
  have hds := stR_op hc0
  have hok := stR_ok (fun o ho => sm_in (hi o ho))
  rw [hc0] at hB
  generalize stR ds = l at *
  obtain ⟨n, hn⟩ : ∃ n, bsum l = n := ⟨_, rfl⟩
  rw [hn] at hB hbd ⊢
  have hn1 : (n : Int) ≤ 1000 := by omega
  have hr0 := hr
  subst hds
  obtain ⟨ao, cp, rfl, _, hc⟩ := hr
  rw [List.length_map] at *
  have hmk1 := make_str (n + 1) (by omega)
  have hmk2 := make_boo n (by omega)
  have e1 : ((n + 1 : Nat) : Int) = (n : Int) + 1 := by omega
  rw [e1] at hmk1
  clear hi hc0 e1
  go_enter Tryz.func74, Tryz.ntmps74
  go_wp2_with fail
  refine (hB _ (hr0.below ((Below.refl _ w).alloc (Nat.le_refl _) _))).mono ?_
  rintro e w1 ⟨rfl, hb1⟩
  have hrs : w1.heap[w.heap.size]? = some (.cells #[.slice none 0 0, .slice none 0 0] 113) := (hb1.block w.heap.size (by simp)).trans (heap_alloc_new w _)
  have hB1 : Below w.heap.size w w1 := ((Below.refl _ w).alloc (Nat.le_refl _) _).trans (hb1.mono (by simp))
  have hs1 : w.heap.size + 1 ≤ w1.heap.size := by have := hb1.size; simpa using this
  clear hb1 hB hr0
  go_upto_region 2 with fail
  go_cut [5] (fun p wx => ∃ pb gi gg, p = .pointer (some ⟨pb, 0, none⟩) ∧ FM n w wx w.heap.size pb gi gg (List.replicate (n + 1) ⟨#[]⟩) (List.replicate n false))
  case first =>
    go_region
    all_goals
      go_wp2_with fail
      go_meet
    all_goals first
      | exact ⟨w1.heap.size, w1.heap.size + 1, w1.heap.size + 1 + 1, rfl, fm_mk (al0 w1 _ _ _) (al1 w1 _ _ _) (al2 w1 _ _ _) ((alr w1 _ _ _ _ (by omega)).trans hrs) (by omega) (by omega) (by omega) (by omega) (Nat.le_refl _) (hB1.trans ((alb w1 _ _ _).mono (by omega)))⟩
      | exact ⟨w1.heap.size, w1.heap.size + 1 + 1, w1.heap.size + 1, rfl, fm_mk (al0 w1 _ _ _) (al2 w1 _ _ _) (al1 w1 _ _ _) ((alr w1 _ _ _ _ (by omega)).trans hrs) (by omega) (by omega) (by omega) (by omega) (Nat.le_refl _) (hB1.trans ((alb w1 _ _ _).mono (by omega)))⟩
      | exact ⟨w1.heap.size + 1, w1.heap.size, w1.heap.size + 1 + 1, rfl, fm_mk (al1 w1 _ _ _) (al0 w1 _ _ _) (al2 w1 _ _ _) ((alr w1 _ _ _ _ (by omega)).trans hrs) (by omega) (by omega) (by omega) (by omega) (Nat.le_refl _) (hB1.trans ((alb w1 _ _ _).mono (by omega)))⟩
      | exact ⟨w1.heap.size + 1, w1.heap.size + 1 + 1, w1.heap.size, rfl, fm_mk (al1 w1 _ _ _) (al2 w1 _ _ _) (al0 w1 _ _ _) ((alr w1 _ _ _ _ (by omega)).trans hrs) (by omega) (by omega) (by omega) (by omega) (Nat.le_refl _) (hB1.trans ((alb w1 _ _ _).mono (by omega)))⟩
      | exact ⟨w1.heap.size + 1 + 1, w1.heap.size, w1.heap.size + 1, rfl, fm_mk (al2 w1 _ _ _) (al0 w1 _ _ _) (al1 w1 _ _ _) ((alr w1 _ _ _ _ (by omega)).trans hrs) (by omega) (by omega) (by omega) (by omega) (Nat.le_refl _) (hB1.trans ((alb w1 _ _ _).mono (by omega)))⟩
      | exact ⟨w1.heap.size + 1 + 1, w1.heap.size + 1, w1.heap.size, rfl, fm_mk (al2 w1 _ _ _) (al1 w1 _ _ _) (al0 w1 _ _ _) ((alr w1 _ _ _ _ (by omega)).trans hrs) (by omega) (by omega) (by omega) (by omega) (Nat.le_refl _) (hB1.trans ((alb w1 _ _ _).mono (by omega)))⟩
  case rest =>
    obtain ⟨pb, gi, gg, rfl, hF⟩ := hcut
    have hfi := fi_start l n
    clear hmk1 hmk2 hrs hB1 hs1
    go_wp2_with fail
    go_loopw [6, 7, 8] (fun a q i wr => ∃ (k g : Nat) (ins : List ByteArray) (gone : List Bool), k ≤ l.length ∧ i = .int .i64 (k : Int) ∧ a = .int .i64 (bsum (l.take k) : Int) ∧ q = .int .i64 (g : Int) ∧ FM n w wr w.heap.size pb gi gg ins gone ∧ FI l n k g ins gone) (fun _ _ i _ => l.length - (intOf i).toNat)
    case atStart => exact ⟨0, 0, _, _, by omega, rfl, rfl, rfl, hF, hfi⟩
    case round =>
      obtain ⟨k, g, ins, gone, hk, rfl, rfl, rfl, hFM, hFI⟩ := hrel
      clear hF hfi
      have hst := sum_take l k
      have hga := hFI.ga
      have hli := hFI.li
      have hlg := hFI.lg
      by_cases hlt : k < l.length
      · have hlt' : (k : Int) < (l.length : Int) := by omega
        have hsk := hok l[k] (List.getElem_mem hlt)
        have hbt := bsum_take l k hlt
        have hst2 := sum_take l (k + 1)
        obtain ⟨b, off, rfl, hbb, c0, c1, c2⟩ := hc k (l[k]).op (by simp [hlt])
        have hBc : ∀ {W : World} o, Below w.heap.size w W → W.cell? ⟨b, o, none⟩ = w.cell? ⟨b, o, none⟩ := fun o h => h.cell (p := ⟨b, o, none⟩) hbb
        have e0 := c0
        have e1 := c1
        have e2 := c2
        rw [← hBc _ hFM.bel] at c0 c1 c2
        clear hc
        obtain ⟨st, hst0⟩ : ∃ st, st = l[k] := ⟨_, rfl⟩
        rw [← hst0] at hsk hbt c0 c1 c2 e0 e1 e2
        have b1 : (bsum (l.take k) : Int) ≤ 1000 := by omega
        cases st with
        | keep m =>
          simp only [St.op, St.Ok, St.b] at c0 c1 c2 hsk hbt
          have R := fi_keep hFI hlt hst0.symm
          have m1 : (m : Int) ≤ 1000 := by omega
          have HB : Hid (bsum (l.take (k + 1)) = bsum (l.take k) + m) := hbt
          clear hFI hst hst2 hbt hst0 e0 e1 e2 hBc hga hli hlg hsk
          generalize bsum (l.take k) = B at *
          go_wp2_with fail
          go_roundw
          case rel => exact ⟨k + 1, B + m, ins, gone, by omega, by go_num, by rw [HB.out]; go_num, by go_num, hFM, R⟩
          case measure => simp [intOf]; omega
        | rem m =>
          simp only [St.op, St.Ok, St.b] at c0 c1 c2 hsk hbt e0 e1 e2
          have R := fi_rem (gone' := setT gone (bsum (l.take k)) m) hFI hlt hst0.symm (by rw [setT_len]; exact hlg) (fun j hj => by rw [setT_get _ _ _ _ (by omega), if_neg (by omega)]) (fun j h1 h2 => by rw [setT_get _ _ _ _ (by omega), if_pos (by omega)]) (fun j hj => by rw [setT_get _ _ _ _ (by omega), if_neg (by omega)])
          have m1 : (m : Int) ≤ 1000 := by omega
          have HB : Hid (bsum (l.take (k + 1)) = bsum (l.take k) + m) := hbt
          have hBn : bsum (l.take k) + m ≤ n := by omega
          clear hFI hst hst2 hbt hst0 hga hli hsk
          generalize bsum (l.take k) = B at *
          go_wp2_with fail
          go_loopw [6, 9] (fun a q w2 => ∃ j : Nat, j ≤ m ∧ q = .int .i64 (j : Int) ∧ a = .int .i64 ((B + j : Nat) : Int) ∧ FM n w w2 w.heap.size pb gi gg ins (setT gone B j)) (fun _ q _ => m - (intOf q).toNat)
          case atStart => exact ⟨0, by omega, rfl, rfl, hFM⟩
          case round =>
            obtain ⟨j, hj, rfl, rfl, hF2⟩ := hrel
            clear hFM c0 c1 c2
            have c1 := (hBc _ hF2.bel).trans e1
            have q1 := fm_c1 hF2
            by_cases hjm : j < m
            · have hjm' : (j : Int) < (m : Int) := by omega
              have cg := fm_cg hF2 (B + j) (by rw [setT_len]; omega)
              have zg := fm_zg hF2 (B + j)
              have R2 := hF2.setG (B + j)
              have e3 : ((B + j : Nat) : Int) = (B : Int) + (j : Int) := by omega
              rw [e3]
              have hi1 : (B : Int) + (j : Int) < (n : Int) := by omega
              have HS : Hid (setT gone B (j + 1) = (setT gone B j).set (B + j) true) := rfl
              clear hF2 hBc e0 e1 e2 e3 R
              go_wp2_with fail
              go_roundw
              case rel => exact ⟨j + 1, by omega, by go_num, by go_num, R2⟩
              case measure => simp [intOf]; omega
            · obtain rfl : j = m := by omega
              have e3 : ((B + j : Nat) : Int) = (B : Int) + (j : Int) := by omega
              clear hBc e0 e1 e2
              go_wp2_with fail
              go_roundw
              case rel => exact ⟨k + 1, g, ins, setT gone B j, by omega, by go_num, by rw [HB.out], rfl, hF2, R⟩
              case measure => simp [intOf]; omega
        | ins t =>
          simp only [St.op, St.Ok, St.b] at c0 c1 c2 hsk hbt
          have R := fi_ins hFI hlt hst0.symm hsk (by omega)
          have hgn : g < ins.length := by omega
          have hvg := (hFI.v (ins.getD g ⟨#[]⟩) (by simp [hgn])).2
          have hts : t.size ≤ 4000 := by
            have h1 := size_cpl hsk.1
            have h2 := tsum_take l k hlt
            rw [← hst0] at h2
            simp only [St.c] at h2
            omega
          have HB : Hid (bsum (l.take (k + 1)) = bsum (l.take k)) := by show _ = _; omega
          have RM := (hFM.drew).setI g (mk ((ins.getD g ⟨#[]⟩).data.toList ++ t.data.toList))
          have ci := fm_ci hFM g hgn
          have zi := fm_zi hFM g
          have q0 := fm_c0 hFM
          have d1 := data_len (ins.getD g ⟨#[]⟩)
          have d2 := data_len t
          have ha := fun W => pk.add_mk (ins.getD g ⟨#[]⟩).data.toList t.data.toList W (by omega)
          rw [mk_data, mk_data] at ha
          have g1 : (g : Int) < (n : Int) + 1 := by omega
          have g2 : (0 : Int) ≤ (g : Int) := by omega
          have hwg : IntKind.i64.wrap (g : Int) = (g : Int) := wraps_i64 _ (by omega) (by omega)
          clear hFI hst hst2 hbt hst0 e0 e1 e2 hBc hga hli hlg hsk hvg hts d1 d2 hgn
          generalize bsum (l.take k) = B at *
          generalize mk ((ins.getD g ⟨#[]⟩).data.toList ++ t.data.toList) = T at *
          generalize ins.getD g ⟨#[]⟩ = S at *
          go_wp2_with fail
          refine region_tailR 15 Tryz.mixedR (by kernel_rfl) ?_
          simp only [List.take_succ_cons, List.take_zero, List.drop_succ_cons, List.drop_zero]
          iterate 15 still_step
          refine wpStill_nil ?_
          go_wp2_with fail
          go_roundw
          case rel => exact ⟨k + 1, g, _, gone, by omega, by go_num, by rw [HB.out], rfl, RM, R⟩
          case measure => simp [intOf]; omega
      · have e : k = l.length := by omega
        subst e
        have q0 := fm_c0 hFM
        have q1 := fm_c1 hFM
        have r0 := cell_of_row _ _ 0 _ _ (0, 0) hFM.res
        have r1 := cell_of_row _ _ 1 _ _ (0, 0) hFM.res
        have z0 := frz hFM.res 0
        have z1 := frz hFM.res 1
        simp at r0 r1
        clear hc hok
        have x0 := heap_setCell hFM.res 0 (.slice (some ⟨gi, 0, none⟩) (n + 1) (n + 1))
        have x1 := heap_setCell x0 1 (.slice (some ⟨gg, 0, none⟩) n n)
        have n1 := heap_ne hFM.ir hFM.res (by decide)
        have n2 := heap_ne hFM.gr hFM.res (by decide)
        have y1 : ((wr.setCell ⟨w.heap.size, 0, none⟩ (.slice (some ⟨gi, 0, none⟩) (n + 1) (n + 1))).setCell ⟨w.heap.size, 1, none⟩ (.slice (some ⟨gg, 0, none⟩) n n)).heap[gi]? = some (.cells (ins.map Value.string).toArray 9) := by
          rw [Below.heap_setCell _ ⟨w.heap.size, 1, none⟩ _ gi n1, Below.heap_setCell _ ⟨w.heap.size, 0, none⟩ _ gi n1]; exact hFM.ir
        have y2 : ((wr.setCell ⟨w.heap.size, 0, none⟩ (.slice (some ⟨gi, 0, none⟩) (n + 1) (n + 1))).setCell ⟨w.heap.size, 1, none⟩ (.slice (some ⟨gg, 0, none⟩) n n)).heap[gg]? = some (.cells (gone.map Value.bool).toArray 4) := by
          rw [Below.heap_setCell _ ⟨w.heap.size, 1, none⟩ _ gg n2, Below.heap_setCell _ ⟨w.heap.size, 0, none⟩ _ gg n2]; exact hFM.gr
        have y3 : Below w.heap.size w ((wr.setCell ⟨w.heap.size, 0, none⟩ (.slice (some ⟨gi, 0, none⟩) (n + 1) (n + 1))).setCell ⟨w.heap.size, 1, none⟩ (.slice (some ⟨gg, 0, none⟩) n n)) :=
          below_set (below_set hFM.bel (Nat.le_refl _) hFM.bel.size) (Nat.le_refl _) (Nat.le_trans hFM.bel.size (grown_set wr _ 0 _).size)
        have l1 : (ins.map Value.string).length = n + 1 := by rw [List.length_map]; exact hli
        have l2 : (gone.map Value.bool).length = n := by rw [List.length_map]; exact hlg
        have HY : Hid (RdV _ (.slice (some ⟨gi, 0, none⟩) (n + 1) (n + 1)) (ins.map Value.string) ∧ RdV _ (.slice (some ⟨gg, 0, none⟩) n n) (gone.map Value.bool) ∧ Below w.heap.size w _) := ⟨rdv_row y1 l1, rdv_row y2 l2, y3⟩
        clear y1 y2 y3 l1 l2 n1 n2 x0
        go_wp2_with fail
        refine bodyPost_ret (results_cell_row rfl _ _ w.heap.size 113 _ (0, 0) _ rfl x1 Tryz.underlying113 rfl Tryz.sizeFo) rfl ?_
        exact ⟨_, _, ins, gone, g, rfl, HY.out.1, HY.out.2.1, hFI, HY.out.2.2⟩

set_option maxRecDepth 20000 in
set_option maxHeartbeats 1000000 in
theorem refNormal_any (v : Value) (ds : List OpD) (w : World) (hr : RdD w v ds) (hm : ds.length ≤ maxLen) (hi : ∀ o ∈ ds, o.Sm) :
    Calls Tryz.prog 42 #[v] w fun e w' => ∃ u, e = .returned (.tuple #[u, .int .i64 (chk ds)]) ∧ w'.ownsRow w.heap.size 59 3 u (jn (stR ds)).length (ocs (jn (stR ds))) ∧ Below w.heap.size w w' := by
  have hC := refCheck_any v ds w hr hm hi
  by_cases c : chk ds = 0
  · have hbd := stR_bd ds
    have hok := stR_ok (fun o ho => sm_in (hi o ho))
    have hF := fun W h => formed_any v ds W h hm hi c
    have hj := jn_eq hok
    have hB : ∀ (vi vg : Value) (ins : List ByteArray) (gone : List Bool) (g : Nat) (W : World), RdV W vi (ins.map Value.string) → RdV W vg (gone.map Value.bool) → FI (stR ds) (bsum (stR ds)) (stR ds).length g ins gone →
        Calls Tryz.prog 73 #[.agg #[vi, vg]] W fun e w' => ∃ u, e = .returned u ∧ w'.ownsRow W.heap.size 59 3 u (jn (stR ds)).length (ocs (jn (stR ds))) ∧ Below W.heap.size W w' := fun vi vg ins gone g W h1 h2 h3 => by
      have hv : ∀ t ∈ ins, 0 ≤ cpl t ∧ t.size ≤ 1048576 := fun t ht => by
        have := h3.v t ht
        rw [List.take_length] at this
        exact ⟨this.1, by omega⟩
      have hb := built_any vi vg ins gone W h1 h2 (by rw [h3.li, h3.lg]) (by rw [h3.lg]; omega) hv
      have he := fi_end h3 rfl
      have hnf : nfU (formW ins gone) = nfU (uw (stR ds)) := nf_of_marks he.1 he.2
      rw [hnf, ← hj] at hb
      have e : (nfU (uw (stR ds))).length = (jn (stR ds)).length := by rw [hj, List.length_map]
      rw [e] at hb
      exact hb
    rw [c] at hC ⊢
    clear hj hok hbd hi c
    go_enter Tryz.func42, Tryz.ntmps42
    go_wp2_with (first | (go_at_call 47; refine hC.mono ?_; rintro e w1 ⟨rfl, hb1⟩) | (go_at_call 74; refine (hF _ (hr.below hb1)).mono ?_; rintro e w2 ⟨vi, vg, ins, gone, g, rfl, q1, q2, q3, hb2⟩) | (go_at_call 73; refine (hB _ _ _ _ _ _ q1 q2 q3).mono ?_; rintro e w3 ⟨u3, rfl, ho3, hb3⟩))
    go_ret2
    exact ⟨_, rfl, own_lower ho3 (Nat.le_trans hb1.size hb2.size), chain (chain hb1 hb2) hb3⟩
  · have hne : (chk ds != 0) = true := by simpa using c
    have e0 : jn (stR ds) = [] := by rw [chk_no ds c]; rfl
    rw [e0]
    generalize chk ds = x at *
    go_enter Tryz.func42, Tryz.ntmps42
    go_wp2_with (go_at_call 47; refine hC.mono ?_; rintro e w1 ⟨rfl, hb1⟩)
    go_ret2
    exact ⟨_, rfl, World.ownsRow_nil _ _ _ _, hb1⟩
end Go.Proofs.YtcdnlkhjlgaaoaaGreatDoor
