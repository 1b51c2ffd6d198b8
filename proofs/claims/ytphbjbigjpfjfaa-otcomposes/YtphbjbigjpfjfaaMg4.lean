/- Texts of one proof, one behind the other: DrJ, DArU, RtA, RtB, RtC. -/
import Derived.Test.YtphbjbigjpfjfaaMg3
import Derived.Deep.DeepCutAuto
import Derived.BigRegion
import Derived.Test.YtphbjbigjpfjfaaMg2
import Derived.Deep.CondSized

/-
  The walk of the reference's Formed; Normal.
-/
namespace Go.Proofs.Ytphbjbigjpfjfaa
open Go.ChangeShapes Go.WideShapes Go.ChangeAt Go.RowKit Go.PlainAid

theorem Try.infoStr : (Try.prog.info? 9).map (fun i => (i.zero, i.size, i.bytes)) = some (some (.string ⟨#[]⟩), 1, 16) := by kernel_rfl
theorem Try.infoBoo : (Try.prog.info? 4).map (fun i => (i.zero, i.size, i.bytes)) = some (some (.bool false), 1, 1) := by kernel_rfl
set_option maxRecDepth 20000 in
theorem make_str (n : Nat) (hn : n ≤ 1001) (W : World) : (Instr.makeSlice 54 (.int .i64 (n : Int)) (.int .i64 (n : Int))).run Try.prog W = .ok (.slice (some ⟨W.heap.size, 0, none⟩) n n) (W.alloc (.cells ((List.replicate n (⟨#[]⟩ : ByteArray)).map Value.string).toArray 9)) := by
  obtain ⟨i0, hi, hz0, hz1, hz2⟩ := info_parts Try.infoStr
  have h := run_make (P := Try.prog) W 54 9 i0 (.string ⟨#[]⟩) Try.underlying54 hi hz0 .i64 .i64 (n : Int) (n : Int) (by omega) (by omega) (by rw [hz2]; omega) (by omega)
  rw [h, hz1]
  simp only [Int.toNat_natCast, Nat.mul_one]
  congr 3
  apply Array.ext'
  rw [show (Value.string (⟨#[]⟩ : ByteArray)).cells = #[.string ⟨#[]⟩] from rfl, toList_madeCells_one]
  simp
set_option maxRecDepth 20000 in
theorem make_boo (n : Nat) (hn : n ≤ 1001) (W : World) : (Instr.makeSlice 55 (.int .i64 (n : Int)) (.int .i64 (n : Int))).run Try.prog W = .ok (.slice (some ⟨W.heap.size, 0, none⟩) n n) (W.alloc (.cells ((List.replicate n false).map Value.bool).toArray 4)) := by
  obtain ⟨i0, hi, hz0, hz1, hz2⟩ := info_parts Try.infoBoo
  have h := run_make (P := Try.prog) W 55 4 i0 (.bool false) Try.underlying55 hi hz0 .i64 .i64 (n : Int) (n : Int) (by omega) (by omega) (by rw [hz2]; omega) (by omega)
  rw [h, hz1]
  simp only [Int.toNat_natCast, Nat.mul_one]
  congr 3
  apply Array.ext'
  rw [show (Value.bool false).cells = #[.bool false] from rfl, toList_madeCells_one]
  simp

section
variable (u : World) (a b c : Obj)
theorem al2 : (((u.alloc a).alloc b).alloc c).drew.heap[u.heap.size + 1 + 1]? = some c := by
  have := heap_alloc_new ((u.alloc a).alloc b) c
  rw [World.size_alloc, World.size_alloc] at this
  exact this
theorem al1 : (((u.alloc a).alloc b).alloc c).drew.heap[u.heap.size + 1]? = some b := by
  have h1 := heap_alloc_new (u.alloc a) b
  have h2 := Below.heap_alloc ((u.alloc a).alloc b) c (u.alloc a).heap.size (by simp)
  have := h2.trans h1
  rw [World.size_alloc] at this
  exact this
theorem al0 : (((u.alloc a).alloc b).alloc c).drew.heap[u.heap.size]? = some a := by
  have h1 := heap_alloc_new u a
  have h2 := Below.heap_alloc (u.alloc a) b u.heap.size (by simp)
  have h3 := Below.heap_alloc ((u.alloc a).alloc b) c u.heap.size (by simp; omega)
  exact h3.trans (h2.trans h1)
theorem alb : Below u.heap.size u (((u.alloc a).alloc b).alloc c).drew := ((((Below.refl _ u).alloc (Nat.le_refl _) a).alloc (by simp) b).alloc (by simp; omega) c).drew
theorem alr (k : Nat) (hk : k < u.heap.size) : (((u.alloc a).alloc b).alloc c).drew.heap[k]? = u.heap[k]? := (alb u a b c).block k hk
end
theorem fm_mk {n : Nat} {w W : World} {pr pb gi gg : Nat} (h1 : W.heap[pb]? = some (.cells #[.slice (some ⟨gi, 0, none⟩) (n + 1) (n + 1), .slice (some ⟨gg, 0, none⟩) n n] 57))
    (h2 : W.heap[gi]? = some (.cells (Array.replicate (n + 1) (Value.string ⟨#[]⟩)) 9)) (h3 : W.heap[gg]? = some (.cells (Array.replicate n (Value.bool false)) 4)) (h4 : W.heap[pr]? = some (.cells #[.slice none 0 0, .slice none 0 0] 57))
    (h5 : pr ≠ pb) (h6 : w.heap.size ≤ pb) (h7 : w.heap.size ≤ gi) (h8 : w.heap.size ≤ gg) (h9 : w.heap.size ≤ pr) (h10 : Below w.heap.size w W) : FM n w W pr pb gi gg (List.replicate (n + 1) ⟨#[]⟩) (List.replicate n false) :=
  ⟨h1, by rw [h2]; simp, by rw [h3]; simp, h4, h5, h6, h7, h8, h9, h10⟩

section
variable {n : Nat} {w W : World} {pr pb gi gg : Nat} {ins : List ByteArray} {gone : List Bool}
theorem fm_c0 (h : FM n w W pr pb gi gg ins gone) : W.cell? ⟨pb, 0, none⟩ = some (.slice (some ⟨gi, 0, none⟩) (n + 1) (n + 1)) := cell_of_row _ _ 0 _ _ (0, 0) h.box
theorem fm_c1 (h : FM n w W pr pb gi gg ins gone) : W.cell? ⟨pb, 1, none⟩ = some (.slice (some ⟨gg, 0, none⟩) n n) := cell_of_row _ _ 1 _ _ (0, 0) h.box
theorem fm_cg (h : FM n w W pr pb gi gg ins gone) (j : Nat) (hj : j < gone.length) : W.cell? ⟨gg, j, none⟩ = some (.bool (gone.getD j false)) := by
  rw [cell_of_row _ _ j _ _ (0, 0) h.gr]
  simp [hj]
theorem fm_ci (h : FM n w W pr pb gi gg ins gone) (j : Nat) (hj : j < ins.length) : W.cell? ⟨gi, j, none⟩ = some (.string (ins.getD j ⟨#[]⟩)) := by
  rw [cell_of_row _ _ j _ _ (0, 0) h.ir]
  simp [hj]
theorem fm_zg (h : FM n w W pr pb gi gg ins gone) (j : Nat) : W.frozen? ⟨gg, j, none⟩ = false := frz h.gr j
theorem fm_zi (h : FM n w W pr pb gi gg ins gone) (j : Nat) : W.frozen? ⟨gi, j, none⟩ = false := frz h.ir j
end

theorem rdv_row {W : World} {g m c : Nat} {xs : List Value} {t : TypeId} (h : W.heap[g]? = some (.cells xs.toArray t)) (hm : xs.length = m) : RdV W (.slice (some ⟨g, 0, none⟩) m c) xs := by
  subst hm
  refine ⟨_, _, rfl, fun i x hx => ⟨g, 0, rfl, heap_lt h, ?_⟩⟩
  rw [Nat.zero_add, cell_of_row _ _ i _ _ (0, 0) h]
  simpa using hx
theorem Try.sizeFo : (Try.prog.info? 57).map (·.size) = some 2 := by kernel_rfl

/-- A stretch of true. -/
def setT (gone : List Bool) (B : Nat) : Nat → List Bool
  | 0 => gone
  | j + 1 => (setT gone B j).set (B + j) true
theorem setT_len (gone : List Bool) (B : Nat) : ∀ j, (setT gone B j).length = gone.length
  | 0 => rfl
  | j + 1 => by rw [setT, List.length_set, setT_len gone B j]
theorem setT_get (gone : List Bool) (B : Nat) : ∀ j x, B + j ≤ gone.length → (setT gone B j).getD x false = if B ≤ x ∧ x < B + j then true else gone.getD x false
  | 0, x, _ => by rw [setT, if_neg (by omega)]
  | j + 1, x, h => by
    have ih := setT_get gone B j x (by omega)
    rw [setT]
    by_cases e : x = B + j
    · subst e
      rw [if_pos (by omega), List.getD_eq_getElem?_getD, List.getElem?_set_self (by rw [setT_len]; omega)]
      rfl
    · rw [List.getD_eq_getElem?_getD, List.getElem?_set_ne (fun q => e q.symm), ← List.getD_eq_getElem?_getD, ih]
      by_cases h1 : B ≤ x ∧ x < B + j
      · rw [if_pos h1, if_pos (by omega)]
      · rw [if_neg h1, if_neg (by omega)]

set_option maxRecDepth 20000 in
set_option maxHeartbeats 2000000 in
theorem formed_any (v : Value) (ds : List OpD) (w : World) (hr : RdD w v ds) (hm : ds.length ≤ maxLen) (hi : ∀ o ∈ ds, o.Sm) (hc0 : chk ds = 0) :
    Calls Try.prog 32 #[v] w fun e w' => ∃ vi vg ins gone g, e = .returned (.agg #[vi, vg]) ∧ RdV w' vi (ins.map Value.string) ∧ RdV w' vg (gone.map Value.bool) ∧ FI (stR ds) (bsum (stR ds)) (stR ds).length g ins gone ∧ Below w.heap.size w w' := by
  have hB := fun W h => refBase_any v ds W h hm hi
  have hbd := stR_bd ds
  have hln := stR_len ds
  have hds := stR_op hc0
  have hok := stR_ok (fun o ho => sm_in (hi o ho))
  rw [hc0] at hB
  generalize stR ds = l at *
  obtain ⟨n, hn⟩ : ∃ n, bsum l = n := ⟨_, rfl⟩
  rw [hn] at hB hbd ⊢
  have hn1 : (n : Int) ≤ 1000 := by omega
  have hr0 := hr
  subst hds
  obtain ⟨ao, cp, rfl, _, hc⟩ := hr
  rw [List.length_map] at *
  have hmk1 := make_str (n + 1) (by omega)
  have hmk2 := make_boo n (by omega)
  have e1 : ((n + 1 : Nat) : Int) = (n : Int) + 1 := by omega
  rw [e1] at hmk1
  clear hi hc0 e1
  go_enter Try.func32, Try.ntmps32
  go_wp2_with fail
  refine (hB _ (hr0.below ((Below.refl _ w).alloc (Nat.le_refl _) _))).mono ?_
  rintro e w1 ⟨rfl, hb1⟩
  have hrs : w1.heap[w.heap.size]? = some (.cells #[.slice none 0 0, .slice none 0 0] 57) := (hb1.block w.heap.size (by simp)).trans (heap_alloc_new w _)
  have hB1 : Below w.heap.size w w1 := ((Below.refl _ w).alloc (Nat.le_refl _) _).trans (hb1.mono (by simp))
  have hs1 : w.heap.size + 1 ≤ w1.heap.size := by have := hb1.size; simpa using this
  clear hb1 hB hr0
  go_upto_region 2 with fail
  go_cut [5] (fun p wx => ∃ pb gi gg, p = .pointer (some ⟨pb, 0, none⟩) ∧ FM n w wx w.heap.size pb gi gg (List.replicate (n + 1) ⟨#[]⟩) (List.replicate n false))
  case first =>
    go_region
    all_goals
      go_wp2_with fail
      go_meet
    all_goals first
      | exact ⟨w1.heap.size, w1.heap.size + 1, w1.heap.size + 1 + 1, rfl, fm_mk (al0 w1 _ _ _) (al1 w1 _ _ _) (al2 w1 _ _ _) ((alr w1 _ _ _ _ (by omega)).trans hrs) (by omega) (by omega) (by omega) (by omega) (Nat.le_refl _) (hB1.trans ((alb w1 _ _ _).mono (by omega)))⟩
      | exact ⟨w1.heap.size, w1.heap.size + 1 + 1, w1.heap.size + 1, rfl, fm_mk (al0 w1 _ _ _) (al2 w1 _ _ _) (al1 w1 _ _ _) ((alr w1 _ _ _ _ (by omega)).trans hrs) (by omega) (by omega) (by omega) (by omega) (Nat.le_refl _) (hB1.trans ((alb w1 _ _ _).mono (by omega)))⟩
      | exact ⟨w1.heap.size + 1, w1.heap.size, w1.heap.size + 1 + 1, rfl, fm_mk (al1 w1 _ _ _) (al0 w1 _ _ _) (al2 w1 _ _ _) ((alr w1 _ _ _ _ (by omega)).trans hrs) (by omega) (by omega) (by omega) (by omega) (Nat.le_refl _) (hB1.trans ((alb w1 _ _ _).mono (by omega)))⟩
      | exact ⟨w1.heap.size + 1, w1.heap.size + 1 + 1, w1.heap.size, rfl, fm_mk (al1 w1 _ _ _) (al2 w1 _ _ _) (al0 w1 _ _ _) ((alr w1 _ _ _ _ (by omega)).trans hrs) (by omega) (by omega) (by omega) (by omega) (Nat.le_refl _) (hB1.trans ((alb w1 _ _ _).mono (by omega)))⟩
      | exact ⟨w1.heap.size + 1 + 1, w1.heap.size, w1.heap.size + 1, rfl, fm_mk (al2 w1 _ _ _) (al0 w1 _ _ _) (al1 w1 _ _ _) ((alr w1 _ _ _ _ (by omega)).trans hrs) (by omega) (by omega) (by omega) (by omega) (Nat.le_refl _) (hB1.trans ((alb w1 _ _ _).mono (by omega)))⟩
      | exact ⟨w1.heap.size + 1 + 1, w1.heap.size + 1, w1.heap.size, rfl, fm_mk (al2 w1 _ _ _) (al1 w1 _ _ _) (al0 w1 _ _ _) ((alr w1 _ _ _ _ (by omega)).trans hrs) (by omega) (by omega) (by omega) (by omega) (Nat.le_refl _) (hB1.trans ((alb w1 _ _ _).mono (by omega)))⟩
  case rest =>
    obtain ⟨pb, gi, gg, rfl, hF⟩ := hcut
    have hfi := fi_start l n
    clear hmk1 hmk2 hrs hB1 hs1
    go_wp2_with fail
    go_loopw [6, 7, 8] (fun a q i wr => ∃ (k g : Nat) (ins : List ByteArray) (gone : List Bool), k ≤ l.length ∧ i = .int .i64 (k : Int) ∧ a = .int .i64 (bsum (l.take k) : Int) ∧ q = .int .i64 (g : Int) ∧ FM n w wr w.heap.size pb gi gg ins gone ∧ FI l n k g ins gone) (fun _ _ i _ => l.length - (intOf i).toNat)
    case atStart => exact ⟨0, 0, _, _, by omega, rfl, rfl, rfl, hF, hfi⟩
    case round =>
      obtain ⟨k, g, ins, gone, hk, rfl, rfl, rfl, hFM, hFI⟩ := hrel
      clear hF hfi
      have hst := sum_take l k
      have hga := hFI.ga
      have hli := hFI.li
      have hlg := hFI.lg
      by_cases hlt : k < l.length
      · have hlt' : (k : Int) < (l.length : Int) := by omega
        have hsk := hok l[k] (List.getElem_mem hlt)
        have hbt := bsum_take l k hlt
        have hst2 := sum_take l (k + 1)
        obtain ⟨b, off, rfl, hbb, c0, c1, c2⟩ := hc k (l[k]).op (by simp [hlt])
        have hBc : ∀ {W : World} o, Below w.heap.size w W → W.cell? ⟨b, o, none⟩ = w.cell? ⟨b, o, none⟩ := fun o h => h.cell (p := ⟨b, o, none⟩) hbb
        have e0 := c0
        have e1 := c1
        have e2 := c2
        rw [← hBc _ hFM.bel] at c0 c1 c2
        clear hc
        obtain ⟨st, hst0⟩ : ∃ st, st = l[k] := ⟨_, rfl⟩
        rw [← hst0] at hsk hbt c0 c1 c2 e0 e1 e2
        have b1 : (bsum (l.take k) : Int) ≤ 1000 := by omega
        cases st with
        | keep m =>
          simp only [St.op, St.Ok, St.b] at c0 c1 c2 hsk hbt
          have R := fi_keep hFI hlt hst0.symm
          have m1 : (m : Int) ≤ 1000 := by omega
          have HB : Hid (bsum (l.take (k + 1)) = bsum (l.take k) + m) := hbt
          clear hFI hst hst2 hbt hst0 e0 e1 e2 hBc hga hli hlg hsk
          generalize bsum (l.take k) = B at *
          go_wp2_with fail
          go_roundw
          case rel => exact ⟨k + 1, B + m, ins, gone, by omega, by go_num, by rw [HB.out]; go_num, by go_num, hFM, R⟩
          case measure => simp [intOf]; omega
        | rem m =>
          simp only [St.op, St.Ok, St.b] at c0 c1 c2 hsk hbt e0 e1 e2
          have R := fi_rem (gone' := setT gone (bsum (l.take k)) m) hFI hlt hst0.symm (by rw [setT_len]; exact hlg) (fun j hj => by rw [setT_get _ _ _ _ (by omega), if_neg (by omega)]) (fun j h1 h2 => by rw [setT_get _ _ _ _ (by omega), if_pos (by omega)]) (fun j hj => by rw [setT_get _ _ _ _ (by omega), if_neg (by omega)])
          have m1 : (m : Int) ≤ 1000 := by omega
          have HB : Hid (bsum (l.take (k + 1)) = bsum (l.take k) + m) := hbt
          have hBn : bsum (l.take k) + m ≤ n := by omega
          clear hFI hst hst2 hbt hst0 hga hli hsk
          generalize bsum (l.take k) = B at *
          go_wp2_with fail
          go_loopw [6, 9] (fun a q w2 => ∃ j : Nat, j ≤ m ∧ q = .int .i64 (j : Int) ∧ a = .int .i64 ((B + j : Nat) : Int) ∧ FM n w w2 w.heap.size pb gi gg ins (setT gone B j)) (fun _ q _ => m - (intOf q).toNat)
          case atStart => exact ⟨0, by omega, rfl, rfl, hFM⟩
          case round =>
            obtain ⟨j, hj, rfl, rfl, hF2⟩ := hrel
            clear hFM c0 c1 c2
            have c1 := (hBc _ hF2.bel).trans e1
            have q1 := fm_c1 hF2
            by_cases hjm : j < m
            · have hjm' : (j : Int) < (m : Int) := by omega
              have cg := fm_cg hF2 (B + j) (by rw [setT_len]; omega)
              have zg := fm_zg hF2 (B + j)
              have R2 := hF2.setG (B + j)
              have e3 : ((B + j : Nat) : Int) = (B : Int) + (j : Int) := by omega
              rw [e3]
              have hi1 : (B : Int) + (j : Int) < (n : Int) := by omega
              have HS : Hid (setT gone B (j + 1) = (setT gone B j).set (B + j) true) := rfl
              clear hF2 hBc e0 e1 e2 e3 R
              go_wp2_with fail
              go_roundw
              case rel => exact ⟨j + 1, by omega, by go_num, by go_num, R2⟩
              case measure => simp [intOf]; omega
            · obtain rfl : j = m := by omega
              have e3 : ((B + j : Nat) : Int) = (B : Int) + (j : Int) := by omega
              clear hBc e0 e1 e2
              go_wp2_with fail
              go_roundw
              case rel => exact ⟨k + 1, g, ins, setT gone B j, by omega, by go_num, by rw [HB.out], rfl, hF2, R⟩
              case measure => simp [intOf]; omega
        | ins t =>
          simp only [St.op, St.Ok, St.b] at c0 c1 c2 hsk hbt
          have R := fi_ins hFI hlt hst0.symm hsk (by omega)
          have hgn : g < ins.length := by omega
          have hvg := (hFI.v (ins.getD g ⟨#[]⟩) (by simp [hgn])).2
          have hts : t.size ≤ 4000 := by
            have h1 := size_cpl hsk.1
            have h2 := tsum_take l k hlt
            rw [← hst0] at h2
            simp only [St.c] at h2
            omega
          have HB : Hid (bsum (l.take (k + 1)) = bsum (l.take k)) := by show _ = _; omega
          have RM := (hFM.drew).setI g (mk ((ins.getD g ⟨#[]⟩).data.toList ++ t.data.toList))
          have ci := fm_ci hFM g hgn
          have zi := fm_zi hFM g
          have q0 := fm_c0 hFM
          have d1 := data_len (ins.getD g ⟨#[]⟩)
          have d2 := data_len t
          have ha := fun W => pk.add_mk (ins.getD g ⟨#[]⟩).data.toList t.data.toList W (by omega)
          rw [mk_data, mk_data] at ha
          have g1 : (g : Int) < (n : Int) + 1 := by omega
          have g2 : (0 : Int) ≤ (g : Int) := by omega
          have hwg : IntKind.i64.wrap (g : Int) = (g : Int) := wraps_i64 _ (by omega) (by omega)
          clear hFI hst hst2 hbt hst0 e0 e1 e2 hBc hga hli hlg hsk hvg hts d1 d2 hgn
          generalize bsum (l.take k) = B at *
          generalize mk ((ins.getD g ⟨#[]⟩).data.toList ++ t.data.toList) = T at *
          generalize ins.getD g ⟨#[]⟩ = S at *
          go_wp2_with fail
          refine region_tailR 15 Try.mixedR (by kernel_rfl) ?_
          simp only [List.take_succ_cons, List.take_zero, List.drop_succ_cons, List.drop_zero]
          iterate 15 still_step
          refine wpStill_nil ?_
          go_wp2_with fail
          go_roundw
          case rel => exact ⟨k + 1, g, _, gone, by omega, by go_num, by rw [HB.out], rfl, RM, R⟩
          case measure => simp [intOf]; omega
      · have e : k = l.length := by omega
        subst e
        have q0 := fm_c0 hFM
        have q1 := fm_c1 hFM
        have r0 := cell_of_row _ _ 0 _ _ (0, 0) hFM.res
        have r1 := cell_of_row _ _ 1 _ _ (0, 0) hFM.res
        have z0 := frz hFM.res 0
        have z1 := frz hFM.res 1
        simp at r0 r1
        clear hc hok
        have x0 := heap_setCell hFM.res 0 (.slice (some ⟨gi, 0, none⟩) (n + 1) (n + 1))
        have x1 := heap_setCell x0 1 (.slice (some ⟨gg, 0, none⟩) n n)
        have n1 := heap_ne hFM.ir hFM.res (by decide)
        have n2 := heap_ne hFM.gr hFM.res (by decide)
        have y1 : ((wr.setCell ⟨w.heap.size, 0, none⟩ (.slice (some ⟨gi, 0, none⟩) (n + 1) (n + 1))).setCell ⟨w.heap.size, 1, none⟩ (.slice (some ⟨gg, 0, none⟩) n n)).heap[gi]? = some (.cells (ins.map Value.string).toArray 9) := by
          rw [Below.heap_setCell _ ⟨w.heap.size, 1, none⟩ _ gi n1, Below.heap_setCell _ ⟨w.heap.size, 0, none⟩ _ gi n1]; exact hFM.ir
        have y2 : ((wr.setCell ⟨w.heap.size, 0, none⟩ (.slice (some ⟨gi, 0, none⟩) (n + 1) (n + 1))).setCell ⟨w.heap.size, 1, none⟩ (.slice (some ⟨gg, 0, none⟩) n n)).heap[gg]? = some (.cells (gone.map Value.bool).toArray 4) := by
          rw [Below.heap_setCell _ ⟨w.heap.size, 1, none⟩ _ gg n2, Below.heap_setCell _ ⟨w.heap.size, 0, none⟩ _ gg n2]; exact hFM.gr
        have y3 : Below w.heap.size w ((wr.setCell ⟨w.heap.size, 0, none⟩ (.slice (some ⟨gi, 0, none⟩) (n + 1) (n + 1))).setCell ⟨w.heap.size, 1, none⟩ (.slice (some ⟨gg, 0, none⟩) n n)) :=
          below_set (below_set hFM.bel (Nat.le_refl _) hFM.bel.size) (Nat.le_refl _) (Nat.le_trans hFM.bel.size (grown_set wr _ 0 _).size)
        have l1 : (ins.map Value.string).length = n + 1 := by rw [List.length_map]; exact hli
        have l2 : (gone.map Value.bool).length = n := by rw [List.length_map]; exact hlg
        have HY : Hid (RdV _ (.slice (some ⟨gi, 0, none⟩) (n + 1) (n + 1)) (ins.map Value.string) ∧ RdV _ (.slice (some ⟨gg, 0, none⟩) n n) (gone.map Value.bool) ∧ Below w.heap.size w _) := ⟨rdv_row y1 l1, rdv_row y2 l2, y3⟩
        clear y1 y2 y3 l1 l2 n1 n2 x0
        go_wp2_with fail
        refine bodyPost_ret (results_cell_row rfl _ _ w.heap.size 57 _ (0, 0) _ rfl x1 Try.underlying57 rfl Try.sizeFo) rfl ?_
        exact ⟨_, _, ins, gone, g, rfl, HY.out.1, HY.out.2.1, hFI, HY.out.2.2⟩

end Go.Proofs.Ytphbjbigjpfjfaa

/-
  Deltas that came in, of bulk at most 1048576, opened; Copied.
-/
namespace Go.Proofs.Ytphbjbigjpfjfaa
open Go.ChangeShapes Go.WideShapes Go.ChangeAt Go.RowKit Go.PlainAid

theorem bulk_pos {H : Type} (d : DataW H) : 1 ≤ Rows.uptoBulk d := by
  cases d with
  | lit l => cases l <;> simp [Rows.uptoBulk]
  | _ => simp [Rows.uptoBulk]
theorem bulk_mem {H : Type} : ∀ {l : List (DataW H)} {d : DataW H}, d ∈ l → Rows.uptoBulk d ≤ Rows.uptoBulkAll l
  | x :: r, d, hd => by
    simp only [Rows.uptoBulkAll]
    rcases List.mem_cons.1 hd with rfl | h
    · omega
    · have := bulk_mem h; omega
theorem bulk_len {H : Type} : ∀ (l : List (DataW H)), l.length ≤ Rows.uptoBulkAll l
  | [] => by simp
  | x :: r => by
    have := bulk_pos x
    have := bulk_len r
    simp only [Rows.uptoBulkAll, List.length_cons]; omega
theorem up_mem {H : Type} {ds : List (DataW H)} {d : DataW H} (hk : Rows.uptoSmall H ds = true) (h : d ∈ ds) : Rows.uptoBulk d ≤ 1048576 := by
  have h1 : Rows.uptoBulkAll ds ≤ 1048576 := by simpa [Rows.uptoSmall] using hk
  have := bulk_mem h
  omega
theorem up_str {H : Type} {s : ByteArray} (h : Rows.uptoBulk (DataW.lit (.string s.data.toList) : DataW H) ≤ 1048576) : s.size ≤ 1048576 := by
  simp only [Rows.uptoBulk] at h
  rw [← data_len]; omega

set_option maxRecDepth 20000 in
theorem open_du {H : Type} {enc : TypeId × Value → H} {w : World} {spare : Nat → Bool} {held : Bool} {n : Nat} {cs : List Value} {x : DataW H × List MemPlace} (h : DataW.trod enc Try.prog w 0 spare held n 50 cs = some x) (hz : Rows.uptoBulk x.1 ≤ 1048576) :
    ∃ o : OpD, cs = [.int .i64 o.k, .int .i64 o.n, .string o.t] ∧ o.Sm := by
  obtain ⟨xs, m, _, hx, hl, _, hf⟩ := DataW.trod_struct Try.underlying50 h
  have h4 : Try.prog.cellsOf 50 = 3 := by kernel_rfl
  have c3 : Try.prog.cellsOf 3 = 1 := by kernel_rfl
  have c9 : Try.prog.cellsOf 9 = 1 := by kernel_rfl
  rw [h4] at hl
  have hxl : xs.length = 3 := by assumption
  match xs, hxl, cs, hl with
  | [y0, y1, y2], _, [v0, v1, v2], _ =>
    have g0 := hf 0 _ rfl
    have g1 := hf 1 _ rfl
    have g2 := hf 2 _ rfl
    simp [c3, c9] at g0 g1 g2
    obtain ⟨a0, e0, _, w0⟩ := DataW.trod_int Try.underlying3 g0
    obtain ⟨a1, e1, _, w1⟩ := DataW.trod_int Try.underlying3 g1
    obtain ⟨a2, e2, f2, w2⟩ := DataW.trod_string Try.underlying9 g2
    simp at e0 e1 e2
    have hb : a2.size ≤ 1048576 := by
      rw [hx] at hz
      simp only [List.map, Rows.uptoBulk, Rows.uptoBulkAll] at hz
      rw [f2] at hz
      simp only [Rows.uptoBulk] at hz
      rw [← data_len]
      omega
    exact ⟨⟨a0, a1, a2⟩, by rw [e0, e1, e2], hb⟩

set_option maxRecDepth 20000 in
/-- A delta, out of its value. -/
theorem open_dlu {H : Type} {enc : TypeId × Value → H} {w : World} {spare : Nat → Bool} {held : Bool} {fuel : Nat} {ao : Option Addr} {len cap : Nat} {x : DataW H × List MemPlace}
    (h : DataW.trod enc Try.prog w 0 spare held fuel 22 (Value.slice ao len cap).cells.toList = some x) (hz : Rows.uptoBulk x.1 ≤ 1048576) :
    ∃ l : List OpD, RdD w (.slice ao len cap) l ∧ l.length ≤ 1048576 ∧ ∀ o ∈ l, o.Sm := by
  rcases Go.Deep.open_slice Try.underlying22 h with ⟨hcs, _⟩ | ⟨a, l, c, m, n, D, Pl, hcs, _, hl, hmx, hmm, hx, hall⟩
  · simp [Value.cells] at hcs
    obtain ⟨rfl, rfl, rfl⟩ := hcs
    exact ⟨[], RdD.nil w, Nat.zero_le _, by simp⟩
  · simp [Value.cells] at hcs
    obtain ⟨rfl, rfl, rfl⟩ := hcs
    have hlm : len ≤ m := by rw [hmm]; split <;> omega
    have h4 : Try.prog.cellsOf 50 = 3 := by kernel_rfl
    rw [hx] at hz
    simp only [Rows.uptoBulk] at hz
    have hln : len ≤ 1048576 := by
      have := bulk_len ((List.range len).map D)
      simp only [List.length_map, List.length_range] at this
      omega
    have hzD : ∀ i, i < len → Rows.uptoBulk (D i) ≤ 1048576 := fun i hi => by
      have := bulk_mem (l := (List.range len).map D) (d := D i) (List.mem_map.2 ⟨i, List.mem_range.2 hi, rfl⟩)
      omega
    rw [h4] at hall
    obtain ⟨b, off, spot⟩ := a
    have hsp : ∀ i, i < len → spot = none := by
      intro i hi
      obtain ⟨cs', h1, h2⟩ := hall 0 (by omega)
      obtain ⟨o, rfl, ho⟩ := open_du h2 (hzD 0 (by omega))
      obtain ⟨_, _, hcell⟩ := World.cells?_some h1
      have e0 := hcell 0 (by omega)
      simp at e0
      have := World.cell?_spot e0
      simpa [Addr.add] using this
    have each : ∀ i, i < len → ∃ o : OpD, o.Sm ∧ spot = none ∧ b < w.heap.size ∧ w.cell? ⟨b, off + i * 3, none⟩ = some (.int .i64 o.k) ∧ w.cell? ⟨b, off + i * 3 + 1, none⟩ = some (.int .i64 o.n) ∧ w.cell? ⟨b, off + i * 3 + 2, none⟩ = some (.string o.t) := by
      intro i hi
      obtain ⟨cs', h1, h2⟩ := hall i (by omega)
      obtain ⟨o, rfl, ho⟩ := open_du h2 (hzD i hi)
      obtain ⟨_, _, hcell⟩ := World.cells?_some h1
      have e0 := hcell 0 (by omega)
      have e1 := hcell 1 (by omega)
      have e2 := hcell 2 (by omega)
      rw [Go.Deep.add_add] at e0 e1 e2
      simp at e0 e1 e2
      obtain rfl := hsp i hi
      have hadd : ∀ k, (⟨b, off, none⟩ : Addr).add k = ⟨b, off + k, none⟩ := fun k => by unfold Addr.add; split <;> simp_all
      rw [hadd] at e0 e1 e2
      exact ⟨o, ho, rfl, World.block_lt_of_cell? w _ e0, e0, by rw [Nat.add_assoc]; exact e1, by rw [Nat.add_assoc]; exact e2⟩
    obtain ⟨f, hf⟩ := @Go.Deep.choose_lt OpD ⟨⟨0, 0, ⟨#[]⟩⟩⟩ _ _ each
    have hlen : ((List.range len).map f).length = len := by simp
    refine ⟨(List.range len).map f, ⟨some ⟨b, off, spot⟩, cap, by rw [hlen], ⟨by rw [hlen]; omega, fun h => by cases h⟩, fun i o ho => ?_⟩, by rw [hlen]; omega, fun o ho => ?_⟩
    · have hi : i < len := by
        have := (List.getElem?_eq_some_iff.1 ho).1
        simpa using this
      simp [hi] at ho
      subst ho
      obtain ⟨_, rfl, r⟩ := hf i hi
      exact ⟨b, off, rfl, r⟩
    · obtain ⟨i, hi, rfl⟩ := List.mem_map.1 ho
      exact (hf i (List.mem_range.1 hi)).1

/-! ### Copied -/

theorem rdd_cells {w : World} {b off cp : Nat} {l : List OpD} (h : RdD w (.slice (some ⟨b, off, none⟩) l.length cp) l) : ∀ j u, (ocs l)[j]? = some u → w.cell? ((⟨b, off, none⟩ : Addr).add j) = some u := by
  intro j u hj
  have hj' : j < l.length * 3 := by have := (List.getElem?_eq_some_iff.1 hj).1; rwa [ocs_length] at this
  obtain ⟨ao, cp', e, _, hc⟩ := h
  obtain ⟨b', o', e1, _, c0, c1, c2⟩ := hc (j / 3) l[j / 3] (by simp [show j / 3 < l.length by omega])
  cases e
  cases e1
  obtain ⟨q0, q1, q2⟩ := ocs_at l (j / 3) l[j / 3] (by simp [show j / 3 < l.length by omega])
  rw [addr_add]
  rcases (show j = j / 3 * 3 ∨ j = j / 3 * 3 + 1 ∨ j = j / 3 * 3 + 2 by omega) with h | h | h
  · rw [h] at hj ⊢
    rw [c0, ← q0, hj]
  · rw [h] at hj ⊢
    rw [← Nat.add_assoc, c1, ← q1, hj]
  · rw [h] at hj ⊢
    rw [← Nat.add_assoc, c2, ← q2, hj]
theorem ocs_one' (l : List OpD) : ∀ u ∈ ocs l, u.oneCell' = true := by
  intro u hu
  simp only [ocs, List.mem_flatten, List.mem_map] at hu
  obtain ⟨_, ⟨o, _, rfl⟩, hu⟩ := hu
  exact three_one _ _ _ u hu

theorem app_ops (v : Value) (l : List OpD) (wr : World) (hw : RdD wr v l) (hx : l.length ≤ 4398046511104) (ty : TypeId) :
    ∃ v' w', (Builtin.append_ #[22, 22] ty #[.slice none 0 0, v]).run Try.prog wr = .ok v' w' ∧ w'.ownsRow wr.heap.size 50 3 v' l.length (ocs l) ∧ Below wr.heap.size wr w' := by
  obtain ⟨i0, hin, hz0, hz1, hz2⟩ := info_parts Try.infoOp
  by_cases h0 : l.length = 0
  · have : l = [] := List.eq_nil_of_length_eq_zero h0
    subst this
    obtain ⟨ao, cp, rfl, _, _⟩ := hw
    refine ⟨.slice none 0 0, wr, ?_, World.ownsRow_nil _ _ _ _, Below.refl _ _⟩
    cases ao with
    | none => simp [Builtin.append_, run_underlying Try.underlying22, sizeOf, typeInfo, hin, Builtin.lenOf, Builtin.firstCells]
    | some a => simp [Builtin.append_, run_underlying Try.underlying22, sizeOf, typeInfo, hin, Builtin.lenOf, Builtin.firstCells, loadCells, loadCellsFrom]
  · have hw' := hw
    obtain ⟨ao, cp, rfl, _, hc⟩ := hw
    obtain ⟨b, off, rfl, _⟩ := hc 0 l[0] (by simp [show 0 < l.length by omega])
    obtain ⟨v', w', h1, h2, h3, h4⟩ := run_append_own (P := Try.prog) wr wr.heap.size 22 ty 50 i0 (.agg #[.int .i64 0, .int .i64 0, .string ⟨#[]⟩]) 3 32 Try.underlying22 hin hz0 hz1 hz2 rfl (by decide) (.slice none 0 0) 0 [] (World.ownsRow_nil _ _ _ _) ⟨b, off, none⟩ l.length cp (ocs l) (by rw [ocs_length]) (rdd_cells hw') (ocs_one' l)
      (by unfold maxLen; omega) (by omega) (Nat.le_refl _)
    refine ⟨v', w', h1, ?_, ⟨h3.os, h3.tape, h3.output, h3.size, fun k hk => h3.block k hk (by simp [Value.ownBlock])⟩⟩
    simpa using h2
theorem wpList_app_ops {ops : Array Oper} {rest : List Oper} {o : Oper} {a : Act} {Q : Exit → Act → World → Prop} (wr : World) (hgd : o.guard = none) (sl x : Operand)
    (ho : o.op = .call { callee := .builtin .append, args := #[sl, x], argTypes := #[22, 22] }) (v : Value) (l : List OpD) (hs : a.eval sl = .slice none 0 0) (hx : a.eval x = v)
    (hw : RdD wr v l) (hl : l.length ≤ 4398046511104)
    (h : ∀ v' w', w'.ownsRow wr.heap.size 50 3 v' l.length (ocs l) → Below wr.heap.size wr w' → wpList Try.prog ops Q rest (a.put o.dst v') w') : wpList Try.prog ops Q (o :: rest) a wr := by
  refine wpList_plain hgd fun K hK => ?_
  obtain ⟨v', w', hr, h2, h3⟩ := app_ops v l wr hw hl o.type
  unfold Oper.wp execOp
  simp only [ho, resolve, invoke, builtin, Sem.run_bind, Sem.run_pure, Result.andThen_ok, List.map_toArray, List.map_cons, List.map_nil, hs, hx, hr]
  exact hK _ _ (h v' w' h2 h3)
theorem copied_any (v : Value) (l : List OpD) (w : World) (hr : RdD w v l) (hl : l.length ≤ 4398046511104) :
    Calls Try.prog 9 #[v] w fun e w' => ∃ u, e = .returned u ∧ w'.ownsRow w.heap.size 50 3 u l.length (ocs l) ∧ Below w.heap.size w w' := by
  go_enter Try.func9, Try.ntmps9
  go_wp2_with (at_builtin; refine wpList_app_ops _ rfl (.tmp 4) (.tmp 5) rfl v l rfl rfl hr hl ?_; intro v5 w5 ho5 hb5)
  go_ret
  exact ⟨_, rfl, ho5, hb5⟩
end Go.Proofs.Ytphbjbigjpfjfaa

/-
  The reference's marks as data; the contracts of its checks and marks.
-/
namespace Go.Proofs.Ytphbjbigjpfjfaa
open Go.ChangeShapes Go.WideShapes Go.ChangeAt Go.RowKit Go.PlainAid

def mF : Nat ⊕ Int → Int
  | .inl j => (j : Int)
  | .inr _ => -1
def mP : Nat ⊕ Int → Int
  | .inl _ => 0
  | .inr z => z
def mcs (l : List (Nat ⊕ Int)) : List Value := (l.map fun m => [Value.int .i64 (mF m), .int .i64 (mP m)]).flatten
theorem mcs_append (a b : List (Nat ⊕ Int)) : mcs (a ++ b) = mcs a ++ mcs b := by simp [mcs]
theorem mcs_one (m : Nat ⊕ Int) : mcs [m] = [Value.int .i64 (mF m), .int .i64 (mP m)] := by simp [mcs]
theorem mcs_length (l : List (Nat ⊕ Int)) : (mcs l).length = l.length * 2 := by
  induction l with
  | nil => rfl
  | cons m l ih =>
    have e : mcs (m :: l) = [Value.int .i64 (mF m), .int .i64 (mP m)] ++ mcs l := by simp [mcs]
    rw [e, List.length_append, ih, List.length_cons]; simp; omega
theorem mcs_at (l : List (Nat ⊕ Int)) (i : Nat) (m : Nat ⊕ Int) (h : l[i]? = some m) : (mcs l)[i * 2]? = some (.int .i64 (mF m)) ∧ (mcs l)[i * 2 + 1]? = some (.int .i64 (mP m)) := by
  have hi := (List.getElem?_eq_some_iff.1 h).1
  have e0 : l = l.take i ++ ([m] ++ l.drop (i + 1)) := by
    have h1 : l[i] = m := (List.getElem?_eq_some_iff.1 h).2
    rw [← h1]
    simp
  have e1 : mcs l = mcs (l.take i) ++ ([Value.int .i64 (mF m), .int .i64 (mP m)] ++ mcs (l.drop (i + 1))) := by
    rw [← mcs_one, ← mcs_append, ← mcs_append, ← e0]
  have e2 : (mcs (l.take i)).length = i * 2 := by rw [mcs_length, List.length_take]; congr 1; omega
  rw [e1]
  refine ⟨?_, ?_⟩ <;> rw [List.getElem?_append_right (by omega), e2] <;> simp
/-- At v lie marks. -/
def RdM (w : World) (v : Value) (l : List (Nat ⊕ Int)) : Prop :=
  ∃ ao cp, v = .slice ao l.length cp ∧ ∀ (i : Nat) (m : Nat ⊕ Int), l[i]? = some m → ∃ b off, ao = some ⟨b, off, none⟩ ∧ b < w.heap.size ∧ w.cell? ⟨b, off + i * 2, none⟩ = some (.int .i64 (mF m)) ∧ w.cell? ⟨b, off + i * 2 + 1, none⟩ = some (.int .i64 (mP m))
theorem RdM.below {w w' : World} {v : Value} {l : List (Nat ⊕ Int)} (h : RdM w v l) (hb : Below w.heap.size w w') : RdM w' v l := by
  obtain ⟨ao, cp, e, h1⟩ := h
  refine ⟨ao, cp, e, fun i m hi => ?_⟩
  obtain ⟨b, off, e1, hl, c0, c1⟩ := h1 i m hi
  exact ⟨b, off, e1, Nat.lt_of_lt_of_le hl hb.size, (hb.cell (p := ⟨b, off + i * 2, none⟩) hl).trans c0, (hb.cell (p := ⟨b, off + i * 2 + 1, none⟩) hl).trans c1⟩
theorem rdm_own {W : World} {B : Nat} {v : Value} {l : List (Nat ⊕ Int)} (h : W.ownsRow B 47 2 v l.length (mcs l)) : RdM W v l := by
  rcases h.2 with ⟨rfl, h0⟩ | ⟨g, cap, cur, rfl, hb, hg, hn, _, hc, ht⟩
  · have : l = [] := List.eq_nil_of_length_eq_zero h0
    subst this
    exact ⟨none, 0, rfl, fun i m hi => by simp at hi⟩
  · refine ⟨_, cap, rfl, fun i m hm => ⟨g, 0, rfl, (h.lt g rfl).2, ?_⟩⟩
    obtain ⟨c0, c1⟩ := mcs_at l i m hm
    have hadd : ∀ j, (⟨g, 0, none⟩ : Addr).add j = ⟨g, 0 + j, none⟩ := fun j => by unfold Addr.add; split <;> simp_all
    have g0 := h.cells (g := g) rfl _ _ c0
    have g1 := h.cells (g := g) rfl _ _ c1
    rw [hadd] at g0 g1
    exact ⟨g0, by rw [Nat.add_assoc]; exact g1⟩
theorem own_mark {w1 : World} {base n : Nat} {v' : Value} {L : List (Nat ⊕ Int)} {m : Nat ⊕ Int} {a b : Int} (h : w1.ownsRow base 47 2 v' (n + 1) (mcs L ++ [Value.int .i64 a, .int .i64 b])) (hn : L.length = n) (ha : a = mF m) (hb : b = mP m) :
    w1.ownsRow base 47 2 v' (L ++ [m]).length (mcs (L ++ [m])) := by
  subst hn; subst ha; subst hb
  rw [mcs_append, mcs_one, List.length_append]
  exact h
theorem two_one (a b : Int) : ∀ u ∈ [Value.int .i64 a, .int .i64 b], u.oneCell' = true := by
  intro u hu
  simp at hu
  rcases hu with rfl | rfl <;> rfl
theorem Try.infoMk : (Try.prog.info? 47).map (fun i => (i.zero, i.size, i.bytes)) = some (some (.agg #[.int .i64 0, .int .i64 0]), 2, 16) := by kernel_rfl

theorem rchecks_any (vA vB : Value) (A B : List OpD) (w : World) (hA : RdD w vA A) (hB : RdD w vB B) (mA : A.length ≤ maxLen) (mB : B.length ≤ maxLen) (iA : ∀ o ∈ A, o.Sm) (iB : ∀ o ∈ B, o.Sm) :
    Calls Try.prog 24 #[vA, vB] w fun e w' => e = .returned (.int .i64 (if chk A = 0 then chk B else chk A)) ∧ Below w.heap.size w w' := by
  have c1 := refCheck_any vA A w hA mA iA
  have c2 := fun W h => refCheck_any vB B W h mB iB
  by_cases c : chk A = 0
  · rw [if_pos c]
    rw [c] at c1
    clear c
    generalize chk B = eb at *
    go_enter Try.func24, Try.ntmps24
    go_wp2_with fail
    refine c1.mono ?_
    rintro e w1 ⟨rfl, hb1⟩
    go_wp2_with fail
    refine (c2 _ (hB.below hb1)).mono ?_
    rintro e w2 ⟨rfl, hb2⟩
    go_wp2_with fail
    go_ret
    exact ⟨rfl, chain hb1 hb2⟩
  · have c' : (chk A != 0) = true := by simpa using c
    rw [if_neg c]
    clear c
    generalize chk A = ea at *
    go_enter Try.func24, Try.ntmps24
    go_wp2_with fail
    refine c1.mono ?_
    rintro e w1 ⟨rfl, hb1⟩
    go_wp2_with fail
    go_ret
    exact ⟨rfl, hb1⟩

theorem take_uw' {l : List St} {k : Nat} (h : k < l.length) : uw (l.take (k + 1)) = uw (l.take k) ++ (l[k]).u := by
  rw [List.take_succ_eq_append_getElem h, uw_append]; simp [uw]
theorem mk_len (l : List St) : (mkU 0 (uw l)).length = tsum l := by rw [show (mkU 0 (uw l)).length = targU (uw l) from rfl, targ_uw]

set_option maxRecDepth 20000 in
set_option maxHeartbeats 3000000 in
theorem rmarks_any (v : Value) (ds : List OpD) (w : World) (hr : RdD w v ds) (hi : ∀ o ∈ ds, o.Sm) (hc0 : chk ds = 0) :
    Calls Try.prog 27 #[v] w fun e w' => ∃ u, e = .returned u ∧ w'.ownsRow w.heap.size 47 2 u (mkU 0 (uw (stR ds))).length (mcs (mkU 0 (uw (stR ds)))) ∧ Below w.heap.size w w' := by
  obtain ⟨i0, hin, hz0, hz1, hz2⟩ := info_parts Try.infoMk
  have hbd := stR_bd ds
  have hln := stR_len ds
  have hds := stR_op hc0
  have hok := stR_ok (fun o ho => sm_in (hi o ho))
  generalize stR ds = l at *
  subst hds
  obtain ⟨ao, cp, rfl, _, hc⟩ := hr
  rw [List.length_map] at *
  clear hi hc0
  go_enter Try.func27, Try.ntmps27
  go_wp2_with fail
  go_loopw [3, 4, 5] (fun d a i wr => ∃ (k : Nat) (M : List (Nat ⊕ Int)), k ≤ l.length ∧ i = .int .i64 (k : Int) ∧ a = .int .i64 (bsum (l.take k) : Int) ∧ Hid (M = mkU 0 (uw (l.take k))) ∧ wr.ownsRow w.heap.size 47 2 d M.length (mcs M) ∧ Below w.heap.size w wr) (fun _ _ i _ => l.length - (intOf i).toNat)
  case atStart => exact ⟨0, [], by omega, rfl, rfl, rfl, World.ownsRow_nil _ _ _ _, Below.refl _ _⟩
  case round =>
    obtain ⟨k, M, hk, rfl, rfl, HM, hown, hbl⟩ := hrel
    have hst := sum_take l k
    have hML : M.length ≤ 1000 := by
      have := mk_len (l.take k)
      rw [← HM.out] at this
      omega
    have hsz := hbl.size
    by_cases hlt : k < l.length
    · have hlt' : (k : Int) < (l.length : Int) := by omega
      have hsk := hok l[k] (List.getElem_mem hlt)
      have hbt := bsum_take l k hlt
      have htt := tsum_take l k hlt
      have hst2 := sum_take l (k + 1)
      obtain ⟨b, off, rfl, hbb, e0, e1, e2⟩ := hc k (l[k]).op (by simp [hlt])
      have hBc : ∀ {W : World} o, Below w.heap.size w W → W.cell? ⟨b, o, none⟩ = w.cell? ⟨b, o, none⟩ := fun o h => h.cell (p := ⟨b, o, none⟩) hbb
      have c0 := (hBc _ hbl).trans e0
      have c1 := (hBc _ hbl).trans e1
      have c2 := (hBc _ hbl).trans e2
      have HT : Hid (mkU 0 (uw (l.take (k + 1))) = M ++ mkU (bsum (l.take k)) (l[k]).u) := by
        show _ = _
        rw [take_uw' hlt, mkU_append, ← HM.out, base_uw, Nat.zero_add]
      have hMt : M.length = tsum (l.take k) := by rw [HM.out, mk_len]
      clear hc HM
      generalize l[k] = st at *
      have b1 : (bsum (l.take k) : Int) ≤ 1000 := by omega
      cases st with
      | keep m =>
        simp only [St.op, St.Ok, St.b, St.c] at c0 c1 c2 e0 e1 e2 hsk hbt htt
        have m1 : (m : Int) ≤ 1000 := by omega
        have HB : Hid (bsum (l.take (k + 1)) = bsum (l.take k) + m) := hbt
        have hMm : M.length + m ≤ 1000 := by omega
        have HTK : Hid (mkU 0 (uw (l.take (k + 1))) = M ++ (List.range m).map (fun j => .inl (bsum (l.take k) + j))) := by
          show _ = _
          rw [HT.out]; simp only [St.u, mkU_K]
        clear hst hst2 hbt htt HT hMt
        generalize bsum (l.take k) = B at *
        go_wp2_with fail
        go_loopw [3, 6] (fun d q w2 => ∃ j : Nat, j ≤ m ∧ q = .int .i64 (j : Int) ∧ w2.ownsRow w.heap.size 47 2 d (M ++ (List.range j).map (fun j => Sum.inl (B + j))).length (mcs (M ++ (List.range j).map (fun j => Sum.inl (B + j)))) ∧ Below w.heap.size w w2) (fun _ q _ => m - (intOf q).toNat)
        case atStart => exact ⟨0, by omega, rfl, by simpa using hown, hbl⟩
        case round =>
          obtain ⟨j, hj, rfl, hown2, hbl2⟩ := hrel
          clear c0 c1 c2 hown hbl
          have c0 := (hBc _ hbl2).trans e0
          have c1 := (hBc _ hbl2).trans e1
          have hsz2 := hbl2.size
          by_cases hjm : j < m
          · have hjm' : (j : Int) < (m : Int) := by omega
            have hll : (M ++ (List.range j).map (fun j => Sum.inl (B + j))).length ≤ 1000 := by rw [List.length_append, List.length_map, List.length_range]; omega
            have HS : Hid (M ++ (List.range (j + 1)).map (fun j => Sum.inl (B + j)) = (M ++ (List.range j).map (fun j => Sum.inl (B + j))) ++ [Sum.inl (B + j)]) := by
              show _ = _
              rw [List.range_succ, List.map_append, List.append_assoc]; rfl
            generalize M ++ (List.range j).map (fun j => Sum.inl (B + j)) = L at *
            obtain ⟨ao5, cp5, rfl⟩ := own_form hown2
            have hf : (B : Int) + (j : Int) = mF (.inl (B + j)) := by show _ = ((B + j : Nat) : Int); omega
            clear hBc e0 e1 e2
            go_wp2_with (at_builtin; refine wpList_append_lies _ rfl (.tmp 32) (.tmp 37) 44 rfl w.heap.size 47 i0 (.agg #[.int .i64 0, .int .i64 0]) 2 16 Try.underlying44 hin hz0 hz1 hz2 rfl (by decide) (.slice ao5 L.length cp5) L.length (mcs L) rfl (hown2.alloc _) ⟨_, 0, none⟩ 1 1 [.int .i64 ((B : Int) + (j : Int)), .int .i64 0] rfl rfl (many_new _ _ _) (two_one _ _) (by decide) (by unfold maxLen; omega) (by omega) (by simp; omega) _ rfl ?_; intro g4 c4 w4 ho4 hg4 _ _)
            have R4 := own_mark (m := .inl (B + j)) ho4 rfl hf rfl
            have B4 : Below w.heap.size w w4 := (hbl2.alloc hsz2 _).grown hg4 (by simp; omega) (fun k hk => (hown2.lt k hk).1)
            go_roundw
            case rel => exact ⟨j + 1, by omega, by go_num, by rw [HS.out]; exact R4, B4⟩
            case measure => simp [intOf]; omega
          · obtain rfl : j = m := by omega
            clear hBc e0 e2
            go_wp2_with fail
            go_roundw
            case rel => exact ⟨k + 1, _, by omega, by go_num, by rw [HB.out]; go_num, HTK.out.symm, hown2, hbl2⟩
            case measure => simp [intOf]; omega
      | rem m =>
        simp only [St.op, St.Ok, St.b, St.c] at c0 c1 c2 e0 e1 e2 hsk hbt htt
        have m1 : (m : Int) ≤ 1000 := by omega
        have HB : Hid (bsum (l.take (k + 1)) = bsum (l.take k) + m) := hbt
        have HTK : Hid (mkU 0 (uw (l.take (k + 1))) = M) := by
          show _ = _
          rw [HT.out]; simp only [St.u, mkU_R, List.append_nil]
        clear hst hst2 hbt htt HT hMt hBc e0 e1 e2
        generalize bsum (l.take k) = B at *
        go_wp2_with fail
        go_roundw
        case rel => exact ⟨k + 1, M, by omega, by go_num, by rw [HB.out]; go_num, HTK.out.symm, hown, hbl⟩
        case measure => simp [intOf]; omega
      | ins t =>
        simp only [St.op, St.Ok, St.b, St.c] at c0 c1 c2 e0 e1 e2 hsk hbt htt
        have h0 : 0 < cpl t := hsk.1
        have hts := size_cpl h0
        have hpl := pts_len (t := t) (by omega)
        have HB : Hid (bsum (l.take (k + 1)) = bsum (l.take k)) := by show _ = _; omega
        have hMm : M.length + (pts t).length ≤ 1000 := by omega
        have HTK : Hid (mkU 0 (uw (l.take (k + 1))) = M ++ (pts t).map .inr) := by
          show _ = _
          rw [HT.out]; simp only [St.u, mkU_I]
        have hPt := fun W => refPoints_ok t (cpl t).toNat W (by omega) (cpl_valid (by omega))
        have hpe : (cpl t).toNat = (pts t).length := by omega
        have hpd : ptL t (cpl t).toNat = pts t := rfl
        rw [hpd, hpe] at hPt
        have hp0 : 0 < (pts t).length := by omega
        clear hst hst2 hbt htt HT hMt hpl hpe hpd hts h0 hsk
        generalize bsum (l.take k) = B at *
        generalize pts t = P at *
        go_wp2_with fail
        refine (hPt _).mono ?_
        rintro e w1 ⟨u1, rfl, ho1, hb1⟩
        have hown1 := own_belowG hown hb1
        have hbl1 := hbl.trans (hb1.mono hsz)
        obtain ⟨po, pc, rfl⟩ := own_form ho1
        clear hPt hown hb1
        go_wp2_with fail
        go_loopw [3, 9] (fun d q w2 => ∃ j : Nat, j ≤ P.length ∧ q = .int .i64 (j : Int) ∧ w2.ownsRow w.heap.size 47 2 d (M ++ (P.take j).map Sum.inr).length (mcs (M ++ (P.take j).map Sum.inr)) ∧ Below w.heap.size w w2 ∧ w2.ownsRow wr.heap.size 3 1 (.slice po P.length pc) P.length (iv P)) (fun _ q _ => P.length - (intOf q).toNat)
        case atStart => exact ⟨0, by omega, rfl, by simpa using hown1, hbl1, ho1⟩
        case round =>
          obtain ⟨j, hj, rfl, hown2, hbl2, hP2⟩ := hrel
          clear c0 c1 c2 hown1 hbl1 ho1
          have c1 := (hBc _ hbl2).trans e1
          have hsz2 := hbl2.size
          by_cases hjm : j < P.length
          · have hjm' : (j : Int) < (P.length : Int) := by omega
            obtain ⟨po', pc', ep, _, hpz⟩ := rdp_own hP2
            simp at ep
            obtain ⟨rfl, rfl⟩ := ep
            obtain ⟨pb, pof, rfl, hpb, hpc⟩ := hpz hp0
            have cj := hpc j hjm
            have hll : (M ++ (P.take j).map (Sum.inr (α := Nat))).length ≤ 1000 := by rw [List.length_append, List.length_map, List.length_take]; omega
            have HS : Hid (M ++ (P.take (j + 1)).map (Sum.inr (α := Nat)) = (M ++ (P.take j).map Sum.inr) ++ [Sum.inr (P.getD j 0)]) := by
              show _ = _
              rw [take_snocI P j hjm, List.map_append, List.append_assoc]; rfl
            clear hpz hpc hBc e0 e1 e2
            generalize P.getD j 0 = z at *
            generalize M ++ (P.take j).map (Sum.inr (α := Nat)) = L at *
            have hap := own_apart hP2 hown2 (by decide)
            obtain ⟨ao5, cp5, rfl⟩ := own_form hown2
            go_wp2_with (at_builtin; refine wpList_append_lies _ rfl (.tmp 56) (.tmp 62) 44 rfl w.heap.size 47 i0 (.agg #[.int .i64 0, .int .i64 0]) 2 16 Try.underlying44 hin hz0 hz1 hz2 rfl (by decide) (.slice ao5 L.length cp5) L.length (mcs L) rfl (hown2.alloc _) ⟨_, 0, none⟩ 1 1 [.int .i64 (-1), .int .i64 z] rfl rfl (many_new _ _ _) (two_one _ _) (by decide) (by unfold maxLen; omega) (by omega) (by simp; omega) _ rfl ?_; intro g4 c4 w4 ho4 hg4 _ _)
            have R4 := own_mark (m := .inr z) ho4 rfl rfl rfl
            have B4 : Below w.heap.size w w4 := (hbl2.alloc hsz2 _).grown hg4 (by simp; omega) (fun k hk => (hown2.lt k hk).1)
            have P4 := (hP2.alloc (.cells #[.int .i64 (-1), .int .i64 z] 47)).kept hg4 hap
            go_roundw
            case rel => exact ⟨j + 1, by omega, by go_num, by rw [HS.out]; exact R4, B4, P4⟩
            case measure => simp [intOf]; omega
          · obtain rfl : j = P.length := by omega
            rw [List.take_length] at hown2
            clear hBc e0 e2
            go_wp2_with fail
            go_roundw
            case rel => exact ⟨k + 1, _, by omega, by go_num, by rw [HB.out], HTK.out.symm, hown2, hbl2⟩
            case measure => simp [intOf]; omega
    · have e : k = l.length := by omega
      subst e
      have HF : Hid (M = mkU 0 (uw l)) := by show _ = _; have := HM.out; rw [List.take_length] at this; exact this
      clear hc hok HM
      go_wp2_with fail
      go_ret
      exact ⟨_, rfl, by rw [← HF.out]; exact hown, hbl⟩
end Go.Proofs.Ytphbjbigjpfjfaa

/-
  The contract of the reference's built.
-/
namespace Go.Proofs.Ytphbjbigjpfjfaa
open Go.ChangeShapes Go.WideShapes Go.ChangeAt Go.RowKit Go.PlainAid

/-- Marks of a base of n, those of the base rising from g on. -/
def Ris (n : Nat) : Nat → List (Nat ⊕ Int) → Prop
  | _, [] => True
  | g, .inr z :: l => szI z ≠ 0 ∧ Ris n g l
  | g, .inl p :: l => g ≤ p ∧ p < n ∧ Ris n (p + 1) l
theorem ris_le {n : Nat} : ∀ (l : List (Nat ⊕ Int)) {g h : Nat}, g ≤ h → Ris n h l → Ris n g l
  | [], _, _, _, _ => trivial
  | .inr _ :: l, _, _, hle, h => ⟨h.1, ris_le l hle h.2⟩
  | .inl _ :: _, _, _, hle, h => ⟨Nat.le_trans hle h.1, h.2⟩
theorem ris_mk (n : Nat) : ∀ (l : List U) (i : Nat), i + baseU l ≤ n → PtsU l → Ris n i (mkU i l)
  | [], _, _, _ => trivial
  | .K :: l, i, h, hp => by
    simp only [baseU] at h
    exact ⟨Nat.le_refl _, by omega, ris_mk n l (i + 1) (by omega) (fun z hz => hp z (by simp [hz]))⟩
  | .R :: l, i, h, hp => by
    simp only [baseU] at h
    exact ris_le _ (by omega) (ris_mk n l (i + 1) (by omega) (fun z hz => hp z (by simp [hz])))
  | .I z :: l, i, h, hp => ⟨hp z (by simp), ris_mk n l i h (fun z hz => hp z (by simp [hz]))⟩

/-- What built has on its way. -/
structure BI (M : List (Nat ⊕ Int)) (n k g : Nat) (ins : List ByteArray) (gone : List Bool) : Prop where
  li : ins.length = n + 1
  lg : gone.length = n
  ga : g ≤ n
  m : gapM ins gone g = M.take k
  r : ∀ j, g ≤ j → j < n → gone.getD j false = true
  e : ∀ j, g < j → ins.getD j ⟨#[]⟩ = ⟨#[]⟩
  v : ∀ t ∈ ins, 0 ≤ cpl t ∧ t.size ≤ 4 * k
  ri : Ris n g (M.drop k)
theorem bi_start {M : List (Nat ⊕ Int)} {n : Nat} (gone : List Bool) (hg : gone.length = n) (ht : ∀ j, j < n → gone.getD j false = true) (hM : Ris n 0 M) : BI M n 0 0 (List.replicate (n + 1) ⟨#[]⟩) gone := by
  have hi : ∀ j, (List.replicate (n + 1) (⟨#[]⟩ : ByteArray)).getD j ⟨#[]⟩ = ⟨#[]⟩ := fun j => by
    by_cases h : j < n + 1 <;> simp [List.getD, h]
  refine ⟨by simp, hg, by omega, ?_, fun j _ h => ht j h, fun j _ => hi j, fun t ht => ?_, hM⟩
  · rw [gapM, hi, pts_nil]; rfl
  · have := List.eq_of_mem_replicate ht
    subst this
    exact ⟨by decide, by show 0 ≤ _; omega⟩
theorem take_m {M : List (Nat ⊕ Int)} {k : Nat} {x : Nat ⊕ Int} (h : M[k]? = some x) : M.take (k + 1) = M.take k ++ [x] ∧ M.drop k = x :: M.drop (k + 1) := by
  have hk := (List.getElem?_eq_some_iff.1 h).1
  have e : M[k] = x := (List.getElem?_eq_some_iff.1 h).2
  exact ⟨by rw [List.take_add_one, h]; rfl, by rw [List.drop_eq_getElem_cons hk, e]⟩
theorem bi_inl {M : List (Nat ⊕ Int)} {n k g p : Nat} {ins : List ByteArray} {gone : List Bool} (h : BI M n k g ins gone) (hm : M[k]? = some (.inl p)) : (g ≤ p ∧ p < n) ∧ BI M n (k + 1) (p + 1) ins (gone.set p false) := by
  obtain ⟨t1, t2⟩ := take_m hm
  have hri := h.ri
  rw [t2] at hri
  obtain ⟨r1, r2, r3⟩ := hri
  have hlg := h.lg
  have hne : ∀ j, j ≠ p → (gone.set p false).getD j false = gone.getD j false := fun j hj => by
    rw [List.getD_eq_getElem?_getD, List.getElem?_set_ne (fun e => hj e.symm), List.getD_eq_getElem?_getD]
  have hp : (gone.set p false).getD p false = false := by
    have : p < gone.length := by omega
    simp [List.getD, this]
  refine ⟨⟨r1, r2⟩, h.li, by rw [List.length_set]; exact hlg, by omega, ?_, fun j q1 q2 => ?_, fun j q => h.e j (by omega), fun t ht => ⟨(h.v t ht).1, by have := (h.v t ht).2; omega⟩, r3⟩
  · rw [gapM_K hp (h.e _ (by omega))]
    have e1 := gapM_Rs (ins := ins) (gone := gone.set p false) (g := g) h.e (p - g) (fun j q1 q2 => by rw [hne j (by omega)]; exact h.r j q1 (by omega))
    rw [show g + (p - g) = p by omega] at e1
    have e2 : gapM ins (gone.set p false) g = gapM ins gone g := by
      rw [gapM, gapM, gapW_congr (ins := ins) (ins' := ins) (gone := gone) (gone' := gone.set p false) g (fun j hj => ⟨rfl, hne j (by omega)⟩)]
    rw [e1, e2, h.m, t1]
  · rw [hne j (by omega)]; exact h.r j (by omega) q2
theorem bi_inr {M : List (Nat ⊕ Int)} {n k g : Nat} {z : Int} {ins : List ByteArray} {gone : List Bool} (h : BI M n k g ins gone) (hm : M[k]? = some (.inr z)) :
    szI z ≠ 0 ∧ BI M n (k + 1) g (ins.set g (mk ((ins.getD g ⟨#[]⟩).data.toList ++ (mk (enc [z])).data.toList))) gone := by
  obtain ⟨t1, t2⟩ := take_m hm
  have hri := h.ri
  rw [t2] at hri
  obtain ⟨hz, r3⟩ := hri
  have hli := h.li
  have hga := h.ga
  have hc1 := cpl_enc (p := [z]) (by simpa using hz)
  have hin : ins.getD g ⟨#[]⟩ ∈ ins := by simp [show g < ins.length by omega]
  have hvg := h.v _ hin
  have hcat := cat_ok hvg.1 (t := mk (enc [z])) (by rw [hc1.1]; simp)
  have hget : ∀ j, j ≠ g → (ins.set g (mk ((ins.getD g ⟨#[]⟩).data.toList ++ (mk (enc [z])).data.toList))).getD j ⟨#[]⟩ = ins.getD j ⟨#[]⟩ := fun j hj => by
    rw [List.getD_eq_getElem?_getD, List.getElem?_set_ne (fun e => hj e.symm), List.getD_eq_getElem?_getD]
  have hgg : (ins.set g (mk ((ins.getD g ⟨#[]⟩).data.toList ++ (mk (enc [z])).data.toList))).getD g ⟨#[]⟩ = mk ((ins.getD g ⟨#[]⟩).data.toList ++ (mk (enc [z])).data.toList) := by
    have : g < ins.length := by omega
    simp [List.getD, this]
  refine ⟨hz, by rw [List.length_set]; exact hli, h.lg, hga, ?_, h.r, fun j q => ?_, fun x hx => ?_, r3⟩
  · have e := gapW_congr (ins := ins) (ins' := ins.set g (mk ((ins.getD g ⟨#[]⟩).data.toList ++ (mk (enc [z])).data.toList))) (gone := gone) (gone' := gone) g (fun j hj => ⟨hget j (by omega), rfl⟩)
    have hm := h.m
    rw [gapM] at hm ⊢
    rw [e, hgg, hcat.2, List.map_append, ← List.append_assoc, hm, t1, hc1.2]
    rfl
  · rw [hget j (by omega)]; exact h.e j q
  · rcases List.mem_or_eq_of_mem_set hx with hx | hx
    · have := h.v x hx; exact ⟨this.1, by omega⟩
    · subst hx
      refine ⟨hcat.1, ?_⟩
      have hs1 := hvg.2
      have hl := enc_len [z]
      rw [mk_size, List.length_append, data_len, data_len, mk_size]
      simp at hl
      omega
theorem bi_end {M : List (Nat ⊕ Int)} {n g : Nat} {ins : List ByteArray} {gone : List Bool} (h : BI M n M.length g ins gone) : baseU (formW ins gone) = n ∧ mkU 0 (formW ins gone) = M := by
  have hm := h.m
  rw [List.take_length] at hm
  have hga := h.ga
  have e1 := gapM_Rs (g := g) h.e (n - g) (fun j h1 h2 => h.r j h1 (by omega))
  rw [show g + (n - g) = n by omega] at e1
  refine ⟨?_, ?_⟩
  · rw [formW, baseU_append, baseU_gap, baseU_I, h.lg]; rfl
  · rw [formW, mkU_append, mkU_I, h.lg, ← hm, ← e1, gapM]

/-- A form on its way, in memory. -/
structure FB (n : Nat) (w W : World) (pb gi gg : Nat) (ins : List ByteArray) (gone : List Bool) : Prop where
  box : W.heap[pb]? = some (.cells #[.slice (some ⟨gi, 0, none⟩) (n + 1) (n + 1), .slice (some ⟨gg, 0, none⟩) n n] 57)
  ir : W.heap[gi]? = some (.cells (ins.map Value.string).toArray 9)
  gr : W.heap[gg]? = some (.cells (gone.map Value.bool).toArray 4)
  pb0 : w.heap.size ≤ pb
  gi0 : w.heap.size ≤ gi
  gg0 : w.heap.size ≤ gg
  bel : Below w.heap.size w W
section
variable {n : Nat} {w W W' : World} {pb gi gg : Nat} {ins : List ByteArray} {gone : List Bool}
theorem FB.setG (h : FB n w W pb gi gg ins gone) (j : Nat) (b : Bool) : FB n w (W.setCell ⟨gg, j, none⟩ (.bool b)) pb gi gg ins (gone.set j b) := by
  have n1 := heap_ne h.box h.gr (by decide)
  have n2 := heap_ne h.ir h.gr (by decide)
  refine ⟨?_, ?_, ?_, h.pb0, h.gi0, h.gg0, below_set h.bel h.gg0 h.bel.size⟩
  · rw [Below.heap_setCell W ⟨gg, j, none⟩ _ pb n1]; exact h.box
  · rw [Below.heap_setCell W ⟨gg, j, none⟩ _ gi n2]; exact h.ir
  · rw [heap_setCell h.gr j _]
    simp
theorem FB.setI (h : FB n w W pb gi gg ins gone) (j : Nat) (t : ByteArray) : FB n w (W.setCell ⟨gi, j, none⟩ (.string t)) pb gi gg (ins.set j t) gone := by
  have n1 := heap_ne h.box h.ir (by decide)
  have n2 := heap_ne h.gr h.ir (by decide)
  refine ⟨?_, ?_, ?_, h.pb0, h.gi0, h.gg0, below_set h.bel h.gi0 h.bel.size⟩
  · rw [Below.heap_setCell W ⟨gi, j, none⟩ _ pb n1]; exact h.box
  · rw [heap_setCell h.ir j _]
    simp
  · rw [Below.heap_setCell W ⟨gi, j, none⟩ _ gg n2]; exact h.gr
theorem FB.drew (h : FB n w W pb gi gg ins gone) : FB n w W.drew pb gi gg ins gone := ⟨h.box, h.ir, h.gr, h.pb0, h.gi0, h.gg0, h.bel.drew⟩
theorem FB.below (h : FB n w W pb gi gg ins gone) (hb : Below W.heap.size W W') : FB n w W' pb gi gg ins gone :=
  ⟨(hb.block _ (heap_lt h.box)).trans h.box, (hb.block _ (heap_lt h.ir)).trans h.ir, (hb.block _ (heap_lt h.gr)).trans h.gr, h.pb0, h.gi0, h.gg0, h.bel.trans (hb.mono h.bel.size)⟩
theorem fb_c0 (h : FB n w W pb gi gg ins gone) : W.cell? ⟨pb, 0, none⟩ = some (.slice (some ⟨gi, 0, none⟩) (n + 1) (n + 1)) := cell_of_row _ _ 0 _ _ (0, 0) h.box
theorem fb_c1 (h : FB n w W pb gi gg ins gone) : W.cell? ⟨pb, 1, none⟩ = some (.slice (some ⟨gg, 0, none⟩) n n) := cell_of_row _ _ 1 _ _ (0, 0) h.box
theorem fb_cg (h : FB n w W pb gi gg ins gone) (j : Nat) (hj : j < gone.length) : W.cell? ⟨gg, j, none⟩ = some (.bool (gone.getD j false)) := by
  rw [cell_of_row _ _ j _ _ (0, 0) h.gr]
  simp [hj]
theorem fb_ci (h : FB n w W pb gi gg ins gone) (j : Nat) (hj : j < ins.length) : W.cell? ⟨gi, j, none⟩ = some (.string (ins.getD j ⟨#[]⟩)) := by
  rw [cell_of_row _ _ j _ _ (0, 0) h.ir]
  simp [hj]
theorem fb_zg (h : FB n w W pb gi gg ins gone) (j : Nat) : W.frozen? ⟨gg, j, none⟩ = false := frz h.gr j
theorem fb_zi (h : FB n w W pb gi gg ins gone) (j : Nat) : W.frozen? ⟨gi, j, none⟩ = false := frz h.ir j
theorem fb_mk (h1 : W.heap[pb]? = some (.cells #[.slice (some ⟨gi, 0, none⟩) (n + 1) (n + 1), .slice (some ⟨gg, 0, none⟩) n n] 57)) (h2 : W.heap[gi]? = some (.cells (Array.replicate (n + 1) (Value.string ⟨#[]⟩)) 9)) (h3 : W.heap[gg]? = some (.cells (Array.replicate n (Value.bool false)) 4)) (a : w.heap.size ≤ pb) (b : w.heap.size ≤ gi) (c : w.heap.size ≤ gg) (hb : Below w.heap.size w W) :
    FB n w W pb gi gg (List.replicate (n + 1) ⟨#[]⟩) (List.replicate n false) := ⟨h1, by rw [h2]; simp, by rw [h3]; simp, a, b, c, hb⟩
end

/-- At v lie marks; what a mark of the base has for a point may be anything. -/
def RdB (w : World) (v : Value) (l : List (Nat ⊕ Int)) : Prop :=
  ∃ ao cp, v = .slice ao l.length cp ∧ ∀ (i : Nat) (m : Nat ⊕ Int), l[i]? = some m → ∃ b off x, ao = some ⟨b, off, none⟩ ∧ b < w.heap.size ∧ w.cell? ⟨b, off + i * 2, none⟩ = some (.int .i64 (mF m)) ∧ w.cell? ⟨b, off + i * 2 + 1, none⟩ = some (.int .i64 x) ∧ ∀ z, m = .inr z → x = z
theorem RdM.b {w : World} {v : Value} {l : List (Nat ⊕ Int)} (h : RdM w v l) : RdB w v l := by
  obtain ⟨ao, cp, e, h1⟩ := h
  refine ⟨ao, cp, e, fun i m hi => ?_⟩
  obtain ⟨b, off, e1, hl, c0, c1⟩ := h1 i m hi
  exact ⟨b, off, _, e1, hl, c0, c1, fun z hz => by subst hz; rfl⟩

set_option maxRecDepth 20000 in
set_option maxHeartbeats 4000000 in
theorem rbuilt_any (n : Nat) (v : Value) (W0 : List U) (w : World) (hM : RdB w v (mkU 0 W0)) (hb : baseU W0 = n) (hn : n ≤ 1000) (hl : (mkU 0 W0).length ≤ 1000) (hp : PtsU W0) :
    Calls Try.prog 28 #[.int .i64 (n : Int), v] w fun e w' => ∃ u, e = .returned u ∧ w'.ownsRow w.heap.size 50 3 u (nfU W0).length (ocs ((nfU W0).map PS.op)) ∧ Below w.heap.size w w' := by
  have hri := ris_mk n W0 0 (by omega) hp
  have HNF : Hid (∀ ins gone, baseU (formW ins gone) = n ∧ mkU 0 (formW ins gone) = mkU 0 W0 → nfU (formW ins gone) = nfU W0) := fun ins gone h => nf_of_marks (h.1.trans hb.symm) h.2
  clear hp hb
  generalize nfU W0 = N at *
  generalize mkU 0 W0 = M at *
  obtain ⟨mo, mc, rfl, hmc⟩ := hM
  have hn1 : (n : Int) ≤ 1000 := by omega
  have hmk1 := make_str (n + 1) (by omega)
  have hmk2 := make_boo n (by omega)
  have e1 : ((n + 1 : Nat) : Int) = (n : Int) + 1 := by omega
  rw [e1] at hmk1
  clear e1
  go_enter Try.func28, Try.ntmps28
  go_upto_region 1 with fail
  go_cut [5] (fun p wx => ∃ pb gi gg, p = .pointer (some ⟨pb, 0, none⟩) ∧ FB n w wx pb gi gg (List.replicate (n + 1) ⟨#[]⟩) (List.replicate n false))
  case first =>
    go_region
    all_goals
      go_wp2_with fail
      go_meet
    all_goals first
      | exact ⟨w.heap.size, w.heap.size + 1, w.heap.size + 1 + 1, rfl, fb_mk (al0 w _ _ _) (al1 w _ _ _) (al2 w _ _ _) (by omega) (by omega) (by omega) (alb w _ _ _)⟩
      | exact ⟨w.heap.size, w.heap.size + 1 + 1, w.heap.size + 1, rfl, fb_mk (al0 w _ _ _) (al2 w _ _ _) (al1 w _ _ _) (by omega) (by omega) (by omega) (alb w _ _ _)⟩
      | exact ⟨w.heap.size + 1, w.heap.size, w.heap.size + 1 + 1, rfl, fb_mk (al1 w _ _ _) (al0 w _ _ _) (al2 w _ _ _) (by omega) (by omega) (by omega) (alb w _ _ _)⟩
      | exact ⟨w.heap.size + 1, w.heap.size + 1 + 1, w.heap.size, rfl, fb_mk (al1 w _ _ _) (al2 w _ _ _) (al0 w _ _ _) (by omega) (by omega) (by omega) (alb w _ _ _)⟩
      | exact ⟨w.heap.size + 1 + 1, w.heap.size, w.heap.size + 1, rfl, fb_mk (al2 w _ _ _) (al0 w _ _ _) (al1 w _ _ _) (by omega) (by omega) (by omega) (alb w _ _ _)⟩
      | exact ⟨w.heap.size + 1 + 1, w.heap.size + 1, w.heap.size, rfl, fb_mk (al2 w _ _ _) (al1 w _ _ _) (al0 w _ _ _) (by omega) (by omega) (by omega) (alb w _ _ _)⟩
  case rest =>
    obtain ⟨pb, gi, gg, rfl, hF⟩ := hcut
    clear hmk1 hmk2
    go_wp2_with fail
    go_loopw [6] (fun i wr => ∃ k : Nat, k ≤ n ∧ i = .int .i64 (k : Int) ∧ FB n w wr pb gi gg (List.replicate (n + 1) ⟨#[]⟩) (setT (List.replicate n false) 0 k)) (fun i _ => n - (intOf i).toNat)
    case atStart => exact ⟨0, by omega, rfl, hF⟩
    case round =>
      obtain ⟨k, hk, rfl, hF1⟩ := hrel
      clear hF
      by_cases hlt : k < n
      · have hlt' : (k : Int) < (n : Int) := by omega
        have q1 := fb_c1 hF1
        have cg := fb_cg hF1 k (by rw [setT_len]; simpa using hlt)
        have zg := fb_zg hF1 k
        have R2 := hF1.setG k true
        have HS : Hid (setT (List.replicate n false) 0 (k + 1) = (setT (List.replicate n false) 0 k).set k true) := by show _ = _; rw [setT, Nat.zero_add]
        clear hF1 hmc
        go_wp2_with fail
        go_roundw
        case rel => exact ⟨k + 1, by omega, by go_num, by rw [HS.out]; exact R2⟩
        case measure => simp [intOf]; omega
      · obtain rfl : k = n := by omega
        have hlg : (setT (List.replicate k false) 0 k).length = k := by rw [setT_len]; simp
        have htt : ∀ j, j < k → (setT (List.replicate k false) 0 k).getD j false = true := fun j hj => by rw [setT_get _ _ _ _ (by simp), if_pos (by omega)]
        have hBI := bi_start (M := M) _ hlg htt hri
        clear hlg htt hri
        generalize setT (List.replicate k false) 0 k = G0 at *
        generalize List.replicate (k + 1) (⟨#[]⟩ : ByteArray) = I0 at *
        go_wp2_with fail
        go_loopw [7, 8] (fun q i wr => ∃ (j g : Nat) (ins : List ByteArray) (gone : List Bool), j ≤ M.length ∧ i = .int .i64 (j : Int) ∧ q = .int .i64 (g : Int) ∧ FB k w wr pb gi gg ins gone ∧ BI M k j g ins gone) (fun _ i _ => M.length - (intOf i).toNat)
        case atStart => exact ⟨0, 0, _, _, by omega, rfl, rfl, hF1, hBI⟩
        case round =>
          obtain ⟨j, g, ins, gone, hj, rfl, rfl, hF2, hB2⟩ := hrel
          clear hF1 hBI
          by_cases hjm : j < M.length
          · have hjm' : (j : Int) < (M.length : Int) := by omega
            have hMj : M[j]? = some M[j] := List.getElem?_eq_getElem hjm
            obtain ⟨b, off, x, rfl, hbb, e0, e1, hxz⟩ := hmc j _ hMj
            have hBc : ∀ {W : World} o, Below w.heap.size w W → W.cell? ⟨b, o, none⟩ = w.cell? ⟨b, o, none⟩ := fun o h => h.cell (p := ⟨b, o, none⟩) hbb
            have c0 := (hBc _ hF2.bel).trans e0
            have c1 := (hBc _ hF2.bel).trans e1
            clear hmc
            cases hmj : M[j] with
            | inl p =>
              rw [hmj] at hMj c0 e0
              clear hxz
              obtain ⟨⟨r1, r2⟩, hB3⟩ := bi_inl hB2 hMj
              simp only [mF] at c0 e0
              have q1 := fb_c1 hF2
              have hlg := hB2.lg
              have cg := fb_cg hF2 p (by omega)
              have zg := fb_zg hF2 p
              have R2 := (hF2.drew).setG p false
              have pi : (p : Int) < (k : Int) := by omega
              have p0 : (0 : Int) ≤ (p : Int) := by omega
              have d0 : (wr.setCell ⟨gg, p, none⟩ (.bool false)).cell? ⟨b, off + j * 2, none⟩ = some (.int .i64 (p : Int)) := (hBc (off + j * 2) (hF2.setG p false).bel).trans e0
              clear hF2 hB2 hMj hmj hlg hBc e0 e1 r1 r2
              go_wp2_with fail
              refine region_tailR 8 Try.mixedR (by kernel_rfl) ?_
              simp only [List.take_succ_cons, List.take_zero, List.drop_succ_cons, List.drop_zero]
              iterate 8 still_step
              refine wpStill_nil ?_
              go_wp2_with fail
              go_roundw
              case rel => exact ⟨j + 1, p + 1, ins, _, by omega, by go_num, by go_num, R2, hB3⟩
              case measure => simp [intOf]; omega
            | inr z =>
              rw [hmj] at hMj c0 e0
              have hx := hxz z hmj
              rw [hx] at c1 e1
              clear hxz hx
              obtain ⟨hz, hB3⟩ := bi_inr hB2 hMj
              simp only [mF] at c0 e0
              have hX := fun (W : World) => refText_any (.slice (some ⟨W.heap.size, 0, none⟩) 1 1) [z] (W.alloc (.cells #[.int .i64 z] 3)) (by show 1 ≤ 17592186044416; omega) (.inr ⟨_, 0, 1, rfl, fun i hi => by
                have : i = 0 := by simpa using hi
                subst this
                exact cell_of_row _ _ 0 _ _ (0, 0) (heap_alloc_new W _)⟩)
              have hXe : textR [z] = (mk (enc [z]), true) := by rw [textR, if_pos (by simpa using hz)]
              rw [hXe] at hX
              have hT4 : (mk (enc [z])).size ≤ 4 := by have := enc_len [z]; rw [mk_size]; simpa using this
              clear hXe hz hMj hmj
              have hli := hB2.li
              have hga := hB2.ga
              have hgn : g < ins.length := by omega
              have hvg := (hB2.v (ins.getD g ⟨#[]⟩) (by simp [hgn])).2
              have d1 := data_len (ins.getD g ⟨#[]⟩)
              have d2 := data_len (mk (enc [z]))
              have ha := fun W => pk.add_mk (ins.getD g ⟨#[]⟩).data.toList (mk (enc [z])).data.toList W (by omega)
              rw [mk_data, mk_data] at ha
              have hF3 := hF2.below (grow1 _ (.cells #[.int .i64 z] 3))
              have g1 : (g : Int) < (k : Int) + 1 := by omega
              have g2 : (0 : Int) ≤ (g : Int) := by omega
              have hwg : IntKind.i64.wrap (g : Int) = (g : Int) := wraps_i64 _ (by omega) (by omega)
              clear hF2 hB2 hvg d1 d2 hT4 hBc e0 e1 hli hga
              generalize mk (enc [z]) = t at *
              go_wp2_with fail
              refine (hX _).mono ?_
              rintro e w3 ⟨rfl, hb3⟩
              have hF4 := hF3.below hb3
              have RM := (hF4.drew).setI g (mk ((ins.getD g ⟨#[]⟩).data.toList ++ t.data.toList))
              have ci := fb_ci hF4 g hgn
              have zi := fb_zi hF4 g
              have q0 := fb_c0 hF4
              clear hX hF3 hF4 hb3 hgn c0 c1
              generalize mk ((ins.getD g ⟨#[]⟩).data.toList ++ t.data.toList) = T at *
              generalize ins.getD g ⟨#[]⟩ = S at *
              go_wp2_with fail
              refine region_tailR 11 Try.mixedR (by kernel_rfl) ?_
              simp only [List.take_succ_cons, List.take_zero, List.drop_succ_cons, List.drop_zero]
              iterate 11 still_step
              refine wpStill_nil ?_
              go_wp2_with fail
              go_roundw
              case rel => exact ⟨j + 1, g, _, gone, by omega, by go_num, rfl, RM, hB3⟩
              case measure => simp [intOf]; omega
          · obtain rfl : j = M.length := by omega
            have hen := bi_end hB2
            have hne := HNF.out ins gone hen
            have hli := hB2.li
            have hlg := hB2.lg
            have hBt := fun W h1 h2 => built_any (.slice (some ⟨gi, 0, none⟩) (k + 1) (k + 1)) (.slice (some ⟨gg, 0, none⟩) k k) ins gone W h1 h2 (by omega) (by omega) (fun t ht => ⟨(hB2.v t ht).1, by have := (hB2.v t ht).2; omega⟩)
            rw [hne] at hBt
            have q0 := fb_c0 hF2
            have q1 := fb_c1 hF2
            have y1 := rdv_row (c := k + 1) (m := k + 1) hF2.ir (by rw [List.length_map]; exact hli)
            have y2 := rdv_row (c := k) (m := k) hF2.gr (by rw [List.length_map]; exact hlg)
            have B2 := hF2.bel
            clear hen hne hB2 hF2 hmc hli hlg
            go_wp2_with fail
            refine (hBt _ y1 y2).mono ?_
            rintro e w3 ⟨u3, rfl, ho3, hb3⟩
            go_wp2_with fail
            go_ret
            exact ⟨_, rfl, own_lower ho3 B2.size, chain B2 hb3⟩
end Go.Proofs.Ytphbjbigjpfjfaa

/-
  The contract of the reference's Compose; what it gives is what Compose gives.
-/
namespace Go.Proofs.Ytphbjbigjpfjfaa
open Go.ChangeShapes Go.WideShapes Go.ChangeAt Go.RowKit Go.PlainAid

/-- Compose's answer as the normal form of a's word and then b's. -/
theorem coR_nf {A B : List OpD} (iA : ∀ o ∈ A, o.In) (iB : ∀ o ∈ B, o.In) (c1 : chk A = 0) (c2 : chk B = 0) (ct : tsum (stR A) = bsum (stR B)) :
    (coR A B).2 = 0 ∧ (coR A B).1 = (nfU (cmp (uw (stR A)) (uw (stR B)))).map PS.op := by
  obtain ⟨k1, k2, k3, k4, k5⟩ := coR_ok iA iB c1 c2 ct
  have hok : ∀ s ∈ stR ((cpW A B).map uop), s.Ok := stR_ok (fun o ho => by obtain ⟨u, _, rfl⟩ := List.mem_map.1 ho; exact uop_in u)
  have bdA := stR_bd A
  have bdB := stR_bd B
  obtain ⟨_, _, n3, _, n5⟩ := normal_facts (stR_ok iA) bdA.1 bdA.2
  obtain ⟨_, _, m3, m4, _⟩ := normal_facts (stR_ok iB) bdB.1 bdB.2
  have he : Eqv (cpW A B) (cmp (uw (stR A)) (uw (stR B))) := cmp_eqv n3 m3 (by rw [tgt_uw, base_uw, n5, m4, ct])
  refine ⟨k1, ?_⟩
  rw [k2, jn_eq hok, k3, nf_of_marks he.1 (he.2 0)]

set_option maxRecDepth 20000 in
set_option maxHeartbeats 3000000 in
theorem rcompose_any (vA vB : Value) (A B : List OpD) (w : World) (hA : RdD w vA A) (hB : RdD w vB B) (mA : A.length ≤ maxLen) (mB : B.length ≤ maxLen) (iA : ∀ o ∈ A, o.Sm) (iB : ∀ o ∈ B, o.Sm) :
    Calls Try.prog 11 #[vA, vB] w fun e w' => ∃ u, e = .returned (.tuple #[u, .int .i64 (coR A B).2]) ∧ w'.ownsRow w.heap.size 50 3 u (coR A B).1.length (ocs (coR A B).1) ∧ Below w.heap.size w w' := by
  obtain ⟨i0, hin, hz0, hz1, hz2⟩ := info_parts Try.infoMk
  have cK := rchecks_any vA vB A B w hA hB mA mB iA iB
  have jA : ∀ o ∈ A, o.In := fun o ho => sm_in (iA o ho)
  have jB : ∀ o ∈ B, o.In := fun o ho => sm_in (iB o ho)
  by_cases c : chk A = 0 ∧ chk B = 0
  · obtain ⟨c1, c2⟩ := c
    rw [if_pos c1, c2] at cK
    have cT := fun W h => refTarget_any vA A W h mA iA
    have cB := fun W h => refBase_any vB B W h mB iB
    have cB2 := fun W h => refBase_any vA A W h mA iA
    rw [c1] at cT cB2
    rw [c2] at cB
    have bdA := stR_bd A
    have bdB := stR_bd B
    by_cases ct : tsum (stR A) = bsum (stR B)
    · have ct' : ((tsum (stR A) : Int) != (bsum (stR B) : Int)) = false := by simp [ct]
      obtain ⟨r1, r2⟩ := coR_nf jA jB c1 c2 ct
      have cMA := fun W h => rmarks_any vA A W h iA c1
      have cMB := fun W h => rmarks_any vB B W h iB c2
      have htw : tgtU (uw (stR A)) = baseU (uw (stR B)) := by rw [tgt_uw, base_uw, ct]
      have hbase : baseU (cmp (uw (stR A)) (uw (stR B))) = bsum (stR A) := by rw [cmp_base _ _ htw, base_uw]
      have hpts : PtsU (cmp (uw (stR A)) (uw (stR B))) := pts_cmp _ _ (ptsU_uw (stR_ok jA)) (ptsU_uw (stR_ok jB))
      have hmk : mkU 0 (cmp (uw (stR A)) (uw (stR B))) = (mkU 0 (uw (stR B))).map (sub (mkU 0 (uw (stR A)))) := cmp_marks _ _ 0 htw
      have hlm : (mkU 0 (cmp (uw (stR A)) (uw (stR B)))).length ≤ 1000 := by rw [tgt_marks, cmp_tgt _ _ htw, tgt_uw]; omega
      have cF := fun u W h => rbuilt_any (bsum (stR A)) u (cmp (uw (stR A)) (uw (stR B))) W h hbase bdA.1 hlm hpts
      rw [hmk] at cF
      have lA : (mkU 0 (uw (stR A))).length = baseU (uw (stR B)) := by rw [tgt_marks, htw]
      have lB : (mkU 0 (uw (stR B))).length ≤ 1000 := by rw [tgt_marks, tgt_uw]; omega
      have hlt := marks_lt (uw (stR B)) 0
      rw [r1, r2]
      have HLEN : Hid (((nfU (cmp (uw (stR A)) (uw (stR B)))).map PS.op).length = (nfU (cmp (uw (stR A)) (uw (stR B)))).length) := List.length_map ..
      clear r1 r2 c1 c2 hbase hpts hmk hlm htw ct bdA bdB jA jB
      generalize baseU (uw (stR B)) = nb at *
      generalize mkU 0 (uw (stR A)) = MA at *
      generalize mkU 0 (uw (stR B)) = MB at *
      generalize nfU (cmp (uw (stR A)) (uw (stR B))) = N at *
      generalize bsum (stR A) = nA at *
      generalize tsum (stR A) = tA at *
      generalize bsum (stR B) = nB at *
      go_enter Try.func11, Try.ntmps11
      go_wp2_with fail
      refine cK.mono ?_
      rintro e w1 ⟨rfl, hb1⟩
      go_wp2_with fail
      refine (cT _ (hA.below hb1)).mono ?_
      rintro e w2 ⟨rfl, hb2⟩
      have B2 := chain hb1 hb2
      go_wp2_with fail
      refine (cB _ (hB.below B2)).mono ?_
      rintro e w3 ⟨rfl, hb3⟩
      have B3 := chain B2 hb3
      go_wp2_with fail
      refine (cMA _ (hA.below B3)).mono ?_
      rintro e w4 ⟨uM, rfl, ho4, hb4⟩
      have B4 := chain B3 hb4
      go_wp2_with fail
      refine (cMB _ (hB.below B4)).mono ?_
      rintro e w5 ⟨uE, rfl, ho5, hb5⟩
      have B5 := chain B4 hb5
      have rM := (rdm_own ho4).below hb5
      have rE := rdm_own ho5
      clear cK cT cB cMA cMB hb1 hb2 hb3 hb4 hb5 B2 B3 B4 ho4 ho5
      obtain ⟨mo, mc, rfl, hmc⟩ := rM
      obtain ⟨eo, ec, rfl, hec⟩ := rE
      go_wp2_with fail
      go_loopw [13, 14] (fun d i wr => ∃ k : Nat, k ≤ MB.length ∧ i = .int .i64 (k : Int) ∧ wr.ownsRow w5.heap.size 47 2 d ((MB.take k).map (sub MA)).length (mcs ((MB.take k).map (sub MA))) ∧ Below w5.heap.size w5 wr) (fun _ i _ => MB.length - (intOf i).toNat)
      case atStart => exact ⟨0, by omega, rfl, World.ownsRow_nil _ _ _ _, Below.refl _ _⟩
      case round =>
        obtain ⟨k, hk, rfl, hown, hbl⟩ := hrel
        have hsz := hbl.size
        by_cases hkm : k < MB.length
        · have hkm' : (k : Int) < (MB.length : Int) := by omega
          have hMk : MB[k]? = some MB[k] := List.getElem?_eq_getElem hkm
          obtain ⟨b, off, rfl, hbb, e0, e1⟩ := hec k _ hMk
          have c0 := (hbl.cell (p := ⟨b, off + k * 2, none⟩) hbb).trans e0
          have c1 := (hbl.cell (p := ⟨b, off + k * 2 + 1, none⟩) hbb).trans e1
          have HS : Hid ((MB.take (k + 1)).map (sub MA) = (MB.take k).map (sub MA) ++ [sub MA MB[k]]) := by
            show _ = _
            rw [List.take_add_one, hMk, List.map_append]; rfl
          have hll : ((MB.take k).map (sub MA)).length ≤ 1000 := by rw [List.length_map, List.length_take]; omega
          have hmem : MB[k] ∈ MB := List.getElem_mem hkm
          clear hec e0 e1
          generalize (MB.take k).map (sub MA) = L at *
          obtain ⟨ao5, cp5, rfl⟩ := own_form hown
          cases hmk : MB[k] with
          | inl p =>
            rw [hmk] at c0 c1 HS hmem
            have hp := hlt p hmem
            have hpl : p < MA.length := by omega
            have hpM : MA[p]? = some MA[p] := List.getElem?_eq_getElem hpl
            obtain ⟨b2, off2, rfl, hbb2, f0, f1⟩ := hmc p _ hpM
            have g0 := (hbl.cell (p := ⟨b2, off2 + p * 2, none⟩) hbb2).trans f0
            have g1 := (hbl.cell (p := ⟨b2, off2 + p * 2 + 1, none⟩) hbb2).trans f1
            have hsb : sub MA (.inl p) = MA[p] := by simp [sub, hpl]
            rw [hsb] at HS
            simp only [mF, mP] at c0 c1
            have hp' : (p : Int) < (MA.length : Int) := by omega
            have hp0 : (0 : Int) ≤ (p : Int) := by omega
            clear hmc f0 f1 hsb hpM hmem hlt hMk hmk
            generalize MA[p] = mm at *
            obtain ⟨fa, hfa⟩ : ∃ fa, fa = mF mm := ⟨_, rfl⟩
            obtain ⟨fb, hfb⟩ : ∃ fb, fb = mP mm := ⟨_, rfl⟩
            rw [← hfa] at g0
            rw [← hfb] at g1
            have HF : Hid (fa = mF mm ∧ fb = mP mm) := ⟨hfa, hfb⟩
            clear hfa hfb
            go_wp2_with (at_builtin; refine wpList_append_lies _ rfl (.tmp 52) (.tmp 61) 44 rfl w5.heap.size 47 i0 (.agg #[.int .i64 0, .int .i64 0]) 2 16 Try.underlying44 hin hz0 hz1 hz2 rfl (by decide) (.slice ao5 L.length cp5) L.length (mcs L) rfl (hown.alloc _) ⟨_, 0, none⟩ 1 1 [.int .i64 fa, .int .i64 fb] rfl rfl (many_new _ _ _) (two_one _ _) (by decide) (by unfold maxLen; omega) (by omega) (by simp; omega) _ rfl ?_; intro g4 c4 w6 ho6 hg6 _ _)
            have R4 := own_mark (m := mm) ho6 rfl HF.out.1 HF.out.2
            have B6 : Below w5.heap.size w5 w6 := (hbl.alloc hsz _).grown hg6 (by simp; omega) (fun k hk => (hown.lt k hk).1)
            go_roundw
            case rel => exact ⟨k + 1, by omega, by go_num, by rw [HS.out]; exact R4, B6⟩
            case measure => simp [intOf]; omega
          | inr z =>
            rw [hmk] at c0 c1 HS
            have hsb : sub MA (.inr z) = .inr z := rfl
            rw [hsb] at HS
            simp only [mF, mP] at c0 c1
            clear hmc hsb hmem hlt hMk hmk
            go_wp2_with (at_builtin; refine wpList_append_lies _ rfl (.tmp 63) (.tmp 68) 44 rfl w5.heap.size 47 i0 (.agg #[.int .i64 0, .int .i64 0]) 2 16 Try.underlying44 hin hz0 hz1 hz2 rfl (by decide) (.slice ao5 L.length cp5) L.length (mcs L) rfl (hown.alloc _) ⟨_, 0, none⟩ 1 1 [.int .i64 (-1), .int .i64 z] rfl rfl (many_new _ _ _) (two_one _ _) (by decide) (by unfold maxLen; omega) (by omega) (by simp; omega) _ rfl ?_; intro g4 c4 w6 ho6 hg6 _ _)
            have R4 := own_mark (m := .inr z) ho6 rfl rfl rfl
            have B6 : Below w5.heap.size w5 w6 := (hbl.alloc hsz _).grown hg6 (by simp; omega) (fun k hk => (hown.lt k hk).1)
            go_roundw
            case rel => exact ⟨k + 1, by omega, by go_num, by rw [HS.out]; exact R4, B6⟩
            case measure => simp [intOf]; omega
        · obtain rfl : k = MB.length := by omega
          rw [List.take_length] at hown
          have rL := rdm_own hown
          have B6 := chain B5 hbl
          clear hec hmc hlt
          go_wp2_with fail
          refine (cB2 _ (hA.below B6)).mono ?_
          rintro e w7 ⟨rfl, hb7⟩
          have B7 := chain B6 hb7
          go_wp2_with fail
          refine (cF _ _ (rL.below hb7).b).mono ?_
          rintro e w8 ⟨u8, rfl, ho8, hb8⟩
          go_wp2_with fail
          go_ret2
          exact ⟨_, rfl, by rw [HLEN.out]; exact own_lower ho8 B7.size, chain B7 hb8⟩
    · have ct' : ((tsum (stR A) : Int) != (bsum (stR B) : Int)) = true := by simp; omega
      have e0 : coR A B = ([], 91) := by rw [coR, if_pos c1, if_pos c2, if_neg ct]
      rw [e0]
      clear e0 c1 c2 ct bdA bdB jA jB
      generalize tsum (stR A) = tA at *
      generalize bsum (stR B) = nB at *
      generalize bsum (stR A) = nA at *
      go_enter Try.func11, Try.ntmps11
      go_wp2_with fail
      refine cK.mono ?_
      rintro e w1 ⟨rfl, hb1⟩
      go_wp2_with fail
      refine (cT _ (hA.below hb1)).mono ?_
      rintro e w2 ⟨rfl, hb2⟩
      have B2 := chain hb1 hb2
      go_wp2_with fail
      refine (cB _ (hB.below B2)).mono ?_
      rintro e w3 ⟨rfl, hb3⟩
      go_wp2_with fail
      go_ret2
      exact ⟨_, rfl, World.ownsRow_nil _ _ _ _, chain B2 hb3⟩
  · have hco : coR A B = ([], if chk A = 0 then chk B else chk A) := by
      rw [coR]
      by_cases h1 : chk A = 0
      · rw [if_pos h1, if_neg (fun h => c ⟨h1, h⟩), if_pos h1]
      · rw [if_neg h1, if_neg h1]
    have hne : ((if chk A = 0 then chk B else chk A) != 0) = true := by
      split
      · rename_i h1; simp; exact fun h => c ⟨h1, h⟩
      · rename_i h1; simpa using h1
    rw [hco]
    generalize (if chk A = 0 then chk B else chk A) = er at *
    clear hco
    go_enter Try.func11, Try.ntmps11
    go_wp2_with fail
    refine cK.mono ?_
    rintro e w1 ⟨rfl, hb1⟩
    go_wp2_with fail
    go_ret2
    exact ⟨_, rfl, World.ownsRow_nil _ _ _ _, hb1⟩
end Go.Proofs.Ytphbjbigjpfjfaa
