/-
  Forms that put in only where a gap begins; the contract of the reference's Formed, once more.
-/
import Derived.Test.YtphbjbigjpfjfaaDrIDrJ
namespace Go.Proofs.Ytphbjbigjpfjfaa
open Go.ChangeShapes Go.WideShapes Go.ChangeAt Go.RowKit Go.PlainAid

/-- What Formed has on its way: what is put in stands where a gap begins. -/
structure FC (l : List St) (n k g : Nat) (ins : List ByteArray) (gone : List Bool) : Prop where
  fi : FI l n k g ins gone
  c : ∀ j, gone.getD j false = true → ins.getD (j + 1) ⟨#[]⟩ = ⟨#[]⟩
  gz : ∀ j, g = j + 1 → gone.getD j false = false
theorem fc_start (l : List St) (n : Nat) : FC l n 0 0 (List.replicate (n + 1) ⟨#[]⟩) (List.replicate n false) := by
  refine ⟨fi_start l n, fun j h => ?_, fun j h => by omega⟩
  by_cases hj : j < n <;> simp [List.getD, hj] at h
theorem fc_keep {l : List St} {n k g m : Nat} {ins : List ByteArray} {gone : List Bool} (h : FC l n k g ins gone) (hk : k < l.length) (hs : l[k] = .keep m) (hm : 0 < m) : FC l n (k + 1) (bsum (l.take k) + m) ins gone :=
  ⟨fi_keep h.fi hk hs, h.c, fun j hj => h.fi.f j (by omega)⟩
theorem fc_rem {l : List St} {n k g m : Nat} {ins : List ByteArray} {gone gone' : List Bool} (h : FC l n k g ins gone) (hk : k < l.length) (hs : l[k] = .rem m) (hl : gone'.length = n)
    (h1 : ∀ j, j < bsum (l.take k) → gone'.getD j false = gone.getD j false) (h2 : ∀ j, bsum (l.take k) ≤ j → j < bsum (l.take k) + m → gone'.getD j false = true) (h3 : ∀ j, bsum (l.take k) + m ≤ j → gone'.getD j false = gone.getD j false) : FC l n (k + 1) g ins gone' := by
  have hga := h.fi.ga
  refine ⟨fi_rem h.fi hk hs hl h1 h2 h3, fun j hj => ?_, fun j hj => ?_⟩
  · by_cases c1 : j < bsum (l.take k)
    · rw [h1 j c1] at hj; exact h.c j hj
    · exact h.fi.e (j + 1) (by omega)
  · rw [h1 j (by omega)]; exact h.gz j hj
theorem fc_ins {l : List St} {n k g : Nat} {t : ByteArray} {ins : List ByteArray} {gone : List Bool} (h : FC l n k g ins gone) (hk : k < l.length) (hs : l[k] = .ins t) (ho : (St.ins t).Ok) (hgn : g ≤ n) :
    FC l n (k + 1) g (ins.set g (mk ((ins.getD g ⟨#[]⟩).data.toList ++ t.data.toList))) gone := by
  refine ⟨fi_ins h.fi hk hs ho hgn, fun j hj => ?_, h.gz⟩
  by_cases e : g = j + 1
  · rw [h.gz j e] at hj; cases hj
  · rw [List.getD_eq_getElem?_getD, List.getElem?_set_ne e, ← List.getD_eq_getElem?_getD]
    exact h.c j hj

set_option maxRecDepth 20000 in
set_option maxHeartbeats 2000000 in
theorem formed2_any (v : Value) (ds : List OpD) (w : World) (hr : RdD w v ds) (hm : ds.length ≤ maxLen) (hi : ∀ o ∈ ds, o.Sm) (hc0 : chk ds = 0) :
    Calls Try.prog 32 #[v] w fun e w' => ∃ vi vg ins gone g, e = .returned (.agg #[vi, vg]) ∧ RdV w' vi (ins.map Value.string) ∧ RdV w' vg (gone.map Value.bool) ∧ FC (stR ds) (bsum (stR ds)) (stR ds).length g ins gone ∧ Below w.heap.size w w' := by
  have hB := fun W h => refBase_any v ds W h hm hi
  have hbd := stR_bd ds
  have hln := stR_len ds
  have hds := stR_op hc0
  have hok := stR_ok (fun o ho => sm_in (hi o ho))
  rw [hc0] at hB
  generalize stR ds = l at *
  obtain ⟨n, hn⟩ : ∃ n, bsum l = n := ⟨_, rfl⟩
  rw [hn] at hB hbd ⊢
  have hn1 : (n : Int) ≤ 1000 := by omega
  have hr0 := hr
  subst hds
  obtain ⟨ao, cp, rfl, _, hc⟩ := hr
  rw [List.length_map] at *
  have hmk1 := make_str (n + 1) (by omega)
  have hmk2 := make_boo n (by omega)
  have e1 : ((n + 1 : Nat) : Int) = (n : Int) + 1 := by omega
  rw [e1] at hmk1
  clear hi hc0 e1
  go_enter Try.func32, Try.ntmps32
  go_wp2_with fail
  refine (hB _ (hr0.below ((Below.refl _ w).alloc (Nat.le_refl _) _))).mono ?_
  rintro e w1 ⟨rfl, hb1⟩
  have hrs : w1.heap[w.heap.size]? = some (.cells #[.slice none 0 0, .slice none 0 0] 57) := (hb1.block w.heap.size (by simp)).trans (heap_alloc_new w _)
  have hB1 : Below w.heap.size w w1 := ((Below.refl _ w).alloc (Nat.le_refl _) _).trans (hb1.mono (by simp))
  have hs1 : w.heap.size + 1 ≤ w1.heap.size := by have := hb1.size; simpa using this
  clear hb1 hB hr0
  go_upto_region 2 with fail
  go_cut [5] (fun p wx => ∃ pb gi gg, p = .pointer (some ⟨pb, 0, none⟩) ∧ FM n w wx w.heap.size pb gi gg (List.replicate (n + 1) ⟨#[]⟩) (List.replicate n false))
  case first =>
    go_region
    all_goals
      go_wp2_with fail
      go_meet
    all_goals first
      | exact ⟨w1.heap.size, w1.heap.size + 1, w1.heap.size + 1 + 1, rfl, fm_mk (al0 w1 _ _ _) (al1 w1 _ _ _) (al2 w1 _ _ _) ((alr w1 _ _ _ _ (by omega)).trans hrs) (by omega) (by omega) (by omega) (by omega) (Nat.le_refl _) (hB1.trans ((alb w1 _ _ _).mono (by omega)))⟩
      | exact ⟨w1.heap.size, w1.heap.size + 1 + 1, w1.heap.size + 1, rfl, fm_mk (al0 w1 _ _ _) (al2 w1 _ _ _) (al1 w1 _ _ _) ((alr w1 _ _ _ _ (by omega)).trans hrs) (by omega) (by omega) (by omega) (by omega) (Nat.le_refl _) (hB1.trans ((alb w1 _ _ _).mono (by omega)))⟩
      | exact ⟨w1.heap.size + 1, w1.heap.size, w1.heap.size + 1 + 1, rfl, fm_mk (al1 w1 _ _ _) (al0 w1 _ _ _) (al2 w1 _ _ _) ((alr w1 _ _ _ _ (by omega)).trans hrs) (by omega) (by omega) (by omega) (by omega) (Nat.le_refl _) (hB1.trans ((alb w1 _ _ _).mono (by omega)))⟩
      | exact ⟨w1.heap.size + 1, w1.heap.size + 1 + 1, w1.heap.size, rfl, fm_mk (al1 w1 _ _ _) (al2 w1 _ _ _) (al0 w1 _ _ _) ((alr w1 _ _ _ _ (by omega)).trans hrs) (by omega) (by omega) (by omega) (by omega) (Nat.le_refl _) (hB1.trans ((alb w1 _ _ _).mono (by omega)))⟩
      | exact ⟨w1.heap.size + 1 + 1, w1.heap.size, w1.heap.size + 1, rfl, fm_mk (al2 w1 _ _ _) (al0 w1 _ _ _) (al1 w1 _ _ _) ((alr w1 _ _ _ _ (by omega)).trans hrs) (by omega) (by omega) (by omega) (by omega) (Nat.le_refl _) (hB1.trans ((alb w1 _ _ _).mono (by omega)))⟩
      | exact ⟨w1.heap.size + 1 + 1, w1.heap.size + 1, w1.heap.size, rfl, fm_mk (al2 w1 _ _ _) (al1 w1 _ _ _) (al0 w1 _ _ _) ((alr w1 _ _ _ _ (by omega)).trans hrs) (by omega) (by omega) (by omega) (by omega) (Nat.le_refl _) (hB1.trans ((alb w1 _ _ _).mono (by omega)))⟩
  case rest =>
    obtain ⟨pb, gi, gg, rfl, hF⟩ := hcut
    have hfi := fc_start l n
    clear hmk1 hmk2 hrs hB1 hs1
    go_wp2_with fail
    go_loopw [6, 7, 8] (fun a q i wr => ∃ (k g : Nat) (ins : List ByteArray) (gone : List Bool), k ≤ l.length ∧ i = .int .i64 (k : Int) ∧ a = .int .i64 (bsum (l.take k) : Int) ∧ q = .int .i64 (g : Int) ∧ FM n w wr w.heap.size pb gi gg ins gone ∧ FC l n k g ins gone) (fun _ _ i _ => l.length - (intOf i).toNat)
    case atStart => exact ⟨0, 0, _, _, by omega, rfl, rfl, rfl, hF, hfi⟩
    case round =>
      obtain ⟨k, g, ins, gone, hk, rfl, rfl, rfl, hFM, hFI⟩ := hrel
      clear hF hfi
      have hst := sum_take l k
      have hga := hFI.fi.ga
      have hli := hFI.fi.li
      have hlg := hFI.fi.lg
      by_cases hlt : k < l.length
      · have hlt' : (k : Int) < (l.length : Int) := by omega
        have hsk := hok l[k] (List.getElem_mem hlt)
        have hbt := bsum_take l k hlt
        have hst2 := sum_take l (k + 1)
        obtain ⟨b, off, rfl, hbb, c0, c1, c2⟩ := hc k (l[k]).op (by simp [hlt])
        have hBc : ∀ {W : World} o, Below w.heap.size w W → W.cell? ⟨b, o, none⟩ = w.cell? ⟨b, o, none⟩ := fun o h => h.cell (p := ⟨b, o, none⟩) hbb
        have e0 := c0
        have e1 := c1
        have e2 := c2
        rw [← hBc _ hFM.bel] at c0 c1 c2
        clear hc
        obtain ⟨st, hst0⟩ : ∃ st, st = l[k] := ⟨_, rfl⟩
        rw [← hst0] at hsk hbt c0 c1 c2 e0 e1 e2
        have b1 : (bsum (l.take k) : Int) ≤ 1000 := by omega
        cases st with
        | keep m =>
          simp only [St.op, St.Ok, St.b] at c0 c1 c2 hsk hbt
          have R := fc_keep hFI hlt hst0.symm (by omega)
          have m1 : (m : Int) ≤ 1000 := by omega
          have HB : Hid (bsum (l.take (k + 1)) = bsum (l.take k) + m) := hbt
          clear hFI hst hst2 hbt hst0 e0 e1 e2 hBc hga hli hlg hsk
          generalize bsum (l.take k) = B at *
          go_wp2_with fail
          go_roundw
          case rel => exact ⟨k + 1, B + m, ins, gone, by omega, by go_num, by rw [HB.out]; go_num, by go_num, hFM, R⟩
          case measure => simp [intOf]; omega
        | rem m =>
          simp only [St.op, St.Ok, St.b] at c0 c1 c2 hsk hbt e0 e1 e2
          have R := fc_rem (gone' := setT gone (bsum (l.take k)) m) hFI hlt hst0.symm (by rw [setT_len]; exact hlg) (fun j hj => by rw [setT_get _ _ _ _ (by omega), if_neg (by omega)]) (fun j h1 h2 => by rw [setT_get _ _ _ _ (by omega), if_pos (by omega)]) (fun j hj => by rw [setT_get _ _ _ _ (by omega), if_neg (by omega)])
          have m1 : (m : Int) ≤ 1000 := by omega
          have HB : Hid (bsum (l.take (k + 1)) = bsum (l.take k) + m) := hbt
          have hBn : bsum (l.take k) + m ≤ n := by omega
          clear hFI hst hst2 hbt hst0 hga hli hsk
          generalize bsum (l.take k) = B at *
          go_wp2_with fail
          go_loopw [6, 9] (fun a q w2 => ∃ j : Nat, j ≤ m ∧ q = .int .i64 (j : Int) ∧ a = .int .i64 ((B + j : Nat) : Int) ∧ FM n w w2 w.heap.size pb gi gg ins (setT gone B j)) (fun _ q _ => m - (intOf q).toNat)
          case atStart => exact ⟨0, by omega, rfl, rfl, hFM⟩
          case round =>
            obtain ⟨j, hj, rfl, rfl, hF2⟩ := hrel
            clear hFM c0 c1 c2
            have c1 := (hBc _ hF2.bel).trans e1
            have q1 := fm_c1 hF2
            by_cases hjm : j < m
            · have hjm' : (j : Int) < (m : Int) := by omega
              have cg := fm_cg hF2 (B + j) (by rw [setT_len]; omega)
              have zg := fm_zg hF2 (B + j)
              have R2 := hF2.setG (B + j)
              have e3 : ((B + j : Nat) : Int) = (B : Int) + (j : Int) := by omega
              rw [e3]
              have hi1 : (B : Int) + (j : Int) < (n : Int) := by omega
              have HS : Hid (setT gone B (j + 1) = (setT gone B j).set (B + j) true) := rfl
              clear hF2 hBc e0 e1 e2 e3 R
              go_wp2_with fail
              go_roundw
              case rel => exact ⟨j + 1, by omega, by go_num, by go_num, R2⟩
              case measure => simp [intOf]; omega
            · obtain rfl : j = m := by omega
              have e3 : ((B + j : Nat) : Int) = (B : Int) + (j : Int) := by omega
              clear hBc e0 e1 e2
              go_wp2_with fail
              go_roundw
              case rel => exact ⟨k + 1, g, ins, setT gone B j, by omega, by go_num, by rw [HB.out], rfl, hF2, R⟩
              case measure => simp [intOf]; omega
        | ins t =>
          simp only [St.op, St.Ok, St.b] at c0 c1 c2 hsk hbt
          have R := fc_ins hFI hlt hst0.symm hsk (by omega)
          have hgn : g < ins.length := by omega
          have hvg := (hFI.fi.v (ins.getD g ⟨#[]⟩) (by simp [hgn])).2
          have hts : t.size ≤ 4000 := by
            have h1 := size_cpl hsk.1
            have h2 := tsum_take l k hlt
            rw [← hst0] at h2
            simp only [St.c] at h2
            omega
          have HB : Hid (bsum (l.take (k + 1)) = bsum (l.take k)) := by show _ = _; omega
          have RM := (hFM.drew).setI g (mk ((ins.getD g ⟨#[]⟩).data.toList ++ t.data.toList))
          have ci := fm_ci hFM g hgn
          have zi := fm_zi hFM g
          have q0 := fm_c0 hFM
          have d1 := data_len (ins.getD g ⟨#[]⟩)
          have d2 := data_len t
          have ha := fun W => pk.add_mk (ins.getD g ⟨#[]⟩).data.toList t.data.toList W (by omega)
          rw [mk_data, mk_data] at ha
          have g1 : (g : Int) < (n : Int) + 1 := by omega
          have g2 : (0 : Int) ≤ (g : Int) := by omega
          have hwg : IntKind.i64.wrap (g : Int) = (g : Int) := wraps_i64 _ (by omega) (by omega)
          clear hFI hst hst2 hbt hst0 e0 e1 e2 hBc hga hli hlg hsk hvg hts d1 d2 hgn
          generalize bsum (l.take k) = B at *
          generalize mk ((ins.getD g ⟨#[]⟩).data.toList ++ t.data.toList) = T at *
          generalize ins.getD g ⟨#[]⟩ = S at *
          go_wp2_with fail
          refine region_tailR 15 Try.mixedR (by kernel_rfl) ?_
          simp only [List.take_succ_cons, List.take_zero, List.drop_succ_cons, List.drop_zero]
          iterate 15 still_step
          refine wpStill_nil ?_
          go_wp2_with fail
          go_roundw
          case rel => exact ⟨k + 1, g, _, gone, by omega, by go_num, by rw [HB.out], rfl, RM, R⟩
          case measure => simp [intOf]; omega
      · have e : k = l.length := by omega
        subst e
        have q0 := fm_c0 hFM
        have q1 := fm_c1 hFM
        have r0 := cell_of_row _ _ 0 _ _ (0, 0) hFM.res
        have r1 := cell_of_row _ _ 1 _ _ (0, 0) hFM.res
        have z0 := frz hFM.res 0
        have z1 := frz hFM.res 1
        simp at r0 r1
        clear hc hok
        have x0 := heap_setCell hFM.res 0 (.slice (some ⟨gi, 0, none⟩) (n + 1) (n + 1))
        have x1 := heap_setCell x0 1 (.slice (some ⟨gg, 0, none⟩) n n)
        have n1 := heap_ne hFM.ir hFM.res (by decide)
        have n2 := heap_ne hFM.gr hFM.res (by decide)
        have y1 : ((wr.setCell ⟨w.heap.size, 0, none⟩ (.slice (some ⟨gi, 0, none⟩) (n + 1) (n + 1))).setCell ⟨w.heap.size, 1, none⟩ (.slice (some ⟨gg, 0, none⟩) n n)).heap[gi]? = some (.cells (ins.map Value.string).toArray 9) := by
          rw [Below.heap_setCell _ ⟨w.heap.size, 1, none⟩ _ gi n1, Below.heap_setCell _ ⟨w.heap.size, 0, none⟩ _ gi n1]; exact hFM.ir
        have y2 : ((wr.setCell ⟨w.heap.size, 0, none⟩ (.slice (some ⟨gi, 0, none⟩) (n + 1) (n + 1))).setCell ⟨w.heap.size, 1, none⟩ (.slice (some ⟨gg, 0, none⟩) n n)).heap[gg]? = some (.cells (gone.map Value.bool).toArray 4) := by
          rw [Below.heap_setCell _ ⟨w.heap.size, 1, none⟩ _ gg n2, Below.heap_setCell _ ⟨w.heap.size, 0, none⟩ _ gg n2]; exact hFM.gr
        have y3 : Below w.heap.size w ((wr.setCell ⟨w.heap.size, 0, none⟩ (.slice (some ⟨gi, 0, none⟩) (n + 1) (n + 1))).setCell ⟨w.heap.size, 1, none⟩ (.slice (some ⟨gg, 0, none⟩) n n)) :=
          below_set (below_set hFM.bel (Nat.le_refl _) hFM.bel.size) (Nat.le_refl _) (Nat.le_trans hFM.bel.size (grown_set wr _ 0 _).size)
        have l1 : (ins.map Value.string).length = n + 1 := by rw [List.length_map]; exact hli
        have l2 : (gone.map Value.bool).length = n := by rw [List.length_map]; exact hlg
        have HY : Hid (RdV _ (.slice (some ⟨gi, 0, none⟩) (n + 1) (n + 1)) (ins.map Value.string) ∧ RdV _ (.slice (some ⟨gg, 0, none⟩) n n) (gone.map Value.bool) ∧ Below w.heap.size w _) := ⟨rdv_row y1 l1, rdv_row y2 l2, y3⟩
        clear y1 y2 y3 l1 l2 n1 n2 x0
        go_wp2_with fail
        refine bodyPost_ret (results_cell_row rfl _ _ w.heap.size 57 _ (0, 0) _ rfl x1 Try.underlying57 rfl Try.sizeFo) rfl ?_
        exact ⟨_, _, ins, gone, g, rfl, HY.out.1, HY.out.2.1, hFI, HY.out.2.2⟩

end Go.Proofs.Ytphbjbigjpfjfaa
