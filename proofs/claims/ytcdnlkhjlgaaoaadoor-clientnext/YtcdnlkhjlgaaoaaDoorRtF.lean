/-
  Forms that put in only where a gap begins; the contract of the reference's Formed, once more.
-/
import Derived.Test.YtcdnlkhjlgaaoaaDoorDrJ
import Derived.Test.YtcdnlkhjlgaaoaaDoorOtY
import Derived.Test.YtcdnlkhjlgaaoaaDoorOtV
import Derived.Test.YtcdnlkhjlgaaoaaDoorDrF
namespace Go.Proofs.YtcdnlkhjlgaaoaaDoor
open Go.ChangeShapes Go.WideShapes Go.ChangeAt Go.RowKit Go.PlainAid

/-- What Formed has on its way: what is put in stands where a gap begins. -/
structure FC (l : List St) (n k g : Nat) (ins : List ByteArray) (gone : List Bool) : Prop where
  fi : FI l n k g ins gone
  c : ∀ j, gone.getD j false = true → ins.getD (j + 1) ⟨#[]⟩ = ⟨#[]⟩
  gz : ∀ j, g = j + 1 → gone.getD j false = false
theorem fc_start (l : List St) (n : Nat) : FC l n 0 0 (List.replicate (n + 1) ⟨#[]⟩) (List.replicate n false) := by
  refine ⟨fi_start l n, fun j h => ?_, fun j h => by omega⟩
  by_cases hj : j < n <;> simp [List.getD, hj] at h
theorem fc_keep {l : List St} {n k g m : Nat} {ins : List ByteArray} {gone : List Bool} (h : FC l n k g ins gone) (hk : k < l.length) (hs : l[k] = .keep m) (hm : 0 < m) : FC l n (k + 1) (bsum (l.take k) + m) ins gone :=
  ⟨fi_keep h.fi hk hs, h.c, fun j hj => h.fi.f j (by omega)⟩
theorem fc_rem {l : List St} {n k g m : Nat} {ins : List ByteArray} {gone gone' : List Bool} (h : FC l n k g ins gone) (hk : k < l.length) (hs : l[k] = .rem m) (hl : gone'.length = n)
    (h1 : ∀ j, j < bsum (l.take k) → gone'.getD j false = gone.getD j false) (h2 : ∀ j, bsum (l.take k) ≤ j → j < bsum (l.take k) + m → gone'.getD j false = true) (h3 : ∀ j, bsum (l.take k) + m ≤ j → gone'.getD j false = gone.getD j false) : FC l n (k + 1) g ins gone' := by
  have hga := h.fi.ga
  refine ⟨fi_rem h.fi hk hs hl h1 h2 h3, fun j hj => ?_, fun j hj => ?_⟩
  · by_cases c1 : j < bsum (l.take k)
    · rw [h1 j c1] at hj; exact h.c j hj
    · exact h.fi.e (j + 1) (by omega)
  · rw [h1 j (by omega)]; exact h.gz j hj
theorem fc_ins {l : List St} {n k g : Nat} {t : ByteArray} {ins : List ByteArray} {gone : List Bool} (h : FC l n k g ins gone) (hk : k < l.length) (hs : l[k] = .ins t) (ho : (St.ins t).Ok) (hgn : g ≤ n) :
    FC l n (k + 1) g (ins.set g (mk ((ins.getD g ⟨#[]⟩).data.toList ++ t.data.toList))) gone := by
  refine ⟨fi_ins h.fi hk hs ho hgn, fun j hj => ?_, h.gz⟩
  by_cases e : g = j + 1
  · rw [h.gz j e] at hj; cases hj
  · rw [List.getD_eq_getElem?_getD, List.getElem?_set_ne e, ← List.getD_eq_getElem?_getD]
    exact h.c j hj

set_option maxRecDepth 20000 in
set_option maxHeartbeats 2000000 in
theorem formed2_any (v : Value) (ds : List OpD) (w : World) (hr : RdD w v ds) (hm : ds.length ≤ maxLen) (hi : ∀ o ∈ ds, o.Sm) (hc0 : chk ds = 0) :
    Calls Tryd.prog 66 #[v] w fun e w' => ∃ vi vg ins gone g, e = .returned (.agg #[vi, vg]) ∧ RdV w' vi (ins.map Value.string) ∧ RdV w' vg (gone.map Value.bool) ∧ FC (stR ds) (bsum (stR ds)) (stR ds).length g ins gone ∧ Below w.heap.size w w' := by
  have hB := fun W h => refBase_any v ds W h hm hi
  have hbd := stR_bd ds
  have hln := stR_len ds
  have hds := stR_op hc0
  have hok := stR_ok (fun o ho => sm_in (hi o ho))
  rw [hc0] at hB
  generalize stR ds = l at *
  obtain ⟨n, hn⟩ : ∃ n, bsum l = n := ⟨_, rfl⟩
  rw [hn] at hB hbd ⊢
  have hn1 : (n : Int) ≤ 1000 := by omega
  have hr0 := hr
  subst hds
  obtain ⟨ao, cp, rfl, _, hc⟩ := hr
  rw [List.length_map] at *
  have hmk1 := make_str (n + 1) (by omega)
  have hmk2 := make_boo n (by omega)
  have e1 : ((n + 1 : Nat) : Int) = (n : Int) + 1 := by omega
  rw [e1] at hmk1
  clear hi hc0 e1
  go_enter Tryd.func66, Tryd.ntmps66
  go_wp2_with fail
  refine (hB _ (hr0.below ((Below.refl _ w).alloc (Nat.le_refl _) _))).mono ?_
  rintro e w1 ⟨rfl, hb1⟩
  have hrs : w1.heap[w.heap.size]? = some (.cells #[.slice none 0 0, .slice none 0 0] 96) := (hb1.block w.heap.size (by simp)).trans (heap_alloc_new w _)
  have hB1 : Below w.heap.size w w1 := ((Below.refl _ w).alloc (Nat.le_refl _) _).trans (hb1.mono (by simp))
  have hs1 : w.heap.size + 1 ≤ w1.heap.size := by have := hb1.size; simpa using this
  clear hb1 hB hr0
  go_upto_region 2 with fail
  go_cut [5] (fun p wx => ∃ pb gi gg, p = .pointer (some ⟨pb, 0, none⟩) ∧ FM n w wx w.heap.size pb gi gg (List.replicate (n + 1) ⟨#[]⟩) (List.replicate n false))
  case first =>
    go_region
    all_goals
      go_wp2_with fail
      go_meet
    all_goals first
      | exact ⟨w1.heap.size, w1.heap.size + 1, w1.heap.size + 1 + 1, rfl, fm_mk (al0 w1 _ _ _) (al1 w1 _ _ _) (al2 w1 _ _ _) ((alr w1 _ _ _ _ (by omega)).trans hrs) (by omega) (by omega) (by omega) (by omega) (Nat.le_refl _) (hB1.trans ((alb w1 _ _ _).mono (by omega)))⟩
      | exact ⟨w1.heap.size, w1.heap.size + 1 + 1, w1.heap.size + 1, rfl, fm_mk (al0 w1 _ _ _) (al2 w1 _ _ _) (al1 w1 _ _ _) ((alr w1 _ _ _ _ (by omega)).trans hrs) (by omega) (by omega) (by omega) (by omega) (Nat.le_refl _) (hB1.trans ((alb w1 _ _ _).mono (by omega)))⟩
      | exact ⟨w1.heap.size + 1, w1.heap.size, w1.heap.size + 1 + 1, rfl, fm_mk (al1 w1 _ _ _) (al0 w1 _ _ _) (al2 w1 _ _ _) ((alr w1 _ _ _ _ (by omega)).trans hrs) (by omega) (by omega) (by omega) (by omega) (Nat.le_refl _) (hB1.trans ((alb w1 _ _ _).mono (by omega)))⟩
      | exact ⟨w1.heap.size + 1, w1.heap.size + 1 + 1, w1.heap.size, rfl, fm_mk (al1 w1 _ _ _) (al2 w1 _ _ _) (al0 w1 _ _ _) ((alr w1 _ _ _ _ (by omega)).trans hrs) (by omega) (by omega) (by omega) (by omega) (Nat.le_refl _) (hB1.trans ((alb w1 _ _ _).mono (by omega)))⟩
      | exact ⟨w1.heap.size + 1 + 1, w1.heap.size, w1.heap.size + 1, rfl, fm_mk (al2 w1 _ _ _) (al0 w1 _ _ _) (al1 w1 _ _ _) ((alr w1 _ _ _ _ (by omega)).trans hrs) (by omega) (by omega) (by omega) (by omega) (Nat.le_refl _) (hB1.trans ((alb w1 _ _ _).mono (by omega)))⟩
      | exact ⟨w1.heap.size + 1 + 1, w1.heap.size + 1, w1.heap.size, rfl, fm_mk (al2 w1 _ _ _) (al1 w1 _ _ _) (al0 w1 _ _ _) ((alr w1 _ _ _ _ (by omega)).trans hrs) (by omega) (by omega) (by omega) (by omega) (Nat.le_refl _) (hB1.trans ((alb w1 _ _ _).mono (by omega)))⟩
  case rest =>
    obtain ⟨pb, gi, gg, rfl, hF⟩ := hcut
    have hfi := fc_start l n
    clear hmk1 hmk2 hrs hB1 hs1
    go_wp2_with fail
    go_loopw [6, 7, 8] (fun a q i wr => ∃ (k g : Nat) (ins : List ByteArray) (gone : List Bool), k ≤ l.length ∧ i = .int .i64 (k : Int) ∧ a = .int .i64 (bsum (l.take k) : Int) ∧ q = .int .i64 (g : Int) ∧ FM n w wr w.heap.size pb gi gg ins gone ∧ FC l n k g ins gone) (fun _ _ i _ => l.length - (Go.RowKit.intOf i).toNat)
    case atStart => exact ⟨0, 0, _, _, by omega, rfl, rfl, rfl, hF, hfi⟩
    case round =>
      obtain ⟨k, g, ins, gone, hk, rfl, rfl, rfl, hFM, hFI⟩ := hrel
      clear hF hfi
      have hst := sum_take l k
      have hga := hFI.fi.ga
      have hli := hFI.fi.li
      have hlg := hFI.fi.lg
      by_cases hlt : k < l.length
      · have hlt' : (k : Int) < (l.length : Int) := by omega
        have hsk := hok l[k] (List.getElem_mem hlt)
        have hbt := bsum_take l k hlt
        have hst2 := sum_take l (k + 1)
        obtain ⟨b, off, rfl, hbb, c0, c1, c2⟩ := hc k (l[k]).op (by simp [hlt])
        have hBc : ∀ {W : World} o, Below w.heap.size w W → W.cell? ⟨b, o, none⟩ = w.cell? ⟨b, o, none⟩ := fun o h => h.cell (p := ⟨b, o, none⟩) hbb
        have e0 := c0
        have e1 := c1
        have e2 := c2
        rw [← hBc _ hFM.bel] at c0 c1 c2
        clear hc
        obtain ⟨st, hst0⟩ : ∃ st, st = l[k] := ⟨_, rfl⟩
        rw [← hst0] at hsk hbt c0 c1 c2 e0 e1 e2
        have b1 : (bsum (l.take k) : Int) ≤ 1000 := by omega
        cases st with
        | keep m =>
          simp only [St.op, St.Ok, St.b] at c0 c1 c2 hsk hbt
          have R := fc_keep hFI hlt hst0.symm (by omega)
          have m1 : (m : Int) ≤ 1000 := by omega
          have HB : Hid (bsum (l.take (k + 1)) = bsum (l.take k) + m) := hbt
          clear hFI hst hst2 hbt hst0 e0 e1 e2 hBc hga hli hlg hsk
          generalize bsum (l.take k) = B at *
          go_wp2_with fail
          go_roundw
          case rel => exact ⟨k + 1, B + m, ins, gone, by omega, by go_num, by rw [HB.out]; go_num, by go_num, hFM, R⟩
          case measure => simp [Go.RowKit.intOf]; omega
        | rem m =>
          simp only [St.op, St.Ok, St.b] at c0 c1 c2 hsk hbt e0 e1 e2
          have R := fc_rem (gone' := setT gone (bsum (l.take k)) m) hFI hlt hst0.symm (by rw [setT_len]; exact hlg) (fun j hj => by rw [setT_get _ _ _ _ (by omega), if_neg (by omega)]) (fun j h1 h2 => by rw [setT_get _ _ _ _ (by omega), if_pos (by omega)]) (fun j hj => by rw [setT_get _ _ _ _ (by omega), if_neg (by omega)])
          have m1 : (m : Int) ≤ 1000 := by omega
          have HB : Hid (bsum (l.take (k + 1)) = bsum (l.take k) + m) := hbt
          have hBn : bsum (l.take k) + m ≤ n := by omega
          clear hFI hst hst2 hbt hst0 hga hli hsk
          generalize bsum (l.take k) = B at *
          go_wp2_with fail
          go_loopw [6, 9] (fun a q w2 => ∃ j : Nat, j ≤ m ∧ q = .int .i64 (j : Int) ∧ a = .int .i64 ((B + j : Nat) : Int) ∧ FM n w w2 w.heap.size pb gi gg ins (setT gone B j)) (fun _ q _ => m - (Go.RowKit.intOf q).toNat)
          case atStart => exact ⟨0, by omega, rfl, rfl, hFM⟩
          case round =>
            obtain ⟨j, hj, rfl, rfl, hF2⟩ := hrel
            clear hFM c0 c1 c2
            have c1 := (hBc _ hF2.bel).trans e1
            have q1 := fm_c1 hF2
            by_cases hjm : j < m
            · have hjm' : (j : Int) < (m : Int) := by omega
              have cg := fm_cg hF2 (B + j) (by rw [setT_len]; omega)
              have zg := fm_zg hF2 (B + j)
              have R2 := hF2.setG (B + j)
              have e3 : ((B + j : Nat) : Int) = (B : Int) + (j : Int) := by omega
              rw [e3]
              have hi1 : (B : Int) + (j : Int) < (n : Int) := by omega
              have HS : Hid (setT gone B (j + 1) = (setT gone B j).set (B + j) true) := rfl
              clear hF2 hBc e0 e1 e2 e3 R
              go_wp2_with fail
              go_roundw
              case rel => exact ⟨j + 1, by omega, by go_num, by go_num, R2⟩
              case measure => simp [Go.RowKit.intOf]; omega
            · obtain rfl : j = m := by omega
              have e3 : ((B + j : Nat) : Int) = (B : Int) + (j : Int) := by omega
              clear hBc e0 e1 e2
              go_wp2_with fail
              go_roundw
              case rel => exact ⟨k + 1, g, ins, setT gone B j, by omega, by go_num, by rw [HB.out], rfl, hF2, R⟩
              case measure => simp [Go.RowKit.intOf]; omega
        | ins t =>
          simp only [St.op, St.Ok, St.b] at c0 c1 c2 hsk hbt
          have R := fc_ins hFI hlt hst0.symm hsk (by omega)
          have hgn : g < ins.length := by omega
          have hvg := (hFI.fi.v (ins.getD g ⟨#[]⟩) (by simp [hgn])).2
          have hts : t.size ≤ 4000 := by
            have h1 := size_cpl hsk.1
            have h2 := tsum_take l k hlt
            rw [← hst0] at h2
            simp only [St.c] at h2
            omega
          have HB : Hid (bsum (l.take (k + 1)) = bsum (l.take k)) := by show _ = _; omega
          have RM := (hFM.drew).setI g (mk ((ins.getD g ⟨#[]⟩).data.toList ++ t.data.toList))
          have ci := fm_ci hFM g hgn
          have zi := fm_zi hFM g
          have q0 := fm_c0 hFM
          have d1 := data_len (ins.getD g ⟨#[]⟩)
          have d2 := data_len t
          have ha := fun W => pk.add_mk (ins.getD g ⟨#[]⟩).data.toList t.data.toList W (by omega)
          rw [mk_data, mk_data] at ha
          have g1 : (g : Int) < (n : Int) + 1 := by omega
          have g2 : (0 : Int) ≤ (g : Int) := by omega
          have hwg : IntKind.i64.wrap (g : Int) = (g : Int) := wraps_i64 _ (by omega) (by omega)
          clear hFI hst hst2 hbt hst0 e0 e1 e2 hBc hga hli hlg hsk hvg hts d1 d2 hgn
          generalize bsum (l.take k) = B at *
          generalize mk ((ins.getD g ⟨#[]⟩).data.toList ++ t.data.toList) = T at *
          generalize ins.getD g ⟨#[]⟩ = S at *
          go_wp2_with fail
          refine region_tailR 15 Tryd.mixedR (by kernel_rfl) ?_
          simp only [List.take_succ_cons, List.take_zero, List.drop_succ_cons, List.drop_zero]
          iterate 15 still_step
          refine wpStill_nil ?_
          go_wp2_with fail
          go_roundw
          case rel => exact ⟨k + 1, g, _, gone, by omega, by go_num, by rw [HB.out], rfl, RM, R⟩
          case measure => simp [Go.RowKit.intOf]; omega
      · have e : k = l.length := by omega
        subst e
        have q0 := fm_c0 hFM
        have q1 := fm_c1 hFM
        have r0 := cell_of_row _ _ 0 _ _ (0, 0) hFM.res
        have r1 := cell_of_row _ _ 1 _ _ (0, 0) hFM.res
        have z0 := frz hFM.res 0
        have z1 := frz hFM.res 1
        simp at r0 r1
        clear hc hok
        have x0 := heap_setCell hFM.res 0 (.slice (some ⟨gi, 0, none⟩) (n + 1) (n + 1))
        have x1 := heap_setCell x0 1 (.slice (some ⟨gg, 0, none⟩) n n)
        have n1 := heap_ne hFM.ir hFM.res (by decide)
        have n2 := heap_ne hFM.gr hFM.res (by decide)
        have y1 : ((wr.setCell ⟨w.heap.size, 0, none⟩ (.slice (some ⟨gi, 0, none⟩) (n + 1) (n + 1))).setCell ⟨w.heap.size, 1, none⟩ (.slice (some ⟨gg, 0, none⟩) n n)).heap[gi]? = some (.cells (ins.map Value.string).toArray 9) := by
          rw [Below.heap_setCell _ ⟨w.heap.size, 1, none⟩ _ gi n1, Below.heap_setCell _ ⟨w.heap.size, 0, none⟩ _ gi n1]; exact hFM.ir
        have y2 : ((wr.setCell ⟨w.heap.size, 0, none⟩ (.slice (some ⟨gi, 0, none⟩) (n + 1) (n + 1))).setCell ⟨w.heap.size, 1, none⟩ (.slice (some ⟨gg, 0, none⟩) n n)).heap[gg]? = some (.cells (gone.map Value.bool).toArray 4) := by
          rw [Below.heap_setCell _ ⟨w.heap.size, 1, none⟩ _ gg n2, Below.heap_setCell _ ⟨w.heap.size, 0, none⟩ _ gg n2]; exact hFM.gr
        have y3 : Below w.heap.size w ((wr.setCell ⟨w.heap.size, 0, none⟩ (.slice (some ⟨gi, 0, none⟩) (n + 1) (n + 1))).setCell ⟨w.heap.size, 1, none⟩ (.slice (some ⟨gg, 0, none⟩) n n)) :=
          below_set (below_set hFM.bel (Nat.le_refl _) hFM.bel.size) (Nat.le_refl _) (Nat.le_trans hFM.bel.size (grown_set wr _ 0 _).size)
        have l1 : (ins.map Value.string).length = n + 1 := by rw [List.length_map]; exact hli
        have l2 : (gone.map Value.bool).length = n := by rw [List.length_map]; exact hlg
        have HY : Hid (RdV _ (.slice (some ⟨gi, 0, none⟩) (n + 1) (n + 1)) (ins.map Value.string) ∧ RdV _ (.slice (some ⟨gg, 0, none⟩) n n) (gone.map Value.bool) ∧ Below w.heap.size w _) := ⟨rdv_row y1 l1, rdv_row y2 l2, y3⟩
        clear y1 y2 y3 l1 l2 n1 n2 x0
        go_wp2_with fail
        refine bodyPost_ret (results_cell_row rfl _ _ w.heap.size 96 _ (0, 0) _ rfl x1 Tryd.underlying96 rfl Tryd.sizeFo) rfl ?_
        exact ⟨_, _, ins, gone, g, rfl, HY.out.1, HY.out.2.1, hFI, HY.out.2.2⟩

end Go.Proofs.YtcdnlkhjlgaaoaaDoor

/-
  Places that put in only where a gap begins: their marks tell them. No walk.
-/
namespace Go.Proofs.YtcdnlkhjlgaaoaaDoor
open Go.RowKit Go.PlainAid

/-- What is put in stands at the beginning, or behind what is kept; b: may it be so here? -/
def Can : Bool → List Spot → Prop
  | _, [] => True
  | b, s :: l => (b = false → pts s.put = []) ∧ Can (decide (s.k = 1)) l

/-! ### Normal forms -/

def altC : Bool → List PS → Prop
  | _, [] => True
  | b, .ins _ :: l => b = true ∧ altC false l
  | _, .keep _ :: l => altC true l
  | _, .rem _ :: l => altC false l
theorem altC_keep : ∀ (l r : List PS) (n : Nat) (b : Bool), altC b l → altC true r → altC b (l ++ .keep n :: r)
  | [], _, _, _, _, h => h
  | .ins _ :: l, r, n, _, h, k => ⟨h.1, altC_keep l r n false h.2 k⟩
  | .keep _ :: l, r, n, _, h, k => altC_keep l r n true h k
  | .rem _ :: l, r, n, _, h, k => altC_keep l r n false h k
theorem altC_q (p : List Int) (g : Nat) : altC true (flushQ p g) := by
  unfold flushQ
  by_cases h1 : 0 < p.length <;> by_cases h2 : 0 < g <;> simp [h1, h2, altC]
theorem altC_flush {D : List PS} {k : Nat} (p : List Int) (g : Nat) (h : altC true D) (h2 : D = [] ∨ 0 < k) : altC true (D ++ flushP k p g) := by
  have e : flushP k p g = (if 0 < k then [PS.keep k] else []) ++ flushQ p g := rfl
  rw [e]
  by_cases hk : 0 < k
  · rw [if_pos hk]
    exact altC_keep D _ k true h (altC_q p g)
  · rw [if_neg hk]
    rcases h2 with rfl | h2
    · exact altC_q p g
    · exact absurd h2 hk
theorem altC_ju : ∀ (w : List U) (σ : JU), altC true σ.D → (σ.D = [] ∨ 0 < σ.kept) → altC true (ju σ w).out
  | [], σ, h1, h2 => altC_flush _ _ h1 h2
  | .K :: w, σ, h1, h2 => by
    rw [ju_cons, JU.add]
    split
    · exact altC_ju w _ (altC_flush _ _ h1 h2) (.inr (by simp))
    · exact altC_ju w _ h1 (.inr (by simp))
  | .R :: w, σ, h1, h2 => by rw [ju_cons]; exact altC_ju w _ h1 h2
  | .I z :: w, σ, h1, h2 => by rw [ju_cons]; exact altC_ju w _ h1 h2
theorem can_reps1 : ∀ (n : Nat) (p : ByteArray) (st : Bool) (l : List Spot), (st = false → pts p = []) → Can true l → Can st (reps p 1 (n + 1) ++ l)
  | 0, p, st, l, h, hl => ⟨h, by simpa [reps] using hl⟩
  | n + 1, p, st, l, h, hl => ⟨h, by have := can_reps1 n ⟨#[]⟩ true l (by simp) hl; simpa using this⟩
theorem can_reps3 : ∀ (n : Nat) (p : ByteArray) (st : Bool) (l : List Spot), (st = false → pts p = []) → Can false l → Can st (reps p 3 (n + 1) ++ l)
  | 0, p, st, l, h, hl => ⟨h, by simpa [reps] using hl⟩
  | n + 1, p, st, l, h, hl => ⟨h, by have := can_reps3 n ⟨#[]⟩ false l (fun _ => ptsNil) hl; simpa using this⟩
theorem can_spots : ∀ (ds : List PS) (p : ByteArray) (b st : Bool), altC b ds → (b = true → st = true) → (st = false → pts p = []) → (∀ s ∈ ds, s.Ok) → Can st (spots (ds.map PS.st) p)
  | [], p, b, st, _, _, h, _ => ⟨h, trivial⟩
  | .ins q :: ds, p, b, st, ha, hb, h, ho => by
    have e := hb ha.1
    subst e
    exact can_spots ds _ false true ha.2 (by simp) (by simp) (fun s hs => ho s (by simp [hs]))
  | .keep n :: ds, p, b, st, ha, hb, h, ho => by
    have hn : 0 < n := ho (.keep n) (by simp)
    obtain ⟨m, rfl⟩ : ∃ m, n = m + 1 := ⟨n - 1, by omega⟩
    exact can_reps1 m p st _ h (can_spots ds _ true true ha (by simp) (by simp) (fun s hs => ho s (by simp [hs])))
  | .rem n :: ds, p, b, st, ha, hb, h, ho => by
    have hn : 0 < n := ho (.rem n) (by simp)
    obtain ⟨m, rfl⟩ : ∃ m, n = m + 1 := ⟨n - 1, by omega⟩
    exact can_reps3 m p st _ h (can_spots ds _ false false ha (by simp) (fun _ => ptsNil) (fun s hs => ho s (by simp [hs])))
theorem can_nS {A : List OpD} (iA : ∀ o ∈ A, o.In) : Can true (nS A) := by
  obtain ⟨e, h⟩ := stR_jn iA
  rw [nS, e]
  exact can_spots _ _ true true (altC_ju _ _ trivial (.inl rfl)) (by simp) (by simp) h

/-! ### What marks tell -/

theorem inr_split {p q : List Int} {a b : List (Nat ⊕ Int)} (ha : ∀ z l, a ≠ .inr z :: l) (hb : ∀ z l, b ≠ .inr z :: l) (h : p.map Sum.inr ++ a = q.map Sum.inr ++ b) : p = q ∧ a = b := by
  induction p generalizing q with
  | nil =>
    cases q with
    | nil => exact ⟨rfl, by simpa using h⟩
    | cons z q => exact absurd (by simpa using h) (ha z _)
  | cons x p ih =>
    cases q with
    | nil => exact absurd (by simpa using h.symm) (hb x _)
    | cons z q =>
      simp only [List.map_cons, List.cons_append, List.cons.injEq, Sum.inr.injEq] at h
      obtain ⟨h1, h2⟩ := ih h.2
      exact ⟨by rw [h.1, h1], h2⟩
theorem can_head : ∀ {a b : List Spot}, Al2 a b → Can false a → ∀ (i : Nat) (z : Int) (l : List (Nat ⊕ Int)), mkU i (spW a) ≠ .inr z :: l := by
  intro a b h
  induction h with
  | last hx hy =>
    rename_i x y
    intro hc i z l e
    have h0 := hc.1 rfl
    rw [spW_cons, mkU_append, mkU_spU, mkP, h0, hx] at e
    simp [spW, mkU] at e
  | more hx hy h ih =>
    rename_i x y a b
    intro hc i z l e
    have h0 := hc.1 rfl
    rw [spW_cons, mkU_append, mkU_spU, mkP, h0] at e
    rcases hx with hx | hx
    · rw [hx] at e; simp at e
    · have h2 := hc.2
      rw [hx] at e h2
      exact ih h2 _ z l (by simpa using e)

theorem can_unique {a b : List Spot} (h : Al2 a b) : ∀ (st : Bool), Can st a → Can st b → ∀ i, mkU i (spW a) = mkU i (spW b) → a.map (fun s => (pts s.put, s.k)) = b.map (fun s => (pts s.put, s.k)) := by
  induction h with
  | last hx hy =>
    rename_i x y
    intro st _ _ i e
    rw [spW_cons, spW_cons, mkU_append, mkU_append, mkU_spU, mkU_spU, mkP, mkP, hx, hy] at e
    have e2 : (pts x.put).map Sum.inr = (pts y.put).map (Sum.inr (α := Nat)) := by simpa [spW, mkU] using e
    have e3 := (inr_split (a := []) (b := []) (by simp) (by simp) (by simpa using e2)).1
    simp [e3, hx, hy]
  | more hx hy h ih =>
    rename_i x y a b
    intro st ca cb i e
    rw [spW_cons, spW_cons, mkU_append, mkU_append, mkU_spU, mkU_spU, base_spU hx, base_spU hy, mkP, mkP] at e
    have hA := ca.2
    have hB := cb.2
    have ge1 : ∀ p, Sum.inl p ∈ mkU (i + 1) (spW a) → i + 1 ≤ p := fun p hp => marks_ge _ _ _ hp
    have ge2 : ∀ p, Sum.inl p ∈ mkU (i + 1) (spW b) → i + 1 ≤ p := fun p hp => marks_ge _ _ _ hp
    rcases hx with hx | hx <;> rcases hy with hy | hy <;> rw [hx, hy] at e <;> rw [hx] at hA <;> rw [hy] at hB <;> simp only [if_true, List.append_assoc, List.cons_append, List.nil_append, show ¬ ((3 : Int) = 1) by decide, if_false] at e
    · obtain ⟨e1, e2⟩ := inr_split (by simp) (by simp) e
      have e3 : mkU (i + 1) (spW a) = mkU (i + 1) (spW b) := by simpa using e2
      have := ih _ hA hB (i + 1) e3
      simp [e1, hx, hy, this]
    · obtain ⟨e1, e2⟩ := inr_split (by simp) (can_head h.symm hB (i + 1)) e
      have := ge2 i (by rw [← e2]; simp)
      omega
    · obtain ⟨e1, e2⟩ := inr_split (can_head h hA (i + 1)) (by simp) e
      have := ge1 i (by rw [e2]; simp)
      omega
    · obtain ⟨e1, e2⟩ := inr_split (can_head h hA (i + 1)) (can_head h.symm hB (i + 1)) e
      have := ih _ hA hB (i + 1) e2
      simp [e1, hx, hy, this]
theorem spots_eq : ∀ {a b : List Spot}, a.map (fun s => (pts s.put, s.k)) = b.map (fun s => (pts s.put, s.k)) → (∀ s ∈ a, 0 ≤ cpl s.put) → (∀ s ∈ b, 0 ≤ cpl s.put) → a = b
  | [], [], _, _, _ => rfl
  | [], _ :: _, h, _, _ => by simp at h
  | _ :: _, [], h, _, _ => by simp at h
  | x :: a, y :: b, h, ha, hb => by
    simp only [List.map_cons, List.cons.injEq, Prod.mk.injEq] at h
    have h1 := put_enc (ha x (by simp))
    have h2 := put_enc (hb y (by simp))
    have e1 : x.put = y.put := by rw [← h1, ← h2, h.1.1]
    have e : x = y := by
      obtain ⟨p, k⟩ := x
      obtain ⟨q, j⟩ := y
      simp only at e1 h
      rw [e1, h.1.2]
    rw [e, spots_eq h.2 (fun s hs => ha s (by simp [hs])) (fun s hs => hb s (by simp [hs]))]

/-! ### Forms -/

def fSp (ins : List ByteArray) (gone : List Bool) (i : Nat) : Spot := ⟨ins.getD i ⟨#[]⟩, if gone.getD i false then 3 else 1⟩
/-- The places of a form. -/
def fS (ins : List ByteArray) (gone : List Bool) : List Spot := (List.range gone.length).map (fSp ins gone) ++ [⟨ins.getD gone.length ⟨#[]⟩, 0⟩]
theorem fS_len (ins : List ByteArray) (gone : List Bool) : (fS ins gone).length = gone.length + 1 := by simp [fS]
theorem fSp_k (ins : List ByteArray) (gone : List Bool) (i : Nat) : (fSp ins gone i).k = 1 ∨ (fSp ins gone i).k = 3 := by
  unfold fSp
  cases gone.getD i false
  · exact .inl rfl
  · exact .inr rfl
theorem kd_app : ∀ (l : List Spot) (p : ByteArray), (∀ s ∈ l, s.k = 1 ∨ s.k = 3) → Kd (l ++ [⟨p, 0⟩])
  | [], _, _ => rfl
  | s :: l, p, h => kd_cons (h s (by simp)) (kd_app l p (fun x hx => h x (by simp [hx])))
theorem fS_kd (ins : List ByteArray) (gone : List Bool) : Kd (fS ins gone) := kd_app _ _ (fun s hs => by obtain ⟨i, _, rfl⟩ := List.mem_map.1 hs; exact fSp_k ins gone i)
theorem fS_gap (ins : List ByteArray) (gone : List Bool) : ∀ i, spW ((List.range i).map (fSp ins gone)) = gapW ins gone i
  | 0 => rfl
  | i + 1 => by
    rw [List.range_succ, List.map_append, spW_append, fS_gap ins gone i, gapW]
    congr 1
    simp only [List.map_cons, List.map_nil, spW, List.flatten_cons, List.flatten_nil, List.append_nil, spU, fSp]
    cases gone.getD i false
    · rfl
    · rfl
theorem fS_word (ins : List ByteArray) (gone : List Bool) : spW (fS ins gone) = formW ins gone := by
  rw [fS, spW_append, fS_gap, formW]
  simp [spW, spU, kU]
theorem fS_at (ins : List ByteArray) (gone : List Bool) (i : Nat) (s : Spot) (h : (fS ins gone)[i]? = some s) : s.put = ins.getD i ⟨#[]⟩ ∧ (i < gone.length → s.k = if gone.getD i false then 3 else 1) ∧ (i = gone.length → s.k = 0) := by
  have hi : i < gone.length + 1 := by have := (List.getElem?_eq_some_iff.1 h).1; rwa [fS_len] at this
  by_cases c : i < gone.length
  · rw [fS, List.getElem?_append_left (by simpa using c), List.getElem?_map, List.getElem?_range c] at h
    simp at h
    subst h
    exact ⟨rfl, fun _ => rfl, fun e => by omega⟩
  · have e : i = gone.length := by omega
    subst e
    rw [fS, List.getElem?_append_right (by simp)] at h
    simp at h
    subst h
    exact ⟨rfl, fun e => by omega, fun _ => rfl⟩
theorem can_of : ∀ (l : List Spot) (st : Bool), (st = false → ∀ s, l[0]? = some s → pts s.put = []) → (∀ i s t, l[i]? = some s → l[i + 1]? = some t → s.k ≠ 1 → pts t.put = []) → Can st l
  | [], _, _, _ => trivial
  | s :: l, st, h0, h1 => by
    refine ⟨fun e => h0 e s rfl, can_of l _ (fun e t ht => ?_) (fun i a b ha hb => h1 (i + 1) a b (by simpa using ha) (by simpa using hb))⟩
    exact h1 0 s t rfl (by simpa using ht) (by simpa using e)
/-- The form of a delta is its normal form, place by place. -/
theorem form_spots {A : List OpD} (iA : ∀ o ∈ A, o.In) {g : Nat} {ins : List ByteArray} {gone : List Bool} (h : FC (stR A) (bsum (stR A)) (stR A).length g ins gone) : fS ins gone = nS A := by
  have bd := stR_bd A
  obtain ⟨_, _, a3, a4, _⟩ := normal_facts (stR_ok iA) bd.1 bd.2
  have hal : Al2 (fS ins gone) (nS A) := al2_of _ _ (fS_kd _ _) (kd_spots _ _) (by rw [fS_len, nS, spots_len, h.fi.lg, a4])
  have hli := h.fi.li
  have hlg := h.fi.lg
  have hv : ∀ s ∈ fS ins gone, 0 ≤ cpl s.put := by
    intro s hs
    obtain ⟨i, hi, e⟩ := List.mem_iff_getElem.1 hs
    have ha := (fS_at ins gone i s (by rw [List.getElem?_eq_getElem hi, e])).1
    rw [fS_len] at hi
    rw [ha]
    exact (h.fi.v (ins.getD i ⟨#[]⟩) (by simp [show i < ins.length by omega])).1
  have hc : Can true (fS ins gone) := by
    refine can_of _ _ (by simp) (fun i s t hs ht hk => ?_)
    have hi : i + 1 < gone.length + 1 := by have := (List.getElem?_eq_some_iff.1 ht).1; rwa [fS_len] at this
    have q1 := (fS_at ins gone i s hs).2.1 (by omega)
    have q2 := (fS_at ins gone (i + 1) t ht).1
    have hg : gone.getD i false = true := by
      cases hgg : gone.getD i false with
      | true => rfl
      | false => rw [hgg] at q1; simp at q1; exact absurd q1 hk
    rw [q2, h.c i hg]
    exact ptsNil
  have he := fi_end h.fi rfl
  have hm : mkU 0 (spW (fS ins gone)) = mkU 0 (spW (nS A)) := by rw [fS_word, he.2, nS_word iA, a3.2]
  exact spots_eq (can_unique hal true hc (can_nS iA) 0 hm) hv (fun s hs => (nS_ok iA s hs).2.1)
end Go.Proofs.YtcdnlkhjlgaaoaaDoor

/-
  What the reference's Transform does to a form, in plain words. No walk.
-/
namespace Go.Proofs.YtcdnlkhjlgaaoaaDoor
open Go.ChangeShapes Go.WideShapes Go.ChangeAt Go.RowKit Go.PlainAid

/-- A text more in gap g. -/
def catI (ins : List ByteArray) (g : Nat) (t : ByteArray) : List ByteArray := ins.set g (mk ((ins.getD g ⟨#[]⟩).data.toList ++ t.data.toList))
theorem catI_len (ins : List ByteArray) (g : Nat) (t : ByteArray) : (catI ins g t).length = ins.length := by simp [catI]
theorem catI_ne (ins : List ByteArray) (g : Nat) (t : ByteArray) (j : Nat) (hj : j ≠ g) : (catI ins g t).getD j ⟨#[]⟩ = ins.getD j ⟨#[]⟩ := by
  rw [catI, List.getD_eq_getElem?_getD, List.getElem?_set_ne (fun e => hj e.symm), List.getD_eq_getElem?_getD]
theorem catI_at (ins : List ByteArray) (g : Nat) (t : ByteArray) (hg : g < ins.length) : (catI ins g t).getD g ⟨#[]⟩ = mk ((ins.getD g ⟨#[]⟩).data.toList ++ t.data.toList) := by
  simp [catI, List.getD, hg]

/-- On the way: gap g of a form of t code points; M: the marks so far; all behind is as it was made. -/
structure TI (t g z : Nat) (M : List (Nat ⊕ Int)) (ins : List ByteArray) (gone : List Bool) : Prop where
  li : ins.length = t + 1
  lg : gone.length = t
  m : gapM ins gone g = M
  f : ∀ j, g ≤ j → gone.getD j false = false
  e : ∀ j, g < j → ins.getD j ⟨#[]⟩ = ⟨#[]⟩
  v : ∀ x ∈ ins, 0 ≤ cpl x ∧ x.size ≤ z
theorem ti_start (t : Nat) : TI t 0 0 [] (List.replicate (t + 1) ⟨#[]⟩) (List.replicate t false) := by
  have hi : ∀ j, (List.replicate (t + 1) (⟨#[]⟩ : ByteArray)).getD j ⟨#[]⟩ = ⟨#[]⟩ := fun j => by
    by_cases h : j < t + 1 <;> simp [List.getD, h]
  refine ⟨by simp, by simp, ?_, fun j _ => ?_, fun j _ => hi j, fun x hx => ?_⟩
  · rw [gapM, hi, pts_nil]; rfl
  · by_cases h : j < t <;> simp [List.getD, h]
  · have := List.eq_of_mem_replicate hx
    subst this
    exact ⟨by decide, by show 0 ≤ _; omega⟩
theorem ti_ins {t g z : Nat} {M : List (Nat ⊕ Int)} {ins : List ByteArray} {gone : List Bool} (h : TI t g z M ins gone) {x : ByteArray} (hx : 0 ≤ cpl x) (hg : g ≤ t) : TI t g (z + x.size) (M ++ (pts x).map .inr) (catI ins g x) gone := by
  have hli := h.li
  have hin : ins.getD g ⟨#[]⟩ ∈ ins := by simp [show g < ins.length by omega]
  have hvg := h.v _ hin
  have hcat := cat_ok hvg.1 hx
  refine ⟨by rw [catI_len]; exact hli, h.lg, ?_, h.f, fun j q => by rw [catI_ne _ _ _ _ (by omega)]; exact h.e j q, fun y hy => ?_⟩
  · have e := gapW_congr (ins := ins) (ins' := catI ins g x) (gone := gone) (gone' := gone) g (fun j hj => ⟨catI_ne _ _ _ _ (by omega), rfl⟩)
    have hm := h.m
    rw [gapM] at hm ⊢
    rw [e, catI_at _ _ _ (by omega), hcat.2, List.map_append, ← List.append_assoc, hm]
  · rcases List.mem_or_eq_of_mem_set hy with hy | hy
    · have := h.v y hy; exact ⟨this.1, by omega⟩
    · subst hy
      refine ⟨hcat.1, ?_⟩
      rw [mk_size, List.length_append, data_len, data_len]
      have := hvg.2
      omega
theorem ti_keep {t g z : Nat} {M : List (Nat ⊕ Int)} {ins : List ByteArray} {gone : List Bool} (h : TI t g z M ins gone) (n : Nat) : TI t (g + n) z (M ++ (List.range' g n).map .inl) ins gone := by
  refine ⟨h.li, h.lg, ?_, fun j q => h.f j (by omega), fun j q => h.e j (by omega), h.v⟩
  rw [gapM_Ks h.e n (fun j h1 _ => h.f j h1), h.m]
  congr 1
  rw [List.range'_eq_map_range, List.map_map]
  rfl
theorem ti_set {t g z : Nat} {M : List (Nat ⊕ Int)} {ins : List ByteArray} {gone : List Bool} (h : TI t g z M ins gone) (b : Bool) (hg : g < t) : TI t (g + 1) z (M ++ (if b then [] else [.inl g])) ins (gone.set g b) := by
  have hlg := h.lg
  have hne : ∀ j, j ≠ g → (gone.set g b).getD j false = gone.getD j false := fun j hj => by
    rw [List.getD_eq_getElem?_getD, List.getElem?_set_ne (fun e => hj e.symm), List.getD_eq_getElem?_getD]
  have hp : (gone.set g b).getD g false = b := by
    have : g < gone.length := by omega
    simp [List.getD, this]
  have e2 : gapM ins (gone.set g b) g = gapM ins gone g := by
    rw [gapM, gapM, gapW_congr (ins := ins) (ins' := ins) (gone := gone) (gone' := gone.set g b) g (fun j hj => ⟨rfl, hne j (by omega)⟩)]
  refine ⟨h.li, by rw [List.length_set]; exact hlg, ?_, fun j q => by rw [hne j (by omega)]; exact h.f j (by omega), fun j q => h.e j (by omega), h.v⟩
  cases b with
  | true => rw [gapM_R hp (h.e _ (by omega)), e2, h.m]; simp
  | false => rw [gapM_K hp (h.e _ (by omega)), e2, h.m]; simp
theorem ti_end {t z : Nat} {M : List (Nat ⊕ Int)} {ins : List ByteArray} {gone : List Bool} (h : TI t t z M ins gone) : baseU (formW ins gone) = t ∧ mkU 0 (formW ins gone) = M := by
  refine ⟨?_, ?_⟩
  · rw [formW, baseU_append, baseU_gap, baseU_I, h.lg]; rfl
  · rw [formW, mkU_append, mkU_I, h.lg, ← h.m, gapM]

/-! ### One place -/

/-- How far a place's doings lead. -/
def outB (y : Spot) : Nat := (pts y.put).length + (if y.k = 1 then 1 else 0)
theorem out_base (f : Bool) {x y : Spot} (hk : y.k = 1 → x.k = 1 ∨ x.k = 3) : baseU (outU f x y) = outB y := by
  rw [outU, baseU_append, outB]
  have h1 : baseU (if f then (pts x.put).map .I ++ List.replicate (pts y.put).length .K else List.replicate (pts y.put).length .K ++ (pts x.put).map .I) = (pts y.put).length := by
    cases f <;> simp only [if_true, Bool.false_eq_true, if_false, baseU_append, baseU_I, baseU_K] <;> omega
  rw [h1]
  congr 1
  by_cases h : y.k = 1
  · rw [if_pos h, if_pos h, base_kU _ (hk h)]
  · rw [if_neg h, if_neg h]; rfl
theorem out_mk (f : Bool) {x y : Spot} (g : Nat) (hk : y.k = 1 → x.k = 1 ∨ x.k = 3) :
    mkU g (outU f x y) = (if f then (pts x.put).map .inr ++ (List.range' g (pts y.put).length).map .inl else (List.range' g (pts y.put).length).map .inl ++ (pts x.put).map .inr) ++ (if y.k = 1 then (if decide (x.k = 3) then [] else [.inl (g + (pts y.put).length)]) else []) := by
  have hb : baseU (if f then (pts x.put).map .I ++ List.replicate (pts y.put).length .K else List.replicate (pts y.put).length .K ++ (pts x.put).map .I) = (pts y.put).length := by
    cases f <;> simp only [if_true, Bool.false_eq_true, if_false, baseU_append, baseU_I, baseU_K] <;> omega
  rw [outU, mkU_append, hb]
  congr 1
  · cases f
    · simp only [Bool.false_eq_true, if_false]
      rw [mkU_append, mkU_Ks, mkU_I]
    · simp only [if_true]
      rw [mkU_append, mkU_Ks, mkU_I, baseU_I, Nat.add_zero]
  · by_cases h : y.k = 1
    · rw [if_pos h, if_pos h]
      rcases hk h with h1 | h1
      · rw [h1]; rfl
      · rw [h1]; rfl
    · rw [if_neg h, if_neg h]; rfl
theorem tfU_snoc {f : Bool} {a b : List Spot} {x y : Spot} (h : a.length = b.length) : tfU f (a ++ [x]) (b ++ [y]) = tfU f a b ++ outU f x y := by
  unfold tfU
  rw [List.zipWith_append h]
  simp

/-- How many bytes are put in. -/
def sumSz (l : List Spot) : Nat := (l.map (fun s => s.put.size)).sum
theorem size4 {t : ByteArray} (h : 0 ≤ cpl t) : t.size ≤ 4 * (pts t).length := by
  have e := put_enc h
  have l := enc_len (pts t)
  rw [← e, mk_size, e]
  exact l
theorem sumSz_le : ∀ (l : List Spot), (∀ s ∈ l, 0 ≤ cpl s.put) → sumSz l ≤ 4 * tgtU (spW l)
  | [], _ => by simp [sumSz]
  | s :: l, h => by
    have h1 := sumSz_le l (fun x hx => h x (by simp [hx]))
    have h2 := size4 (h s (by simp))
    have e : sumSz (s :: l) = s.put.size + sumSz l := by simp [sumSz]
    rw [e, spW_cons, tgtU_append, spU, tgtU_append, tgt_Is]
    omega
theorem sumSz_take (l : List Spot) (k : Nat) : sumSz (l.take k) ≤ sumSz l := by
  have : sumSz l = sumSz (l.take k) + sumSz (l.drop k) := by
    rw [sumSz, sumSz, sumSz, ← List.sum_append, ← List.map_append, List.take_append_drop]
  omega
theorem tf_take (f : Bool) (a b : List Spot) (k : Nat) : baseU (tfU f (a.take k) (b.take k)) ≤ baseU (tfU f a b) := by
  have e : tfU f a b = tfU f (a.take k) (b.take k) ++ ((List.zipWith (outU f) a b).drop k).flatten := by
    unfold tfU
    rw [← List.take_zipWith, ← List.flatten_append, List.take_append_drop]
  rw [e, baseU_append]
  omega
/-- One place more. -/
theorem ti_step (f : Bool) {SX SY : List Spot} {t k : Nat} {x y : Spot} {ins : List ByteArray} {gone : List Bool} (h : TI t (baseU (tfU f (SX.take k) (SY.take k))) (sumSz (SX.take k)) (mkU 0 (tfU f (SX.take k) (SY.take k))) ins gone)
    (hx : SX[k]? = some x) (hy : SY[k]? = some y) (hl : SX.length = SY.length) (hv : 0 ≤ cpl x.put) (hk : y.k = 1 → x.k = 1 ∨ x.k = 3) (ht : baseU (tfU f SX SY) ≤ t) :
    baseU (tfU f (SX.take k) (SY.take k)) + outB y ≤ t ∧ baseU (tfU f (SX.take (k + 1)) (SY.take (k + 1))) = baseU (tfU f (SX.take k) (SY.take k)) + outB y ∧
    TI t (baseU (tfU f (SX.take (k + 1)) (SY.take (k + 1)))) (sumSz (SX.take (k + 1))) (mkU 0 (tfU f (SX.take (k + 1)) (SY.take (k + 1))))
      (catI ins (if f then baseU (tfU f (SX.take k) (SY.take k)) else baseU (tfU f (SX.take k) (SY.take k)) + (pts y.put).length) x.put)
      (if y.k = 1 then gone.set (baseU (tfU f (SX.take k) (SY.take k)) + (pts y.put).length) (decide (x.k = 3)) else gone) := by
  have hkx := (List.getElem?_eq_some_iff.1 hx).1
  have e1 : SX.take (k + 1) = SX.take k ++ [x] := by rw [List.take_add_one, hx]; rfl
  have e2 : SY.take (k + 1) = SY.take k ++ [y] := by rw [List.take_add_one, hy]; rfl
  have eT : tfU f (SX.take (k + 1)) (SY.take (k + 1)) = tfU f (SX.take k) (SY.take k) ++ outU f x y := by
    rw [e1, e2]
    exact tfU_snoc (by rw [List.length_take, List.length_take]; omega)
  have eB : baseU (tfU f (SX.take (k + 1)) (SY.take (k + 1))) = baseU (tfU f (SX.take k) (SY.take k)) + outB y := by rw [eT, baseU_append, out_base f hk]
  have hle := tf_take f SX SY (k + 1)
  have eM : mkU 0 (tfU f (SX.take (k + 1)) (SY.take (k + 1))) = mkU 0 (tfU f (SX.take k) (SY.take k)) ++ mkU (baseU (tfU f (SX.take k) (SY.take k))) (outU f x y) := by rw [eT, mkU_append, Nat.zero_add]
  have eZ : sumSz (SX.take (k + 1)) = sumSz (SX.take k) + x.put.size := by rw [e1]; simp [sumSz]
  refine ⟨by omega, eB, ?_⟩
  rw [eM, eZ, eB, out_mk f _ hk]
  rw [eB] at hle
  generalize baseU (tfU f (SX.take k) (SY.take k)) = g at *
  generalize mkU 0 (tfU f (SX.take k) (SY.take k)) = M at *
  have hob : outB y = (pts y.put).length + (if y.k = 1 then 1 else 0) := rfl
  rw [hob] at hle ⊢
  cases f with
  | true =>
    simp only [if_true]
    have T2 := ti_keep (ti_ins h hv (by omega)) (pts y.put).length
    by_cases hy1 : y.k = 1
    · rw [if_pos hy1] at hle
      rw [if_pos hy1, if_pos hy1, if_pos hy1]
      have T3 := ti_set T2 (decide (x.k = 3)) (by omega)
      rw [← Nat.add_assoc]
      simpa [List.append_assoc] using T3
    · rw [if_neg hy1, if_neg hy1, if_neg hy1]
      simpa [List.append_assoc] using T2
  | false =>
    simp only [Bool.false_eq_true, if_false]
    by_cases hy1 : y.k = 1
    · rw [if_pos hy1] at hle
      rw [if_pos hy1, if_pos hy1, if_pos hy1]
      have T2 := ti_ins (ti_keep h (pts y.put).length) hv (by omega)
      have T3 := ti_set T2 (decide (x.k = 3)) (by omega)
      rw [← Nat.add_assoc]
      simpa [List.append_assoc] using T3
    · rw [if_neg hy1] at hle
      rw [if_neg hy1, if_neg hy1, if_neg hy1]
      have T2 := ti_ins (ti_keep h (pts y.put).length) hv (by omega)
      simpa [List.append_assoc] using T2

/-- Check of a normal form of a base of at most 1000. -/
theorem stOf_op' {s : PS} (h : s.Ok) (hz : (∀ p, s ≠ .ins p) → s.z ≤ 1000) : stOf s.op = some s.st := by
  cases s with
  | keep n => exact stOf_op h (hz (by simp))
  | rem n => exact stOf_op h (hz (by simp))
  | ins p =>
    have h1 := (cpl_enc h.2).1
    have h2 := h.1
    simp only [PS.op, PS.st, St.op, stOf]
    rw [if_neg (by omega), if_pos ⟨trivial, trivial, by rw [h1]; omega⟩]
theorem z_base {s : PS} {l : List PS} (hs : s ∈ l) (h : ∀ p, s ≠ .ins p) : s.z ≤ baseU (pw l) := by
  induction l with
  | nil => simp at hs
  | cons a l ih =>
    rw [pw_cons, baseU_append]
    rcases List.mem_cons.1 hs with rfl | hs
    · cases s with
      | keep n => simp only [PS.z, PS.u, baseU_K]; omega
      | rem n => simp only [PS.z, PS.u, baseU_R]; omega
      | ins p => exact absurd rfl (h p)
    · have := ih hs; omega
theorem chk_nf {W : List U} (hp : PtsU W) (hb : baseU W ≤ 1000) (ht : tgtU W ≤ 2000) : chk ((nfU W).map PS.op) = (if 1000 < tgtU W then 91 else 0) ∧ ((nfU W).map PS.op).length ≤ 3000 := by
  have hn := nf_ok hp
  have he := nf_eqv W
  have hB : baseU (pw (nfU W)) = baseU W := he.1
  have hT : targU (pw (nfU W)) = tgtU W := by rw [he.targ, targU, tgt_targ]
  have hl := (len_z hn).1
  rw [hB, hT] at hl
  have hs : ∀ s ∈ nfU W, stOf s.op = some s.st := fun s hs => stOf_op' (hn s hs) (fun h => by have := z_base hs h; omega)
  have key : ∀ l : List PS, (∀ s ∈ l, stOf s.op = some s.st) → stl (l.map PS.op) = l.map PS.st := by
    intro l
    induction l with
    | nil => intro _; rfl
    | cons s l ih =>
      intro hq
      have h1 := ih (fun x hx => hq x (by simp [hx]))
      rw [stl] at h1 ⊢
      rw [List.map_cons, List.filterMap_cons, hq s (by simp), List.map_cons]
      simp only
      rw [h1]
  have e := key _ hs
  have hany : ((nfU W).map PS.op).any (fun o => (stOf o).isNone) = false := by
    rw [List.any_eq_false]
    intro o ho
    obtain ⟨s, hs', rfl⟩ := List.mem_map.1 ho
    rw [hs s hs']; simp
  have b1 : bsum ((nfU W).map PS.st) = baseU W := by rw [← base_uw, uw_st hn, hB]
  have t1 : tsum ((nfU W).map PS.st) = tgtU W := by rw [← targ_uw, uw_st hn, hT]
  refine ⟨?_, by rw [List.length_map]; omega⟩
  rw [chk, if_neg (by rw [List.length_map]; omega), hany, if_neg (by simp), e, b1, t1]
  congr 1
  simp only [eq_iff_iff]
  omega
/-- What Transform gives, as the normal form of a word. -/
theorem trR_nf (f : Bool) {A B : List OpD} (iA : ∀ o ∈ A, o.In) (iB : ∀ o ∈ B, o.In) (c1 : chk A = 0) (c2 : chk B = 0) (hb : bsum (stR A) = bsum (stR B)) :
    trR f A B = if 1000 < tgtU (tfU f (nS A) (nS B)) then ([], 91) else ((nfU (tfU f (nS A) (nS B))).map PS.op, 0) := by
  obtain ⟨hal, t1, t2, t3⟩ := tr_facts f iA iB hb
  rw [trR, if_pos c1, if_pos c2, if_pos hb]
  by_cases h : 1000 < tgtU (tfU f (nS A) (nS B))
  · rw [if_pos h] at t1
    rw [if_pos h, t1, chk_no _ (by rw [t1]; decide)]
    rfl
  · rw [if_neg h] at t1
    rw [if_neg h, t1, jn_eq (stR_ok t3), t2 t1]
end Go.Proofs.YtcdnlkhjlgaaoaaDoor

/-
  The reference's marks as data; the contracts of its checks and marks.
-/
namespace Go.Proofs.YtcdnlkhjlgaaoaaDoor
open Go.ChangeShapes Go.WideShapes Go.ChangeAt Go.RowKit Go.PlainAid

def mF : Nat ⊕ Int → Int
  | .inl j => (j : Int)
  | .inr _ => -1
def mP : Nat ⊕ Int → Int
  | .inl _ => 0
  | .inr z => z
def mcs (l : List (Nat ⊕ Int)) : List Value := (l.map fun m => [Value.int .i64 (mF m), .int .i64 (mP m)]).flatten
theorem mcs_append (a b : List (Nat ⊕ Int)) : mcs (a ++ b) = mcs a ++ mcs b := by simp [mcs]
theorem mcs_one (m : Nat ⊕ Int) : mcs [m] = [Value.int .i64 (mF m), .int .i64 (mP m)] := by simp [mcs]
theorem mcs_length (l : List (Nat ⊕ Int)) : (mcs l).length = l.length * 2 := by
  induction l with
  | nil => rfl
  | cons m l ih =>
    have e : mcs (m :: l) = [Value.int .i64 (mF m), .int .i64 (mP m)] ++ mcs l := by simp [mcs]
    rw [e, List.length_append, ih, List.length_cons]; simp; omega
theorem mcs_at (l : List (Nat ⊕ Int)) (i : Nat) (m : Nat ⊕ Int) (h : l[i]? = some m) : (mcs l)[i * 2]? = some (.int .i64 (mF m)) ∧ (mcs l)[i * 2 + 1]? = some (.int .i64 (mP m)) := by
  have hi := (List.getElem?_eq_some_iff.1 h).1
  have e0 : l = l.take i ++ ([m] ++ l.drop (i + 1)) := by
    have h1 : l[i] = m := (List.getElem?_eq_some_iff.1 h).2
    rw [← h1]
    simp
  have e1 : mcs l = mcs (l.take i) ++ ([Value.int .i64 (mF m), .int .i64 (mP m)] ++ mcs (l.drop (i + 1))) := by
    rw [← mcs_one, ← mcs_append, ← mcs_append, ← e0]
  have e2 : (mcs (l.take i)).length = i * 2 := by rw [mcs_length, List.length_take]; congr 1; omega
  rw [e1]
  refine ⟨?_, ?_⟩ <;> rw [List.getElem?_append_right (by omega), e2] <;> simp
/-- At v lie marks. -/
def RdM (w : World) (v : Value) (l : List (Nat ⊕ Int)) : Prop :=
  ∃ ao cp, v = .slice ao l.length cp ∧ ∀ (i : Nat) (m : Nat ⊕ Int), l[i]? = some m → ∃ b off, ao = some ⟨b, off, none⟩ ∧ b < w.heap.size ∧ w.cell? ⟨b, off + i * 2, none⟩ = some (.int .i64 (mF m)) ∧ w.cell? ⟨b, off + i * 2 + 1, none⟩ = some (.int .i64 (mP m))
theorem RdM.below {w w' : World} {v : Value} {l : List (Nat ⊕ Int)} (h : RdM w v l) (hb : Below w.heap.size w w') : RdM w' v l := by
  obtain ⟨ao, cp, e, h1⟩ := h
  refine ⟨ao, cp, e, fun i m hi => ?_⟩
  obtain ⟨b, off, e1, hl, c0, c1⟩ := h1 i m hi
  exact ⟨b, off, e1, Nat.lt_of_lt_of_le hl hb.size, (hb.cell (p := ⟨b, off + i * 2, none⟩) hl).trans c0, (hb.cell (p := ⟨b, off + i * 2 + 1, none⟩) hl).trans c1⟩
theorem two_oneM (a b : Int) : ∀ u ∈ [Value.int .i64 a, .int .i64 b], u.oneCell' = true := by
  intro u hu
  simp at hu
  rcases hu with rfl | rfl <;> rfl

theorem rchecks_any (vA vB : Value) (A B : List OpD) (w : World) (hA : RdD w vA A) (hB : RdD w vB B) (mA : A.length ≤ maxLen) (mB : B.length ≤ maxLen) (iA : ∀ o ∈ A, o.Sm) (iB : ∀ o ∈ B, o.Sm) :
    Calls Tryd.prog 74 #[vA, vB] w fun e w' => e = .returned (.int .i64 (if chk A = 0 then chk B else chk A)) ∧ Below w.heap.size w w' := by
  have c1 := refCheck_any vA A w hA mA iA
  have c2 := fun W h => refCheck_any vB B W h mB iB
  by_cases c : chk A = 0
  · rw [if_pos c]
    rw [c] at c1
    clear c
    generalize chk B = eb at *
    go_enter Tryd.func74, Tryd.ntmps74
    go_wp2_with fail
    refine c1.mono ?_
    rintro e w1 ⟨rfl, hb1⟩
    go_wp2_with fail
    refine (c2 _ (hB.below hb1)).mono ?_
    rintro e w2 ⟨rfl, hb2⟩
    go_wp2_with fail
    go_ret
    exact ⟨rfl, chain hb1 hb2⟩
  · have c' : (chk A != 0) = true := by simpa using c
    rw [if_neg c]
    clear c
    generalize chk A = ea at *
    go_enter Tryd.func74, Tryd.ntmps74
    go_wp2_with fail
    refine c1.mono ?_
    rintro e w1 ⟨rfl, hb1⟩
    go_wp2_with fail
    go_ret
    exact ⟨rfl, hb1⟩

theorem take_uw' {l : List St} {k : Nat} (h : k < l.length) : uw (l.take (k + 1)) = uw (l.take k) ++ (l[k]).u := by
  rw [List.take_succ_eq_append_getElem h, uw_append]; simp [uw]
theorem mk_len (l : List St) : (mkU 0 (uw l)).length = tsum l := by rw [show (mkU 0 (uw l)).length = targU (uw l) from rfl, targ_uw]

end Go.Proofs.YtcdnlkhjlgaaoaaDoor

/-
  The contract of the reference's built.
-/
namespace Go.Proofs.YtcdnlkhjlgaaoaaDoor
open Go.ChangeShapes Go.WideShapes Go.ChangeAt Go.RowKit Go.PlainAid

/-- Marks of a base of n, those of the base rising from g on. -/
def Ris (n : Nat) : Nat → List (Nat ⊕ Int) → Prop
  | _, [] => True
  | g, .inr z :: l => szI z ≠ 0 ∧ Ris n g l
  | g, .inl p :: l => g ≤ p ∧ p < n ∧ Ris n (p + 1) l
theorem ris_le {n : Nat} : ∀ (l : List (Nat ⊕ Int)) {g h : Nat}, g ≤ h → Ris n h l → Ris n g l
  | [], _, _, _, _ => trivial
  | .inr _ :: l, _, _, hle, h => ⟨h.1, ris_le l hle h.2⟩
  | .inl _ :: _, _, _, hle, h => ⟨Nat.le_trans hle h.1, h.2⟩
theorem ris_mk (n : Nat) : ∀ (l : List U) (i : Nat), i + baseU l ≤ n → PtsU l → Ris n i (mkU i l)
  | [], _, _, _ => trivial
  | .K :: l, i, h, hp => by
    simp only [baseU] at h
    exact ⟨Nat.le_refl _, by omega, ris_mk n l (i + 1) (by omega) (fun z hz => hp z (by simp [hz]))⟩
  | .R :: l, i, h, hp => by
    simp only [baseU] at h
    exact ris_le _ (by omega) (ris_mk n l (i + 1) (by omega) (fun z hz => hp z (by simp [hz])))
  | .I z :: l, i, h, hp => ⟨hp z (by simp), ris_mk n l i h (fun z hz => hp z (by simp [hz]))⟩

/-- What built has on its way. -/
structure BI (M : List (Nat ⊕ Int)) (n k g : Nat) (ins : List ByteArray) (gone : List Bool) : Prop where
  li : ins.length = n + 1
  lg : gone.length = n
  ga : g ≤ n
  m : gapM ins gone g = M.take k
  r : ∀ j, g ≤ j → j < n → gone.getD j false = true
  e : ∀ j, g < j → ins.getD j ⟨#[]⟩ = ⟨#[]⟩
  v : ∀ t ∈ ins, 0 ≤ cpl t ∧ t.size ≤ 4 * k
  ri : Ris n g (M.drop k)
theorem bi_start {M : List (Nat ⊕ Int)} {n : Nat} (gone : List Bool) (hg : gone.length = n) (ht : ∀ j, j < n → gone.getD j false = true) (hM : Ris n 0 M) : BI M n 0 0 (List.replicate (n + 1) ⟨#[]⟩) gone := by
  have hi : ∀ j, (List.replicate (n + 1) (⟨#[]⟩ : ByteArray)).getD j ⟨#[]⟩ = ⟨#[]⟩ := fun j => by
    by_cases h : j < n + 1 <;> simp [List.getD, h]
  refine ⟨by simp, hg, by omega, ?_, fun j _ h => ht j h, fun j _ => hi j, fun t ht => ?_, hM⟩
  · rw [gapM, hi, pts_nil]; rfl
  · have := List.eq_of_mem_replicate ht
    subst this
    exact ⟨by decide, by show 0 ≤ _; omega⟩
theorem take_m {M : List (Nat ⊕ Int)} {k : Nat} {x : Nat ⊕ Int} (h : M[k]? = some x) : M.take (k + 1) = M.take k ++ [x] ∧ M.drop k = x :: M.drop (k + 1) := by
  have hk := (List.getElem?_eq_some_iff.1 h).1
  have e : M[k] = x := (List.getElem?_eq_some_iff.1 h).2
  exact ⟨by rw [List.take_add_one, h]; rfl, by rw [List.drop_eq_getElem_cons hk, e]⟩
theorem bi_inl {M : List (Nat ⊕ Int)} {n k g p : Nat} {ins : List ByteArray} {gone : List Bool} (h : BI M n k g ins gone) (hm : M[k]? = some (.inl p)) : (g ≤ p ∧ p < n) ∧ BI M n (k + 1) (p + 1) ins (gone.set p false) := by
  obtain ⟨t1, t2⟩ := take_m hm
  have hri := h.ri
  rw [t2] at hri
  obtain ⟨r1, r2, r3⟩ := hri
  have hlg := h.lg
  have hne : ∀ j, j ≠ p → (gone.set p false).getD j false = gone.getD j false := fun j hj => by
    rw [List.getD_eq_getElem?_getD, List.getElem?_set_ne (fun e => hj e.symm), List.getD_eq_getElem?_getD]
  have hp : (gone.set p false).getD p false = false := by
    have : p < gone.length := by omega
    simp [List.getD, this]
  refine ⟨⟨r1, r2⟩, h.li, by rw [List.length_set]; exact hlg, by omega, ?_, fun j q1 q2 => ?_, fun j q => h.e j (by omega), fun t ht => ⟨(h.v t ht).1, by have := (h.v t ht).2; omega⟩, r3⟩
  · rw [gapM_K hp (h.e _ (by omega))]
    have e1 := gapM_Rs (ins := ins) (gone := gone.set p false) (g := g) h.e (p - g) (fun j q1 q2 => by rw [hne j (by omega)]; exact h.r j q1 (by omega))
    rw [show g + (p - g) = p by omega] at e1
    have e2 : gapM ins (gone.set p false) g = gapM ins gone g := by
      rw [gapM, gapM, gapW_congr (ins := ins) (ins' := ins) (gone := gone) (gone' := gone.set p false) g (fun j hj => ⟨rfl, hne j (by omega)⟩)]
    rw [e1, e2, h.m, t1]
  · rw [hne j (by omega)]; exact h.r j (by omega) q2
theorem bi_inr {M : List (Nat ⊕ Int)} {n k g : Nat} {z : Int} {ins : List ByteArray} {gone : List Bool} (h : BI M n k g ins gone) (hm : M[k]? = some (.inr z)) :
    szI z ≠ 0 ∧ BI M n (k + 1) g (ins.set g (mk ((ins.getD g ⟨#[]⟩).data.toList ++ (mk (enc [z])).data.toList))) gone := by
  obtain ⟨t1, t2⟩ := take_m hm
  have hri := h.ri
  rw [t2] at hri
  obtain ⟨hz, r3⟩ := hri
  have hli := h.li
  have hga := h.ga
  have hc1 := cpl_enc (p := [z]) (by simpa using hz)
  have hin : ins.getD g ⟨#[]⟩ ∈ ins := by simp [show g < ins.length by omega]
  have hvg := h.v _ hin
  have hcat := cat_ok hvg.1 (t := mk (enc [z])) (by rw [hc1.1]; simp)
  have hget : ∀ j, j ≠ g → (ins.set g (mk ((ins.getD g ⟨#[]⟩).data.toList ++ (mk (enc [z])).data.toList))).getD j ⟨#[]⟩ = ins.getD j ⟨#[]⟩ := fun j hj => by
    rw [List.getD_eq_getElem?_getD, List.getElem?_set_ne (fun e => hj e.symm), List.getD_eq_getElem?_getD]
  have hgg : (ins.set g (mk ((ins.getD g ⟨#[]⟩).data.toList ++ (mk (enc [z])).data.toList))).getD g ⟨#[]⟩ = mk ((ins.getD g ⟨#[]⟩).data.toList ++ (mk (enc [z])).data.toList) := by
    have : g < ins.length := by omega
    simp [List.getD, this]
  refine ⟨hz, by rw [List.length_set]; exact hli, h.lg, hga, ?_, h.r, fun j q => ?_, fun x hx => ?_, r3⟩
  · have e := gapW_congr (ins := ins) (ins' := ins.set g (mk ((ins.getD g ⟨#[]⟩).data.toList ++ (mk (enc [z])).data.toList))) (gone := gone) (gone' := gone) g (fun j hj => ⟨hget j (by omega), rfl⟩)
    have hm := h.m
    rw [gapM] at hm ⊢
    rw [e, hgg, hcat.2, List.map_append, ← List.append_assoc, hm, t1, hc1.2]
    rfl
  · rw [hget j (by omega)]; exact h.e j q
  · rcases List.mem_or_eq_of_mem_set hx with hx | hx
    · have := h.v x hx; exact ⟨this.1, by omega⟩
    · subst hx
      refine ⟨hcat.1, ?_⟩
      have hs1 := hvg.2
      have hl := enc_len [z]
      rw [mk_size, List.length_append, data_len, data_len, mk_size]
      simp at hl
      omega
theorem bi_end {M : List (Nat ⊕ Int)} {n g : Nat} {ins : List ByteArray} {gone : List Bool} (h : BI M n M.length g ins gone) : baseU (formW ins gone) = n ∧ mkU 0 (formW ins gone) = M := by
  have hm := h.m
  rw [List.take_length] at hm
  have hga := h.ga
  have e1 := gapM_Rs (g := g) h.e (n - g) (fun j h1 h2 => h.r j h1 (by omega))
  rw [show g + (n - g) = n by omega] at e1
  refine ⟨?_, ?_⟩
  · rw [formW, baseU_append, baseU_gap, baseU_I, h.lg]; rfl
  · rw [formW, mkU_append, mkU_I, h.lg, ← hm, ← e1, gapM]

/-- A form on its way, in memory. -/
structure FB (n : Nat) (w W : World) (pb gi gg : Nat) (ins : List ByteArray) (gone : List Bool) : Prop where
  box : W.heap[pb]? = some (.cells #[.slice (some ⟨gi, 0, none⟩) (n + 1) (n + 1), .slice (some ⟨gg, 0, none⟩) n n] 96)
  ir : W.heap[gi]? = some (.cells (ins.map Value.string).toArray 9)
  gr : W.heap[gg]? = some (.cells (gone.map Value.bool).toArray 4)
  pb0 : w.heap.size ≤ pb
  gi0 : w.heap.size ≤ gi
  gg0 : w.heap.size ≤ gg
  bel : Below w.heap.size w W
section
variable {n : Nat} {w W W' : World} {pb gi gg : Nat} {ins : List ByteArray} {gone : List Bool}
theorem FB.setG (h : FB n w W pb gi gg ins gone) (j : Nat) (b : Bool) : FB n w (W.setCell ⟨gg, j, none⟩ (.bool b)) pb gi gg ins (gone.set j b) := by
  have n1 := heap_ne h.box h.gr (by decide)
  have n2 := heap_ne h.ir h.gr (by decide)
  refine ⟨?_, ?_, ?_, h.pb0, h.gi0, h.gg0, below_set h.bel h.gg0 h.bel.size⟩
  · rw [Below.heap_setCell W ⟨gg, j, none⟩ _ pb n1]; exact h.box
  · rw [Below.heap_setCell W ⟨gg, j, none⟩ _ gi n2]; exact h.ir
  · rw [heap_setCell h.gr j _]
    simp
theorem FB.setI (h : FB n w W pb gi gg ins gone) (j : Nat) (t : ByteArray) : FB n w (W.setCell ⟨gi, j, none⟩ (.string t)) pb gi gg (ins.set j t) gone := by
  have n1 := heap_ne h.box h.ir (by decide)
  have n2 := heap_ne h.gr h.ir (by decide)
  refine ⟨?_, ?_, ?_, h.pb0, h.gi0, h.gg0, below_set h.bel h.gi0 h.bel.size⟩
  · rw [Below.heap_setCell W ⟨gi, j, none⟩ _ pb n1]; exact h.box
  · rw [heap_setCell h.ir j _]
    simp
  · rw [Below.heap_setCell W ⟨gi, j, none⟩ _ gg n2]; exact h.gr
theorem FB.drew (h : FB n w W pb gi gg ins gone) : FB n w W.drew pb gi gg ins gone := ⟨h.box, h.ir, h.gr, h.pb0, h.gi0, h.gg0, h.bel.drew⟩
theorem FB.below (h : FB n w W pb gi gg ins gone) (hb : Below W.heap.size W W') : FB n w W' pb gi gg ins gone :=
  ⟨(hb.block _ (heap_lt h.box)).trans h.box, (hb.block _ (heap_lt h.ir)).trans h.ir, (hb.block _ (heap_lt h.gr)).trans h.gr, h.pb0, h.gi0, h.gg0, h.bel.trans (hb.mono h.bel.size)⟩
theorem fb_c0 (h : FB n w W pb gi gg ins gone) : W.cell? ⟨pb, 0, none⟩ = some (.slice (some ⟨gi, 0, none⟩) (n + 1) (n + 1)) := cell_of_row _ _ 0 _ _ (0, 0) h.box
theorem fb_c1 (h : FB n w W pb gi gg ins gone) : W.cell? ⟨pb, 1, none⟩ = some (.slice (some ⟨gg, 0, none⟩) n n) := cell_of_row _ _ 1 _ _ (0, 0) h.box
theorem fb_cg (h : FB n w W pb gi gg ins gone) (j : Nat) (hj : j < gone.length) : W.cell? ⟨gg, j, none⟩ = some (.bool (gone.getD j false)) := by
  rw [cell_of_row _ _ j _ _ (0, 0) h.gr]
  simp [hj]
theorem fb_ci (h : FB n w W pb gi gg ins gone) (j : Nat) (hj : j < ins.length) : W.cell? ⟨gi, j, none⟩ = some (.string (ins.getD j ⟨#[]⟩)) := by
  rw [cell_of_row _ _ j _ _ (0, 0) h.ir]
  simp [hj]
theorem fb_zg (h : FB n w W pb gi gg ins gone) (j : Nat) : W.frozen? ⟨gg, j, none⟩ = false := frz h.gr j
theorem fb_zi (h : FB n w W pb gi gg ins gone) (j : Nat) : W.frozen? ⟨gi, j, none⟩ = false := frz h.ir j
theorem fb_mk (h1 : W.heap[pb]? = some (.cells #[.slice (some ⟨gi, 0, none⟩) (n + 1) (n + 1), .slice (some ⟨gg, 0, none⟩) n n] 96)) (h2 : W.heap[gi]? = some (.cells (Array.replicate (n + 1) (Value.string ⟨#[]⟩)) 9)) (h3 : W.heap[gg]? = some (.cells (Array.replicate n (Value.bool false)) 4)) (a : w.heap.size ≤ pb) (b : w.heap.size ≤ gi) (c : w.heap.size ≤ gg) (hb : Below w.heap.size w W) :
    FB n w W pb gi gg (List.replicate (n + 1) ⟨#[]⟩) (List.replicate n false) := ⟨h1, by rw [h2]; simp, by rw [h3]; simp, a, b, c, hb⟩
end

/-- At v lie marks; what a mark of the base has for a point may be anything. -/
def RdB (w : World) (v : Value) (l : List (Nat ⊕ Int)) : Prop :=
  ∃ ao cp, v = .slice ao l.length cp ∧ ∀ (i : Nat) (m : Nat ⊕ Int), l[i]? = some m → ∃ b off x, ao = some ⟨b, off, none⟩ ∧ b < w.heap.size ∧ w.cell? ⟨b, off + i * 2, none⟩ = some (.int .i64 (mF m)) ∧ w.cell? ⟨b, off + i * 2 + 1, none⟩ = some (.int .i64 x) ∧ ∀ z, m = .inr z → x = z
theorem RdM.b {w : World} {v : Value} {l : List (Nat ⊕ Int)} (h : RdM w v l) : RdB w v l := by
  obtain ⟨ao, cp, e, h1⟩ := h
  refine ⟨ao, cp, e, fun i m hi => ?_⟩
  obtain ⟨b, off, e1, hl, c0, c1⟩ := h1 i m hi
  exact ⟨b, off, _, e1, hl, c0, c1, fun z hz => by subst hz; rfl⟩

end Go.Proofs.YtcdnlkhjlgaaoaaDoor

/-
  The contract of the reference's Transform; what it gives is what Transform gives.
-/
namespace Go.Proofs.YtcdnlkhjlgaaoaaDoor
open Go.ChangeShapes Go.WideShapes Go.ChangeAt Go.RowKit Go.PlainAid

/-- A form that lies there: its box, its rows. -/
structure FR (W : World) (b : Nat) (vi vg : Value) (ins : List ByteArray) (gone : List Bool) : Prop where
  box : W.heap[b]? = some (.cells #[vi, vg] 96 (0, 0))
  i : RdV W vi (ins.map Value.string)
  g : RdV W vg (gone.map Value.bool)
section
variable {W W' : World} {b : Nat} {vi vg : Value} {ins : List ByteArray} {gone : List Bool}
theorem FR.below (h : FR W b vi vg ins gone) (hb : Below W.heap.size W W') : FR W' b vi vg ins gone := ⟨(hb.block _ (heap_lt h.box)).trans h.box, h.i.below hb, h.g.below hb⟩
theorem FR.made (hi : RdV W vi (ins.map Value.string)) (hg : RdV W vg (gone.map Value.bool)) : FR (W.alloc (.cells #[vi, vg] 96)) W.heap.size vi vg ins gone := ⟨heap_alloc_new W _, hi.below (grow1 W _), hg.below (grow1 W _)⟩
theorem FR.c0 (h : FR W b vi vg ins gone) : W.cell? ⟨b, 0, none⟩ = some vi := cell_of_row _ _ 0 _ _ (0, 0) h.box
theorem FR.c1 (h : FR W b vi vg ins gone) : W.cell? ⟨b, 1, none⟩ = some vg := cell_of_row _ _ 1 _ _ (0, 0) h.box
end
/-- The places of a form, one by one. -/
theorem fS_get {ins : List ByteArray} {gone : List Bool} {k : Nat} (hk : k < gone.length + 1) : ∃ s, (fS ins gone)[k]? = some s ∧ s.put = ins.getD k ⟨#[]⟩ ∧ (k < gone.length → s.k = if gone.getD k false then 3 else 1) ∧ (k = gone.length → s.k = 0) := by
  have hl : k < (fS ins gone).length := by rw [fS_len]; exact hk
  exact ⟨_, List.getElem?_eq_getElem hl, fS_at ins gone k _ (List.getElem?_eq_getElem hl)⟩

theorem rdv_cell {W : World} {ao : Option Addr} {m cp : Nat} {xs : List Value} (h : RdV W (.slice ao m cp) xs) {k : Nat} {x : Value} (hx : xs[k]? = some x) : ∃ b off, ao = some ⟨b, off, none⟩ ∧ b < W.heap.size ∧ W.cell? ⟨b, off + k, none⟩ = some x := by
  obtain ⟨ao', cp', e, h1⟩ := h
  simp at e
  obtain ⟨rfl, _, rfl⟩ := e
  exact h1 k x hx

set_option maxRecDepth 20000 in
set_option maxHeartbeats 3000000 in
/-- The loop's rounds and what follows them, behind the making of the form. -/
theorem rtransform_any (vA vB : Value) (f : Bool) (A B : List OpD) (w : World) (hA : RdD w vA A) (hB : RdD w vB B) (mA : A.length ≤ maxLen) (mB : B.length ≤ maxLen) (iA : ∀ o ∈ A, o.Sm) (iB : ∀ o ∈ B, o.Sm) :
    Calls Tryd.prog 42 #[vA, vB, .bool f] w fun e w' => ∃ u, e = .returned (.tuple #[u, .int .i64 (trR f A B).2]) ∧ w'.ownsRow w.heap.size 43 3 u (trR f A B).1.length (ocs (trR f A B).1) ∧ Below w.heap.size w w' := by
  have cK := rchecks_any vA vB A B w hA hB mA mB iA iB
  have jA : ∀ o ∈ A, o.In := fun o ho => sm_in (iA o ho)
  have jB : ∀ o ∈ B, o.In := fun o ho => sm_in (iB o ho)
  by_cases c : chk A = 0 ∧ chk B = 0
  · obtain ⟨c1, c2⟩ := c
    rw [if_pos c1, c2] at cK
    have cA := fun W h => refBase_any vA A W h mA iA
    have cB := fun W h => refBase_any vB B W h mB iB
    have cT := fun W h => refTarget_any vB B W h mB iB
    have fA := fun W h => formed2_any vA A W h mA iA c1
    have fB := fun W h => formed2_any vB B W h mB iB c2
    rw [c1] at cA
    rw [c2] at cB cT
    have bdA := stR_bd A
    have bdB := stR_bd B
    by_cases cb : bsum (stR A) = bsum (stR B)
    · have cb' : ((bsum (stR A) : Int) != (bsum (stR B) : Int)) = false := by simp [cb]
      rw [trR_nf f jA jB c1 c2 cb]
      have hal := (tr_facts f jA jB cb).1
      have nA5 := (normal_facts (stR_ok jA) bdA.1 bdA.2).2.2.2.2
      have nB5 := (normal_facts (stR_ok jB) bdB.1 bdB.2).2.2.2.2
      have tA : tgtU (spW (nS A)) = tsum (stR A) := by rw [nS_word jA, tgt_uw, nA5]
      have tB : tgtU (spW (nS B)) = tsum (stR B) := by rw [nS_word jB, tgt_uw, nB5]
      have hbase : baseU (tfU f (nS A) (nS B)) = tsum (stR B) := by rw [tf_base f hal, tB]
      have htgt := tf_tgt f hal
      have hvA : ∀ s ∈ nS A, 0 ≤ cpl s.put := fun s hs => (nS_ok jA s hs).2.1
      have hvB : ∀ s ∈ nS B, 0 ≤ cpl s.put ∧ s.put.size ≤ 4000 := fun s hs => ⟨(nS_ok jB s hs).2.1, (nS_ok jB s hs).2.2⟩
      have hsum := sumSz_le (nS A) hvA
      have hpU : PtsU (tfU f (nS A) (nS B)) := by
        obtain ⟨f1, f2, f3⟩ := tfP_facts f hal (fun s hs => (nS_ok jA s hs).2) (fun s hs => (nS_ok jB s hs).2)
        rw [← f2, ← uw_st f3]
        exact ptsU_uw (fun s hs => by
          obtain ⟨q, hq, rfl⟩ := List.mem_map.1 hs
          have h1 := f3 q hq
          cases q with
          | keep n => exact ⟨h1, by have := z_base (l := tfP f (nS A) (nS B)) hq (by simp); rw [f2, hbase] at this; simp only [PS.z] at this; omega⟩
          | rem n => exact ⟨h1, by have := z_base (l := tfP f (nS A) (nS B)) hq (by simp); rw [f2, hbase] at this; simp only [PS.z] at this; omega⟩
          | ins p =>
            have e1 := (cpl_enc h1.2).1
            have e2 := (len_z f3).2 _ hq
            have e3 := enc_len p
            rw [f2, targU, tgt_targ, hbase] at e2
            simp only [PS.z] at e2
            exact ⟨by rw [e1]; have := h1.1; omega, by rw [mk_size]; omega⟩)
      obtain ⟨k1, k2⟩ := chk_nf hpU (by omega) (by omega)
      have gA := fun g ins gone (h : FC (stR A) (bsum (stR A)) (stR A).length g ins gone) => And.intro (form_spots jA h) (And.intro h.fi.li h.fi.lg)
      have gB := fun g ins gone (h : FC (stR B) (bsum (stR B)) (stR B).length g ins gone) => And.intro (form_spots jB h) (And.intro h.fi.li h.fi.lg)
      have HNF : Hid (∀ ins gone, baseU (formW ins gone) = tsum (stR B) ∧ mkU 0 (formW ins gone) = mkU 0 (tfU f (nS A) (nS B)) → nfU (formW ins gone) = nfU (tfU f (nS A) (nS B))) := fun ins gone h => nf_of_marks (h.1.trans hbase.symm) h.2
      have hNin : ∀ o ∈ (nfU (tfU f (nS A) (nS B))).map PS.op, o.Sm := by
        intro o ho
        obtain ⟨q, hq, rfl⟩ := List.mem_map.1 ho
        have hn := nf_ok hpU
        have e2 := (len_z hn).2 q hq
        have he := nf_eqv (tfU f (nS A) (nS B))
        rw [he.1, he.targ, targU, tgt_targ, hbase] at e2
        cases q with
        | keep n => show (⟨#[]⟩ : ByteArray).size ≤ _; exact Nat.zero_le _
        | rem n => show (⟨#[]⟩ : ByteArray).size ≤ _; exact Nat.zero_le _
        | ins p =>
          have e3 := enc_len p
          simp only [PS.z] at e2
          show (mk (enc p)).size ≤ _
          rw [mk_size]; omega
      have hlAB : (nS A).length = (nS B).length := by
        have h1 : (nS A).length = bsum (stR (jn (stR A))) + 1 := by rw [nS, spots_len]
        have h2 : (nS B).length = bsum (stR (jn (stR B))) + 1 := by rw [nS, spots_len]
        have e1 := (normal_facts (stR_ok jA) bdA.1 bdA.2).2.2.2.1
        have e2 := (normal_facts (stR_ok jB) bdB.1 bdB.2).2.2.2.1
        omega
      have kC := fun u W h => refCheck_any u ((nfU (tfU f (nS A) (nS B))).map PS.op) W h (by unfold maxLen; omega) hNin
      rw [k1] at kC
      have htl : tsum (stR B) ≤ 1000 := bdB.2
      have hnl : bsum (stR A) ≤ 1000 := bdA.1
      have hs4 : sumSz (nS A) ≤ 4000 := by omega
      rw [← cb] at gB cB fB
      clear c1 c2 nA5 nB5 tA tB htgt hsum hpU bdA bdB hal jA jB iA iB k1 hNin cb
      generalize nS A = SX at *
      generalize nS B = SY at *
      generalize tgtU (tfU f SX SY) = TT at *
      generalize HN : nfU (tfU f SX SY) = N at *
      clear HN
      have hmk1 := make_str (tsum (stR B) + 1) (by omega)
      have hmk2 := make_boo (tsum (stR B)) (by omega)
      generalize tsum (stR B) = t at *
      generalize bsum (stR A) = n at *
      obtain ⟨R, hR⟩ : ∃ R : List OpD × Int, R = if 1000 < TT then ([], 91) else (N.map PS.op, 0) := ⟨_, rfl⟩
      rw [← hR]
      have HR : Hid (R = if 1000 < TT then ([], 91) else (N.map PS.op, 0)) := hR
      clear hR
      have t1 : (t : Int) ≤ 1000 := by omega
      have n1 : (n : Int) ≤ 1000 := by omega
      have e1 : ((t + 1 : Nat) : Int) = (t : Int) + 1 := by omega
      rw [e1] at hmk1
      clear e1
      go_enter Tryd.func42, Tryd.ntmps42
      go_wp2_with fail
      refine cK.mono ?_
      rintro e w1 ⟨rfl, hb1⟩
      go_wp2_with fail
      refine (cA _ (hA.below hb1)).mono ?_
      rintro e w2 ⟨rfl, hb2⟩
      have B2 := chain hb1 hb2
      go_wp2_with fail
      refine (cB _ (hB.below B2)).mono ?_
      rintro e w3 ⟨rfl, hb3⟩
      have B3 := chain B2 hb3
      go_wp2_with fail
      refine (fA _ (hA.below B3)).mono ?_
      rintro e w4 ⟨xi, xg, insX, goneX, gx, rfl, qi, qg, hFX, hb4⟩
      obtain ⟨sX, lXi, lXg⟩ := gA _ _ _ hFX
      obtain ⟨xo, xc, exi, _⟩ := id qi
      obtain ⟨xgo, xgc, exg, _⟩ := id qg
      rw [List.length_map, lXi] at exi
      rw [List.length_map, lXg] at exg
      subst exi
      subst exg
      have FX := FR.made qi qg
      have B4 := chain (chain B3 hb4) (grow1 w4 (.cells #[.slice xo (n + 1) xc, .slice xgo n xgc] 96))
      clear qi qg hFX cK cA cB fA hb1 hb2 hb3 hb4 B2 B3
      go_wp2_with fail
      refine (fB _ (hB.below B4)).mono ?_
      rintro e w5 ⟨yi, yg, insY, goneY, gy, rfl, qi, qg, hFY, hb5⟩
      obtain ⟨sY, lYi, lYg⟩ := gB _ _ _ hFY
      obtain ⟨yo, yc, eyi, _⟩ := id qi
      obtain ⟨ygo, ygc, eyg, _⟩ := id qg
      rw [List.length_map, lYi] at eyi
      rw [List.length_map, lYg] at eyg
      subst eyi
      subst eyg
      have FX5 := (FX.below hb5).below (grow1 w5 (.cells #[.slice yo (n + 1) yc, .slice ygo n ygc] 96))
      have FY := FR.made qi qg
      have B5 := chain (chain B4 hb5) (grow1 w5 (.cells #[.slice yo (n + 1) yc, .slice ygo n ygc] 96))
      clear qi qg hFY fB FX B4 hb5 gA gB
      go_wp2_with fail
      refine (cT _ (hB.below B5)).mono ?_
      rintro e w6 ⟨rfl, hb6⟩
      have FX6 := FX5.below hb6
      have FY6 := FY.below hb6
      have B6 := chain B5 hb6
      generalize w4.heap.size = bx at *
      generalize w5.heap.size = byy at *
      clear FX5 FY B5 hb6 cT hA hB mA mB
      go_upto_region 11 with fail
      go_cut [17] (fun p wx => ∃ pb gi gg, p = .pointer (some ⟨pb, 0, none⟩) ∧ FB t w6 wx pb gi gg (List.replicate (t + 1) ⟨#[]⟩) (List.replicate t false))
      case first =>
        go_region
        all_goals
          go_wp2_with fail
          go_meet
        all_goals first
          | exact ⟨w6.heap.size, w6.heap.size + 1, w6.heap.size + 1 + 1, rfl, fb_mk (al0 w6 _ _ _) (al1 w6 _ _ _) (al2 w6 _ _ _) (by omega) (by omega) (by omega) (alb w6 _ _ _)⟩
          | exact ⟨w6.heap.size, w6.heap.size + 1 + 1, w6.heap.size + 1, rfl, fb_mk (al0 w6 _ _ _) (al2 w6 _ _ _) (al1 w6 _ _ _) (by omega) (by omega) (by omega) (alb w6 _ _ _)⟩
          | exact ⟨w6.heap.size + 1, w6.heap.size, w6.heap.size + 1 + 1, rfl, fb_mk (al1 w6 _ _ _) (al0 w6 _ _ _) (al2 w6 _ _ _) (by omega) (by omega) (by omega) (alb w6 _ _ _)⟩
          | exact ⟨w6.heap.size + 1, w6.heap.size + 1 + 1, w6.heap.size, rfl, fb_mk (al1 w6 _ _ _) (al2 w6 _ _ _) (al0 w6 _ _ _) (by omega) (by omega) (by omega) (alb w6 _ _ _)⟩
          | exact ⟨w6.heap.size + 1 + 1, w6.heap.size, w6.heap.size + 1, rfl, fb_mk (al2 w6 _ _ _) (al0 w6 _ _ _) (al1 w6 _ _ _) (by omega) (by omega) (by omega) (alb w6 _ _ _)⟩
          | exact ⟨w6.heap.size + 1 + 1, w6.heap.size + 1, w6.heap.size, rfl, fb_mk (al2 w6 _ _ _) (al1 w6 _ _ _) (al0 w6 _ _ _) (by omega) (by omega) (by omega) (alb w6 _ _ _)⟩
      case rest =>
        obtain ⟨pb, gi, gg, rfl, hF⟩ := hcut
        clear hmk1 hmk2
        have hT0 : TI t (baseU (tfU f (SX.take 0) (SY.take 0))) (sumSz (SX.take 0)) (mkU 0 (tfU f (SX.take 0) (SY.take 0))) (List.replicate (t + 1) ⟨#[]⟩) (List.replicate t false) := by
          have := ti_start t
          simpa [tfU, sumSz, baseU, mkU] using this
        have hg0 : baseU (tfU f (SX.take 0) (SY.take 0)) = 0 := by simp [tfU, baseU]
        go_wp2_with fail
        go_loopw [18, 19] (fun a i wr => ∃ (k : Nat) (ins : List ByteArray) (gone : List Bool), k ≤ n + 1 ∧ i = .int .i64 (k : Int) ∧ a = .int .i64 (baseU (tfU f (SX.take k) (SY.take k)) : Int) ∧ FB t w6 wr pb gi gg ins gone ∧ TI t (baseU (tfU f (SX.take k) (SY.take k))) (sumSz (SX.take k)) (mkU 0 (tfU f (SX.take k) (SY.take k))) ins gone) (fun _ i _ => n + 1 - (Go.RowKit.intOf i).toNat)
        case atStart => exact ⟨0, _, _, by omega, rfl, by rw [hg0]; rfl, hF, hT0⟩
        case round =>
          obtain ⟨k, ins, gone, hk, rfl, rfl, hF1, hT1⟩ := hrel
          clear hF hT0 hg0
          by_cases hkn : k < n + 1
          · obtain ⟨x, hx, xp, xk1, xk0⟩ := fS_get (ins := insX) (gone := goneX) (k := k) (by omega)
            obtain ⟨y, hy, yp, yk1, yk0⟩ := fS_get (ins := insY) (gone := goneY) (k := k) (by omega)
            rw [sX] at hx
            rw [sY] at hy
            rw [lXg] at xk1 xk0
            rw [lYg] at yk1 yk0
            have hvx := hvA x (List.mem_of_getElem? hx)
            have hvy := hvB y (List.mem_of_getElem? hy)
            have hyk : y.k = 1 → x.k = 1 ∨ x.k = 3 := fun h => by
              by_cases c : k < n
              · have := xk1 c
                rw [this]
                cases goneX.getD k false
                · exact .inl rfl
                · exact .inr rfl
              · have := yk0 (by omega); omega
            obtain ⟨hle, hG, hT2⟩ := ti_step f hT1 hx hy hlAB hvx hyk (by omega)
            have hz := sumSz_take SX k
            have hli := hT1.li
            have hlg := hT1.lg
            have hvs := hT1.v
            obtain ⟨xb, xof, exo, hxb, ex⟩ := rdv_cell FX6.i (k := k) (x := .string (insX.getD k ⟨#[]⟩)) (by simp [show k < insX.length by omega])
            obtain ⟨yb, yof, eyo, hyb, ey⟩ := rdv_cell FY6.i (k := k) (x := .string (insY.getD k ⟨#[]⟩)) (by simp [show k < insY.length by omega])
            subst exo
            subst eyo
            rw [← xp] at ex
            rw [← yp] at ey
            clear xp yp
            have hC : ∀ W, Below w6.heap.size w6 W → W.cell? ⟨bx, 0, none⟩ = some (.slice (some ⟨xb, xof, none⟩) (n + 1) xc) ∧ W.cell? ⟨bx, 1, none⟩ = some (.slice xgo n xgc) ∧ W.cell? ⟨byy, 0, none⟩ = some (.slice (some ⟨yb, yof, none⟩) (n + 1) yc) ∧ W.cell? ⟨byy, 1, none⟩ = some (.slice ygo n ygc) ∧ W.cell? ⟨xb, xof + k, none⟩ = some (.string x.put) ∧ W.cell? ⟨yb, yof + k, none⟩ = some (.string y.put) := fun W hb =>
              ⟨(hb.cell (p := ⟨bx, 0, none⟩) (heap_lt FX6.box)).trans FX6.c0, (hb.cell (p := ⟨bx, 1, none⟩) (heap_lt FX6.box)).trans FX6.c1, (hb.cell (p := ⟨byy, 0, none⟩) (heap_lt FY6.box)).trans FY6.c0, (hb.cell (p := ⟨byy, 1, none⟩) (heap_lt FY6.box)).trans FY6.c1, (hb.cell (p := ⟨xb, xof + k, none⟩) hxb).trans ex, (hb.cell (p := ⟨yb, yof + k, none⟩) hyb).trans ey⟩
            have hLy := fun W => refLen_any y.put W (by have := hvy.2; omega)
            have hny := pts_len (t := y.put) hvy.1
            rw [← hny] at hLy
            clear hny
            have hob : outB y = (pts y.put).length + (if y.k = 1 then 1 else 0) := rfl
            have hxs : x.put.size ≤ 4000 := by
              have e1 : SX.take (k + 1) = SX.take k ++ [x] := by rw [List.take_add_one, hx]; rfl
              have e2 : sumSz (SX.take (k + 1)) = sumSz (SX.take k) + x.put.size := by rw [e1]; simp [sumSz]
              have := sumSz_take SX (k + 1)
              omega
            have kn' : (k : Int) ≤ (n : Int) := by omega
            have kn1 : (k : Int) < (n : Int) + 1 := by omega
            have hz2 : sumSz (SX.take k) ≤ 4000 := by omega
            clear hx hy hT1 hvx hvy hyk sX sY ex ey hbase hlAB hvA hvB HNF kC HR k2 hz
            have HG : Hid (baseU (tfU f (SX.take (k + 1)) (SY.take (k + 1))) = baseU (tfU f (SX.take k) (SY.take k)) + outB y) := hG
            clear hG
            generalize baseU (tfU f (SX.take k) (SY.take k)) = g at *
            generalize (pts y.put).length = ny at *
            have gle : g + ny ≤ t := by rw [hob] at hle; omega
            have g1 : (g : Int) + (ny : Int) < (t : Int) + 1 := by omega
            have g2 : (0 : Int) ≤ (g : Int) + (ny : Int) := by omega
            have g3 : (g : Int) < (t : Int) + 1 := by omega
            have g4 : (0 : Int) ≤ (g : Int) := by omega
            have hwg : IntKind.i64.wrap (g : Int) = (g : Int) := wraps_i64 _ (by omega) (by omega)
            have hwk : IntKind.i64.wrap (k : Int) = (k : Int) := wraps_i64 _ (by omega) (by omega)
            have hwn : IntKind.i64.wrap ((g : Int) + (ny : Int)) = (g : Int) + (ny : Int) := wraps_i64 _ (by omega) (by omega)
            have hLG : ∀ (W : World) (ag : Option Addr) (cp : Nat) (l : List Bool), RdV W (.slice ag n cp) (l.map Value.bool) → l.length = n → k < n → ∃ b off, ag = some ⟨b, off, none⟩ ∧ b < W.heap.size ∧ W.cell? ⟨b, off + k, none⟩ = some (.bool (l.getD k false)) := fun W ag cp l h hl hkk => rdv_cell h (by simp [show k < l.length by omega])
            have hGX := hLG _ _ _ _ FX6.g lXg
            have hGY := hLG _ _ _ _ FY6.g lYg
            clear hLG
            cases f with
            | true =>
              simp only [if_true, catI] at hT2
              have hgn : g < ins.length := by omega
              have hvg := (hvs (ins.getD (g) ⟨#[]⟩) (by simp [hgn])).2
              have d1 := data_len (ins.getD (g) ⟨#[]⟩)
              have d2 := data_len x.put
              have ha := fun W => pk.add_mk (ins.getD (g) ⟨#[]⟩).data.toList x.put.data.toList W (by omega)
              rw [mk_data, mk_data] at ha
              have RM := (hF1.drew).setI g (mk ((ins.getD g ⟨#[]⟩).data.toList ++ x.put.data.toList))
              have RN := hF1.setI g (mk ((ins.getD g ⟨#[]⟩).data.toList ++ x.put.data.toList))
              obtain ⟨a1, a2, a3, a4, a5, a6⟩ := hC _ hF1.bel
              obtain ⟨b1, b2, b3, b4, b5, b6⟩ := hC _ RN.bel
              have q0 := fb_c0 hF1
              have ci := fb_ci hF1 g hgn
              have zi := fb_zi hF1 g
              clear hgn hvg d1 d2 hF1 RN hvs hli hz2
              generalize mk ((ins.getD g ⟨#[]⟩).data.toList ++ x.put.data.toList) = T at *
              generalize ins.getD g ⟨#[]⟩ = S at *
              go_wp2_with fail
              refine region_tailR 15 Tryd.mixedR (by kernel_rfl) ?_
              simp only [List.take_succ_cons, List.take_zero, List.drop_succ_cons, List.drop_zero]
              iterate 15 still_step
              refine wpStill_nil ?_
              go_wp2_with fail
              refine (hLy _).mono ?_
              rintro e w8 ⟨rfl, hb8⟩
              have FBW := RM.below hb8
              have FBD := FBW
              clear RM hb8 ha a1 a2 a3 a4 a5 a6 b1 b2 b3 b4 b5 b6 q0 ci zi hLy
              obtain ⟨c1, c2, c3, c4, c5, c6⟩ := hC _ FBW.bel
              by_cases hkl : k < n
              · have hkl' : (k : Int) < (n : Int) := by omega
                obtain ⟨xb2, xof2, exo2, hxb2, ex2⟩ := hGX hkl
                obtain ⟨yb2, yof2, eyo2, hyb2, ey2⟩ := hGY hkl
                subst exo2
                subst eyo2
                have xk := xk1 hkl
                have yk := yk1 hkl
                have r1 := (FBW.bel.cell (p := ⟨xb2, xof2 + k, none⟩) hxb2).trans ex2
                have r2 := (FBW.bel.cell (p := ⟨yb2, yof2 + k, none⟩) hyb2).trans ey2
                have hdx : decide (x.k = 3) = goneX.getD k false := by rw [xk]; cases goneX.getD k false <;> rfl
                rw [hdx] at hT2
                clear xk1 xk0 yk1 yk0 hGX hGY ex2 ey2 hdx xk FX6 FY6 hC
                generalize goneX.getD k false = bxg at *
                cases hgy : goneY.getD k false with
                | true =>
                  rw [hgy] at r2 yk
                  have hy1 : ¬ y.k = 1 := by rw [yk]; decide
                  rw [if_neg hy1] at hT2 hob
                  have HG2 : Hid (baseU (tfU true (SX.take (k + 1)) (SY.take (k + 1))) = g + ny) := by show _ = _; rw [HG.out, hob]; omega
                  clear hgy yk hy1 hob hle r1
                  go_wp2_with fail
                  go_roundw
                  case rel => exact ⟨k + 1, _, _, by omega, by go_num, by rw [HG2.out]; go_num, FBD, hT2⟩
                  case measure => simp [Go.RowKit.intOf] <;> omega
                | false =>
                  rw [hgy] at r2 yk
                  have hy1 : y.k = 1 := by rw [yk]; rfl
                  rw [if_pos hy1] at hT2 hob
                  have HG2 : Hid (baseU (tfU true (SX.take (k + 1)) (SY.take (k + 1))) = g + ny + 1) := by show _ = _; rw [HG.out, hob]; omega
                  have glt : g + ny < t := by omega
                  have g5 : (g : Int) + (ny : Int) < (t : Int) := by omega
                  have q1 := fb_c1 FBW
                  have cg := fb_cg FBW (g + ny) (by omega)
                  have zg := fb_zg FBW (g + ny)
                  have tn : ((g : Int) + (ny : Int)).toNat = g + ny := by omega
                  have cg' := cg
                  have zg' := zg
                  rw [← tn] at cg' zg'
                  clear tn
                  have RG := (FBD.drew).setG (g + ny) bxg
                  clear hgy yk hy1 hob hle FBW FBD
                  go_wp2_with fail
                  refine region_tailR 9 Tryd.mixedR (by kernel_rfl) ?_
                  simp only [List.take_succ_cons, List.take_zero, List.drop_succ_cons, List.drop_zero]
                  iterate 9 still_step
                  refine wpStill_nil ?_
                  go_wp2_with fail
                  go_roundw
                  case rel => exact ⟨k + 1, _, _, by omega, by go_num, by rw [HG2.out]; go_num, RG, hT2⟩
                  case measure => simp [Go.RowKit.intOf] <;> omega
              · obtain rfl : k = n := by omega
                have hy1 : ¬ y.k = 1 := by rw [yk0 rfl]; decide
                rw [if_neg hy1] at hT2 hob
                have HG2 : Hid (baseU (tfU true (SX.take (k + 1)) (SY.take (k + 1))) = g + ny) := by show _ = _; rw [HG.out, hob]; omega
                clear hy1 hob hle xk1 xk0 yk1 yk0 hGX hGY FX6 FY6 hC
                go_wp2_with fail
                go_roundw
                case rel => exact ⟨k + 1, _, _, by omega, by go_num, by rw [HG2.out]; go_num, FBD, hT2⟩
                case measure => simp [Go.RowKit.intOf] <;> omega
            | false =>
              simp only [Bool.false_eq_true, if_false, catI] at hT2
              have hgn : g + ny < ins.length := by omega
              have hvg := (hvs (ins.getD (g + ny) ⟨#[]⟩) (by simp [hgn])).2
              have d1 := data_len (ins.getD (g + ny) ⟨#[]⟩)
              have d2 := data_len x.put
              have ha := fun W => pk.add_mk (ins.getD (g + ny) ⟨#[]⟩).data.toList x.put.data.toList W (by omega)
              rw [mk_data, mk_data] at ha
              obtain ⟨a1, a2, a3, a4, a5, a6⟩ := hC _ hF1.bel
              go_wp2_with fail
              refine (hLy _).mono ?_
              rintro e w8 ⟨rfl, hb8⟩
              have hF8 := hF1.below hb8
              have FBD := (hF8.drew).setI (g + ny) (mk ((ins.getD (g + ny) ⟨#[]⟩).data.toList ++ x.put.data.toList))
              have FBW := hF8.setI (g + ny) (mk ((ins.getD (g + ny) ⟨#[]⟩).data.toList ++ x.put.data.toList))
              clear a1 a2 a3 a4 a5 a6 hLy hF1 hb8
              obtain ⟨b1, b2, b3, b4, b5, b6⟩ := hC _ hF8.bel
              obtain ⟨c1, c2, c3, c4, c5, c6⟩ := hC _ FBW.bel
              have q0 := fb_c0 hF8
              have ci := fb_ci hF8 (g + ny) hgn
              have zi := fb_zi hF8 (g + ny)
              clear hgn hvg d1 d2 hF8 hvs hli hz2
              generalize mk ((ins.getD (g + ny) ⟨#[]⟩).data.toList ++ x.put.data.toList) = T at *
              generalize ins.getD (g + ny) ⟨#[]⟩ = S at *
              have tn : ((g : Int) + (ny : Int)).toNat = g + ny := by omega
              have ci' := ci
              have zi' := zi
              rw [← tn] at ci' zi'
              clear tn
              go_wp2_with fail
              refine region_tailR 15 Tryd.mixedR (by kernel_rfl) ?_
              simp only [List.take_succ_cons, List.take_zero, List.drop_succ_cons, List.drop_zero]
              iterate 15 still_step
              refine wpStill_nil ?_
              clear ha b1 b2 b3 b4 b5 b6 q0
              by_cases hkl : k < n
              · have hkl' : (k : Int) < (n : Int) := by omega
                obtain ⟨xb2, xof2, exo2, hxb2, ex2⟩ := hGX hkl
                obtain ⟨yb2, yof2, eyo2, hyb2, ey2⟩ := hGY hkl
                subst exo2
                subst eyo2
                have xk := xk1 hkl
                have yk := yk1 hkl
                have r1 := (FBW.bel.cell (p := ⟨xb2, xof2 + k, none⟩) hxb2).trans ex2
                have r2 := (FBW.bel.cell (p := ⟨yb2, yof2 + k, none⟩) hyb2).trans ey2
                have hdx : decide (x.k = 3) = goneX.getD k false := by rw [xk]; cases goneX.getD k false <;> rfl
                rw [hdx] at hT2
                clear xk1 xk0 yk1 yk0 hGX hGY ex2 ey2 hdx xk FX6 FY6 hC
                generalize goneX.getD k false = bxg at *
                cases hgy : goneY.getD k false with
                | true =>
                  rw [hgy] at r2 yk
                  have hy1 : ¬ y.k = 1 := by rw [yk]; decide
                  rw [if_neg hy1] at hT2 hob
                  have HG2 : Hid (baseU (tfU false (SX.take (k + 1)) (SY.take (k + 1))) = g + ny) := by show _ = _; rw [HG.out, hob]; omega
                  clear hgy yk hy1 hob hle r1
                  go_wp2_with fail
                  go_roundw
                  case rel => exact ⟨k + 1, _, _, by omega, by go_num, by rw [HG2.out]; go_num, FBD, hT2⟩
                  case measure => simp [Go.RowKit.intOf] <;> omega
                | false =>
                  rw [hgy] at r2 yk
                  have hy1 : y.k = 1 := by rw [yk]; rfl
                  rw [if_pos hy1] at hT2 hob
                  have HG2 : Hid (baseU (tfU false (SX.take (k + 1)) (SY.take (k + 1))) = g + ny + 1) := by show _ = _; rw [HG.out, hob]; omega
                  have glt : g + ny < t := by omega
                  have g5 : (g : Int) + (ny : Int) < (t : Int) := by omega
                  have q1 := fb_c1 FBW
                  have cg := fb_cg FBW (g + ny) (by omega)
                  have zg := fb_zg FBW (g + ny)
                  have tn : ((g : Int) + (ny : Int)).toNat = g + ny := by omega
                  have cg' := cg
                  have zg' := zg
                  rw [← tn] at cg' zg'
                  have cg2 := fb_cg FBW ((g : Int) + (ny : Int)).toNat (by omega)
                  have zg2 := fb_zg FBW ((g : Int) + (ny : Int)).toNat
                  clear tn
                  have RG := (FBD.drew).setG (g + ny) bxg
                  clear hgy yk hy1 hob hle FBW FBD
                  go_wp2_with fail
                  refine region_tailR 9 Tryd.mixedR (by kernel_rfl) ?_
                  simp only [List.take_succ_cons, List.take_zero, List.drop_succ_cons, List.drop_zero]
                  iterate 9 still_step
                  refine wpStill_nil ?_
                  go_wp2_with fail
                  go_roundw
                  case rel => exact ⟨k + 1, _, _, by omega, by go_num, by rw [HG2.out]; go_num, RG, hT2⟩
                  case measure => simp [Go.RowKit.intOf] <;> omega
              · obtain rfl : k = n := by omega
                have hy1 : ¬ y.k = 1 := by rw [yk0 rfl]; decide
                rw [if_neg hy1] at hT2 hob
                have HG2 : Hid (baseU (tfU false (SX.take (k + 1)) (SY.take (k + 1))) = g + ny) := by show _ = _; rw [HG.out, hob]; omega
                clear hy1 hob hle xk1 xk0 yk1 yk0 hGX hGY FX6 FY6 hC
                go_wp2_with fail
                go_roundw
                case rel => exact ⟨k + 1, _, _, by omega, by go_num, by rw [HG2.out]; go_num, FBD, hT2⟩
                case measure => simp [Go.RowKit.intOf] <;> omega
          · obtain rfl : k = n + 1 := by omega
            have hal2 : SX.take (n + 1) = SX ∧ SY.take (n + 1) = SY := by
              have h1 : SX.length = n + 1 := by rw [← sX, fS_len, lXg]
              exact ⟨List.take_of_length_le (by omega), List.take_of_length_le (by omega)⟩
            rw [hal2.1, hal2.2, hbase] at hT1
            have hen := ti_end hT1
            have hne := HNF.out ins gone hen
            have hli := hT1.li
            have hlg := hT1.lg
            have hzz := hs4
            have hvs := hT1.v
            have hBt := fun W h1 h2 => built_any (.slice (some ⟨gi, 0, none⟩) (t + 1) (t + 1)) (.slice (some ⟨gg, 0, none⟩) t t) ins gone W h1 h2 (by omega) (by omega) (fun x hx => ⟨(hvs x hx).1, by have := (hvs x hx).2; omega⟩)
            rw [hne] at hBt
            have q0 := fb_c0 hF1
            have q1 := fb_c1 hF1
            have y1 := rdv_row (c := t + 1) (m := t + 1) hF1.ir (by rw [List.length_map]; exact hli)
            have y2 := rdv_row (c := t) (m := t) hF1.gr (by rw [List.length_map]; exact hlg)
            have B7 := chain B6 hF1.bel
            have HLEN : Hid ((N.map PS.op).length = N.length) := List.length_map ..
            clear hen hne hT1 hF1 hli hlg hvs hal2 FX6 FY6 sX sY
            by_cases hTT : 1000 < TT
            · rw [if_pos hTT] at kC
              go_wp2_with fail
              refine (hBt _ y1 y2).mono ?_
              rintro e w8 ⟨u8, rfl, ho8, hb8⟩
              go_wp2_with fail
              refine (kC _ _ (rdd_own (l := N.map PS.op) (by rw [HLEN.out]; exact ho8))).mono ?_
              rintro e w9 ⟨rfl, hb9⟩
              go_wp2_with fail
              go_ret2
              rw [HR.out, if_pos hTT]
              exact ⟨_, rfl, World.ownsRow_nil _ _ _ _, chain (chain B7 hb8) hb9⟩
            · rw [if_neg hTT] at kC
              go_wp2_with fail
              refine (hBt _ y1 y2).mono ?_
              rintro e w8 ⟨u8, rfl, ho8, hb8⟩
              go_wp2_with fail
              refine (kC _ _ (rdd_own (l := N.map PS.op) (by rw [HLEN.out]; exact ho8))).mono ?_
              rintro e w9 ⟨rfl, hb9⟩
              go_wp2_with fail
              go_ret2
              rw [HR.out, if_neg hTT]
              exact ⟨_, rfl, by rw [HLEN.out]; exact own_lower (own_belowG ho8 hb9) B7.size, chain (chain B7 hb8) hb9⟩
    · have cb' : ((bsum (stR A) : Int) != (bsum (stR B) : Int)) = true := by simp; omega
      have e0 : trR f A B = ([], 91) := by rw [trR, if_pos c1, if_pos c2, if_neg cb]
      rw [e0]
      clear e0 c1 c2 cb bdA bdB jA jB fA fB cT
      generalize bsum (stR A) = nA at *
      generalize bsum (stR B) = nB at *
      go_enter Tryd.func42, Tryd.ntmps42
      go_wp2_with fail
      refine cK.mono ?_
      rintro e w1 ⟨rfl, hb1⟩
      go_wp2_with fail
      refine (cA _ (hA.below hb1)).mono ?_
      rintro e w2 ⟨rfl, hb2⟩
      have B2 := chain hb1 hb2
      go_wp2_with fail
      refine (cB _ (hB.below B2)).mono ?_
      rintro e w3 ⟨rfl, hb3⟩
      go_wp2_with fail
      go_ret2
      exact ⟨_, rfl, World.ownsRow_nil _ _ _ _, chain B2 hb3⟩
  · have hco : trR f A B = ([], if chk A = 0 then chk B else chk A) := by
      rw [trR]
      by_cases h1 : chk A = 0
      · rw [if_pos h1, if_neg (fun h => c ⟨h1, h⟩), if_pos h1]
      · rw [if_neg h1, if_neg h1]
    have hne : ((if chk A = 0 then chk B else chk A) != 0) = true := by
      split
      · rename_i h1; simp; exact fun h => c ⟨h1, h⟩
      · rename_i h1; simpa using h1
    rw [hco]
    generalize (if chk A = 0 then chk B else chk A) = er at *
    clear hco
    go_enter Tryd.func42, Tryd.ntmps42
    go_wp2_with fail
    refine cK.mono ?_
    rintro e w1 ⟨rfl, hb1⟩
    go_wp2_with fail
    go_ret2
    exact ⟨_, rfl, World.ownsRow_nil _ _ _ _, hb1⟩
end Go.Proofs.YtcdnlkhjlgaaoaaDoor
