/-
  The program's run.
-/
import Derived.Test.YtjimolafoihnpaaDoorTrT
import Derived.BigRegion
namespace Go.Proofs.YtjimolafoihnpaaDoor.tc
open Go.Maps Go.ChangeShapes Go.WideShapes Go.ChangeAt Go.RowKit Go.PlainAid

theorem readsI_own {W : World} {B : Nat} {v : Value} {zs : List Int} (h : W.ownsRow B 3 1 v zs.length (iv zs)) : ReadsI W v zs := by
  by_cases h0 : zs.length = 0
  · left
    have : zs = [] := List.length_eq_zero_iff.1 h0
    subst this
    obtain ⟨ao, cp, e⟩ := own_form h
    exact ⟨rfl, ao, cp, e⟩
  · right
    obtain ⟨g, cap, e, -, -⟩ := h.form (by omega)
    refine ⟨g, 0, cap, e, fun i hi => ?_⟩
    have hz : zs[i]? = some (zs.getD i 0) := by
      rw [List.getD_eq_getElem?_getD, List.getElem?_eq_getElem hi]
      rfl
    have hc := h.cells (g := g) (by rw [e]; rfl) i _ (iv_get hz)
    rw [addr4] at hc
    exact hc
theorem Tryd.sizeRunT : (Tryd.prog.info? 44).map (·.size) = some 4 := by kernel_rfl
set_option maxRecDepth 20000 in
set_option maxHeartbeats 2000000 in
theorem run_any (b n0 : Nat) (D : List (List (Nat × Int))) (N : List AtK) (k0 : AtK) (row : List Nat) (P : List Int) (vr vp : Value) (w : World) (hr : BkR w b D N) (h0 : row[0]? = some n0) (hk : N[n0]? = some k0) (hR : Ln w 3 vr row.length (row.map cD).flatten) (hP : Ln w 3 vp P.length (iv P)) (hin : ∀ n ∈ row, n < P.length) (hl : row.length ≤ 1048576) :
    Calls Tryd.prog 54 #[.pointer (some ⟨b, 0, none⟩), vr, vp] w fun e w' => e = .returned (.agg #[.int .i64 k0.1, .int .i64 k0.2.1, .int .i64 k0.2.2, .string (textR (row.map fun n => P.getD n 0)).1]) ∧ Below w.heap.size w w' := by
  obtain ⟨i0, hi, hz0, hz1, hz2⟩ := info_parts infoInt
  obtain ⟨dv, nv, hbx, htb, hln⟩ := hr
  obtain ⟨an, cn, rfl, hcn⟩ := hln.form
  obtain ⟨ar, cr, rfl, hcr⟩ := hR.form
  obtain ⟨ap, cp, rfl, hcp⟩ := hP.form
  have hal := alloc_b w (.cells #[.int .i64 0, .int .i64 0, .int .i64 0, .string ⟨#[]⟩] 44)
  have hres : (w.alloc (.cells #[.int .i64 0, .int .i64 0, .int .i64 0, .string ⟨#[]⟩] 44)).heap[w.heap.size]? = some (.cells #[.int .i64 0, .int .i64 0, .int .i64 0, .string ⟨#[]⟩] 44) := heap_alloc_new _ _
  have hbx1 := hbx.below hal
  have hln1 := hln.below hal
  have hR1 := hR.below hal
  have hP1 := hP.below hal
  clear htb hbx hln hR hP
  obtain ⟨TT, HTT⟩ : ∃ TT, Hid ((textR (row.map fun n => P.getD n 0)).1 = TT) := ⟨_, rfl⟩
  rw [HTT.out]
  go_enter Tryd.func54, Tryd.ntmps54
  go_wp2_with fail
  generalize w.alloc _ = w1 at *
  go_loopw [7, 15] (fun u iv' wr => ∃ k : Nat, k ≤ row.length ∧ iv' = .int .i64 (k : Int) ∧ wr.ownsRow w1.heap.size 3 1 u k (iv ((row.take k).map fun n => P.getD n 0)) ∧ Below w1.heap.size w1 wr) (fun _ iv' _ => row.length - (Go.RowKit.intOf iv').toNat)
  case atStart => exact ⟨0, by omega, rfl, World.ownsRow_nil _ _ _ _, Below.refl _ _⟩
  case round =>
    obtain ⟨k, hk1, rfl, ho, hb⟩ := hrel
    by_cases hlt : k < row.length
    · have hlt' : (k : Int) < (row.length : Int) := by omega
      have hrk : row[k]? = some row[k] := by simp [hlt]
      have hnP := hin row[k] (List.getElem_mem hlt)
      have f0 := flat_at cD 1 cD_len row k _ hrk 0 (by decide)
      obtain ⟨gr, or, cur, e1, hgr, hc⟩ := hR1.at f0
      have c0 : w1.cell? ⟨gr, or + k, none⟩ = some (.int .i64 (row[k] : Int)) := by
        have := hc _ _ f0
        rw [Nat.mul_one, Nat.add_zero] at this
        exact this
      have hzP : P[row[k]]? = some (P.getD row[k] 0) := by rw [List.getD_eq_getElem?_getD, List.getElem?_eq_getElem hnP]; rfl
      obtain ⟨gp, op, cur2, e2, hgp, hc2⟩ := hP1.at (iv_get hzP)
      have c1 := hc2 _ _ (iv_get hzP)
      have c0' := (hb.cell (p := ⟨gr, or + k, none⟩) (lt_heap hgr)).trans c0
      have c1' := (hb.cell (p := ⟨gp, op + row[k], none⟩) (lt_heap hgp)).trans c1
      have HT : Hid (iv ((row.take (k + 1)).map fun n => P.getD n 0) = iv ((row.take k).map fun n => P.getD n 0) ++ [.int .i64 (P.getD row[k] 0)]) := by
        show _ = _
        rw [List.take_succ_eq_append_getElem hlt, List.map_append, iv_append]
        rfl
      subst e1
      subst e2
      clear f0 hc hc2 hgr hgp c0 c1 hrk hzP cur cur2
      generalize iv ((row.take k).map fun n => P.getD n 0) = X at *
      generalize P.getD row[k] 0 = z at *
      generalize row[k] = n at *
      have hnP' : (n : Int) < (P.length : Int) := by omega
      obtain ⟨au, ku, rfl⟩ := own_form ho
      have hbs := hb.size
      go_wp2_with (at_builtin; refine wpList_append_own _ rfl (.tmp 19) (.tmp 24) 68 rfl w1.heap.size 3 i0 (.int .i64 0) 1 8 Tryd.underlying68 hi hz0 hz1 hz2 rfl (by decide) (.slice au k ku) k X rfl (ho.alloc _) ⟨wr.heap.size, 0, none⟩ 1 1 [.int .i64 z] rfl rfl (World.news_of_block (heap_alloc_new wr _)) (by simp [Value.oneCell']) (by unfold maxLen; omega) (by omega) (by simp; omega) ?_; intro v6 w6 ho6 hg6 _)
      have hb6 := (hb.alloc hbs _).grown hg6 (by simp; omega) (fun j hj => (ho.lt j hj).1)
      exact ⟨⟨k + 1, by omega, by go_num, by rw [HT.out]; exact ho6, hb6⟩, by simp [Go.RowKit.intOf]; omega⟩
    · obtain rfl : k = row.length := by omega
      rw [List.take_length] at ho
      have hml : (row.map fun n => P.getD n 0).length = row.length := by simp
      obtain ⟨au, ku, rfl⟩ := own_form ho
      have cT := text_any (.slice au row.length ku) (row.map fun n => P.getD n 0) wr (by rw [hml]; omega) (readsI_own (by rw [hml]; exact ho))
      generalize (textR (row.map fun n => P.getD n 0)) = tt at *
      clear ho hml hin
      go_wp2_with fail
      refine cT.mono ?_
      rintro e w2 ⟨rfl, hb2⟩
      have hb12 := chain hb hb2
      clear cT hb hb2
      have hbx2 := hbx1.below hb12
      have hln2 := hln1.below hb12
      have hR2 := hR1.below hb12
      have hres2 := (hb12.block _ (lt_heap hres)).trans hres
      clear hbx1 hln1 hR1 hres hP1
      obtain ⟨-, x1, -, -⟩ := hbx2.cells
      have f0 := flat_at cD 1 cD_len row 0 _ h0 0 (by decide)
      obtain ⟨gr, or, cur, e1, hgr, hc⟩ := hR2.at f0
      have c0 : w2.cell? ⟨gr, or, none⟩ = some (.int .i64 (n0 : Int)) := hc _ _ f0
      have g0 := flat_at cN 3 cN_len N n0 k0 hk 0 (by decide)
      have g1 := flat_at cN 3 cN_len N n0 k0 hk 1 (by decide)
      have g2 := flat_at cN 3 cN_len N n0 k0 hk 2 (by decide)
      obtain ⟨gn, on, cur2, e2, hgn, hc2⟩ := hln2.at g0
      have d0 : w2.cell? ⟨gn, on + n0 * 3, none⟩ = some (.int .i64 k0.1) := hc2 _ _ g0
      have d1 : w2.cell? ⟨gn, on + n0 * 3 + 1, none⟩ = some (.int .i64 k0.2.1) := hc2 _ _ g1
      have d2 : w2.cell? ⟨gn, on + n0 * 3 + 2, none⟩ = some (.int .i64 k0.2.2) := hc2 _ _ g2
      subst e1
      subst e2
      have hrl : (0 : Int) < (row.length : Int) := by have := (List.getElem?_eq_some_iff.1 h0).1; omega
      have hnN : (n0 : Int) < (N.length : Int) := by have := (List.getElem?_eq_some_iff.1 hk).1; omega
      have x1a := fun o => cell_alN x1 o
      have c0a := fun o => cell_alN c0 o
      have d0a := fun o => cell_alN d0 o
      have d1a := fun o => cell_alN d1 o
      have d2a := fun o => cell_alN d2 o
      clear f0 g0 g1 g2 hc hc2 hgr hgn cur cur2 hbx2 hln2 hR2 h0 hk
      go_wp2_with fail
      go_big_region
      have hnb : (w2.alloc (.cells #[.int .i64 k0.1, .int .i64 k0.2.1, .int .i64 k0.2.2] 111)).drew.heap[w2.heap.size]? = some (.cells #[.int .i64 k0.1, .int .i64 k0.2.1, .int .i64 k0.2.2] 111) := heap_alloc_new w2 _
      have hres3 : (w2.alloc (.cells #[.int .i64 k0.1, .int .i64 k0.2.1, .int .i64 k0.2.2] 111)).drew.heap[w.heap.size]? = _ := ((alloc_b w2 _).block _ (lt_heap hres2)).trans hres2
      have hbF : Below w.heap.size w (w2.alloc (.cells #[.int .i64 k0.1, .int .i64 k0.2.1, .int .i64 k0.2.2] 111)).drew := chain (chain hal hb12) (alloc_b w2 _).drew
      clear x1 c0 d0 d1 d2 x1a c0a d0a d1a d2a hres2 hb12 hal
      generalize (w2.alloc (.cells #[.int .i64 k0.1, .int .i64 k0.2.1, .int .i64 k0.2.2] 111)).drew = w3 at *
      generalize w2.heap.size = nb at *
      have p0 := cell_of_row w3 nb 0 _ _ (0, 0) hnb
      have p1 := cell_of_row w3 nb 1 _ _ (0, 0) hnb
      have p2 := cell_of_row w3 nb 2 _ _ (0, 0) hnb
      change w3.cell? _ = some (.int .i64 k0.1) at p0
      change w3.cell? _ = some (.int .i64 k0.2.1) at p1
      change w3.cell? _ = some (.int .i64 k0.2.2) at p2
      have r0 := cell_of_row w3 w.heap.size 0 _ _ (0, 0) hres3
      have r1 := cell_of_row w3 w.heap.size 1 _ _ (0, 0) hres3
      have r2 := cell_of_row w3 w.heap.size 2 _ _ (0, 0) hres3
      have r3 := cell_of_row w3 w.heap.size 3 _ _ (0, 0) hres3
      change w3.cell? _ = some (.int .i64 0) at r0
      change w3.cell? _ = some (.int .i64 0) at r1
      change w3.cell? _ = some (.int .i64 0) at r2
      change w3.cell? _ = some (.string ⟨#[]⟩) at r3
      have z0 := frz hres3 0
      have z1 := frz hres3 1
      have z2 := frz hres3 2
      have z3 := frz hres3 3
      have hfin := hp_set (hp_set (hp_set (hp_set hres3 0 (.int .i64 k0.1)) 1 (.int .i64 k0.2.1)) 2 (.int .i64 k0.2.2)) 3 (.string tt.1)
      have hbE := (((hbF.setCell (p := ⟨w.heap.size, 0, none⟩) (Nat.le_refl _) (.int .i64 k0.1)).setCell (p := ⟨w.heap.size, 1, none⟩) (Nat.le_refl _) (.int .i64 k0.2.1)).setCell (p := ⟨w.heap.size, 2, none⟩) (Nat.le_refl _) (.int .i64 k0.2.2)).setCell (p := ⟨w.heap.size, 3, none⟩) (Nat.le_refl _) (.string tt.1)
      clear hnb hres3 hbF
      go_upto_region 9 with fail
      go_wp21
      refine bodyPost_ret (results_cell_row rfl _ _ w.heap.size 44 _ (0, 0) _ rfl hfin Tryd.underlying44 rfl Tryd.sizeRunT) rfl ?_
      exact ⟨by rw [← HTT.out]; simp, hbE⟩
end Go.Proofs.YtjimolafoihnpaaDoor.tc
