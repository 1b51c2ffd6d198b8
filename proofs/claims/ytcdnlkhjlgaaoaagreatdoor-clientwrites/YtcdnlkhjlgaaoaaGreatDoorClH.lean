/-
  Edit: what it refuses.
-/
import Derived.Test.YtcdnlkhjlgaaoaaGreatDoorClF
namespace Go.Proofs.YtcdnlkhjlgaaoaaGreatDoor
open Go.ChangeShapes Go.WideShapes Go.ChangeAt Go.RowKit Go.PlainAid

/-- What Edit gives. -/
def edtE (E : EdD) (d : List OpD) : EdD × Int :=
  if mayE E = false then (zeroE, 200) else if chk d ≠ 0 then (zeroE, chk d) else if (bsum (stR d) : Int) ≠ cpl E.t then (zeroE, 91) else
  if E.p.length = 8 ∨ E.s = 100000 then (zeroE, 201) else if (encE (edE E d)).2 ≠ 0 then (zeroE, (encE (edE E d)).2) else (edE E d, 0)
set_option maxRecDepth 20000 in
set_option maxHeartbeats 1000000 in
theorem edit_form (E : EdD) (d : List OpD) (v u : Value) (w : World) (hr : RdEd w v E.p) (hd : RdD w u d) (hV : VS w) (hF : E.Fit) (hdl : d.length ≤ maxLen) (hdi : ∀ o ∈ d, o.In) (hm : mayE E = false) :
    Calls Tryz.prog 27 #[.agg (E.fs v), u] w fun e w' => e = .returned (.tuple #[.agg (zeroE.fs (.slice none 0 0)), .int .i64 (200)]) ∧ Below w.heap.size w w' := by
  have hx0 := eb_new w E v
  have hA0 := alloc_b w (.cells (E.fs v) 24)
  have hx := hx0.below (alloc_b _ (.cells (zeroE.fs (.slice none 0 0)) 24))
  have hy := eb_new (w.alloc (.cells (E.fs v) 24)) zeroE (.slice none 0 0)
  have hA := chain hA0 (alloc_b (w.alloc (.cells (E.fs v) 24)) (.cells (zeroE.fs (.slice none 0 0)) 24))
  rw [World.size_alloc] at hy
  obtain ⟨av, kv, rfl⟩ := rded_len hr
  obtain ⟨au, ku, rfl⟩ := rdd_len hd
  have cM := mayBe_any E _ _ (hr.below hA) (hV.below hA) hF
  have cB := fun W (h : Below w.heap.size w W) => base_any _ d W (hd.below h) hdl hdi
  have cL := fun W (h : Below w.heap.size w W) => clen_any E.t W (hV.below h) (by have := hF.t1; omega)
  rw [hm] at cM
  simp only [EdD.fs, zeroE] at hA hx hy cM ⊢
  clear hx0 hA0
  go_enter Tryz.func27, Tryz.ntmps27
  go_wp2_with fail
  refine cM.mono ?_
  rintro e w1 ⟨rfl, hb1⟩
  have hx1 := hx.below hb1
  have hy1 := hy.below hb1
  have hB1 := chain hA hb1
  obtain ⟨y0, y1, y2, y3, y4, y5⟩ := cellsEB hy1
  obtain ⟨fy0, fy1, fy2, fy3, fy4, fy5⟩ := EB.frz hy1
  go_wp2_with fail
  have hfin := hy1.put zeroE (.slice none 0 0)
  refine bodyPost_ret (results_row_tmpC rfl _ _ (w.heap.size + 1) 24 _ (0, 0) _ rfl hfin Tryz.underlying24 rfl Tryz.sizeEr) rfl ?_
  exact ⟨rfl, below_putE hB1 (by omega) zeroE (.slice none 0 0)⟩
set_option maxRecDepth 20000 in
set_option maxHeartbeats 1000000 in
theorem edit_delta (E : EdD) (d : List OpD) (v u : Value) (w : World) (hr : RdEd w v E.p) (hd : RdD w u d) (hV : VS w) (hF : E.Fit) (hdl : d.length ≤ maxLen) (hdi : ∀ o ∈ d, o.In) (hm : mayE E = true) (hc : chk d ≠ 0) :
    Calls Tryz.prog 27 #[.agg (E.fs v), u] w fun e w' => e = .returned (.tuple #[.agg (zeroE.fs (.slice none 0 0)), .int .i64 (chk d)]) ∧ Below w.heap.size w w' := by
  have hx0 := eb_new w E v
  have hA0 := alloc_b w (.cells (E.fs v) 24)
  have hx := hx0.below (alloc_b _ (.cells (zeroE.fs (.slice none 0 0)) 24))
  have hy := eb_new (w.alloc (.cells (E.fs v) 24)) zeroE (.slice none 0 0)
  have hA := chain hA0 (alloc_b (w.alloc (.cells (E.fs v) 24)) (.cells (zeroE.fs (.slice none 0 0)) 24))
  rw [World.size_alloc] at hy
  obtain ⟨av, kv, rfl⟩ := rded_len hr
  obtain ⟨au, ku, rfl⟩ := rdd_len hd
  have cM := mayBe_any E _ _ (hr.below hA) (hV.below hA) hF
  have cB := fun W (h : Below w.heap.size w W) => base_any _ d W (hd.below h) hdl hdi
  have cL := fun W (h : Below w.heap.size w W) => clen_any E.t W (hV.below h) (by have := hF.t1; omega)
  rw [hm] at cM
  simp only [EdD.fs, zeroE] at hA hx hy cM ⊢
  clear hx0 hA0
  go_enter Tryz.func27, Tryz.ntmps27
  go_wp2_with fail
  refine cM.mono ?_
  rintro e w1 ⟨rfl, hb1⟩
  have hx1 := hx.below hb1
  have hy1 := hy.below hb1
  have hB1 := chain hA hb1
  have hcb : (chk d == 0) = false := beq_eq_false_iff_ne.2 hc
  go_wp2_with fail
  refine (cB _ hB1).mono ?_
  rintro e w2 ⟨rfl, hb2⟩
  have hx2 := hx1.below hb2
  have hy2 := hy1.below hb2
  have hB2 := chain hB1 hb2
  obtain ⟨y0, y1, y2, y3, y4, y5⟩ := cellsEB hy2
  obtain ⟨fy0, fy1, fy2, fy3, fy4, fy5⟩ := EB.frz hy2
  go_wp2_with fail
  have hfin := hy2.put zeroE (.slice none 0 0)
  refine bodyPost_ret (results_row_tmpC rfl _ _ (w.heap.size + 1) 24 _ (0, 0) _ rfl hfin Tryz.underlying24 rfl Tryz.sizeEr) rfl ?_
  exact ⟨rfl, below_putE hB2 (by omega) zeroE (.slice none 0 0)⟩
set_option maxRecDepth 20000 in
set_option maxHeartbeats 1000000 in
theorem edit_length (E : EdD) (d : List OpD) (v u : Value) (w : World) (hr : RdEd w v E.p) (hd : RdD w u d) (hV : VS w) (hF : E.Fit) (hdl : d.length ≤ maxLen) (hdi : ∀ o ∈ d, o.In) (hm : mayE E = true) (hc : chk d = 0) (hl : (bsum (stR d) : Int) ≠ cpl E.t) :
    Calls Tryz.prog 27 #[.agg (E.fs v), u] w fun e w' => e = .returned (.tuple #[.agg (zeroE.fs (.slice none 0 0)), .int .i64 (91)]) ∧ Below w.heap.size w w' := by
  have hx0 := eb_new w E v
  have hA0 := alloc_b w (.cells (E.fs v) 24)
  have hx := hx0.below (alloc_b _ (.cells (zeroE.fs (.slice none 0 0)) 24))
  have hy := eb_new (w.alloc (.cells (E.fs v) 24)) zeroE (.slice none 0 0)
  have hA := chain hA0 (alloc_b (w.alloc (.cells (E.fs v) 24)) (.cells (zeroE.fs (.slice none 0 0)) 24))
  rw [World.size_alloc] at hy
  obtain ⟨av, kv, rfl⟩ := rded_len hr
  obtain ⟨au, ku, rfl⟩ := rdd_len hd
  have cM := mayBe_any E _ _ (hr.below hA) (hV.below hA) hF
  have cB := fun W (h : Below w.heap.size w W) => base_any _ d W (hd.below h) hdl hdi
  have cL := fun W (h : Below w.heap.size w W) => clen_any E.t W (hV.below h) (by have := hF.t1; omega)
  rw [hm] at cM
  simp only [EdD.fs, zeroE] at hA hx hy cM ⊢
  clear hx0 hA0
  go_enter Tryz.func27, Tryz.ntmps27
  go_wp2_with fail
  refine cM.mono ?_
  rintro e w1 ⟨rfl, hb1⟩
  have hx1 := hx.below hb1
  have hy1 := hy.below hb1
  have hB1 := chain hA hb1
  rw [hc] at cB
  have hlb : ((bsum (stR d) : Int) == cpl E.t) = false := beq_eq_false_iff_ne.2 hl
  go_wp2_with fail
  refine (cB _ hB1).mono ?_
  rintro e w2 ⟨rfl, hb2⟩
  have hx2 := hx1.below hb2
  have hy2 := hy1.below hb2
  have hB2 := chain hB1 hb2
  obtain ⟨x0, x1, x2, x3, x4, x5⟩ := cellsEB hx2
  go_wp2_with fail
  refine (cL _ hB2).mono ?_
  rintro e w3 ⟨rfl, hb3⟩
  have hx3 := hx2.below hb3
  have hy3 := hy2.below hb3
  have hB3 := chain hB2 hb3
  obtain ⟨y0, y1, y2, y3, y4, y5⟩ := cellsEB hy3
  obtain ⟨fy0, fy1, fy2, fy3, fy4, fy5⟩ := EB.frz hy3
  go_wp2_with fail
  have hfin := hy3.put zeroE (.slice none 0 0)
  refine bodyPost_ret (results_row_tmpC rfl _ _ (w.heap.size + 1) 24 _ (0, 0) _ rfl hfin Tryz.underlying24 rfl Tryz.sizeEr) rfl ?_
  exact ⟨rfl, below_putE hB3 (by omega) zeroE (.slice none 0 0)⟩
set_option maxRecDepth 20000 in
set_option maxHeartbeats 1000000 in
theorem edit_full (E : EdD) (d : List OpD) (v u : Value) (w : World) (hr : RdEd w v E.p) (hd : RdD w u d) (hV : VS w) (hF : E.Fit) (hdl : d.length ≤ maxLen) (hdi : ∀ o ∈ d, o.In) (hm : mayE E = true) (hc : chk d = 0) (hl : (bsum (stR d) : Int) = cpl E.t) (h8 : E.p.length = 8 ∨ E.s = 100000) :
    Calls Tryz.prog 27 #[.agg (E.fs v), u] w fun e w' => e = .returned (.tuple #[.agg (zeroE.fs (.slice none 0 0)), .int .i64 (201)]) ∧ Below w.heap.size w w' := by
  have hx0 := eb_new w E v
  have hA0 := alloc_b w (.cells (E.fs v) 24)
  have hx := hx0.below (alloc_b _ (.cells (zeroE.fs (.slice none 0 0)) 24))
  have hy := eb_new (w.alloc (.cells (E.fs v) 24)) zeroE (.slice none 0 0)
  have hA := chain hA0 (alloc_b (w.alloc (.cells (E.fs v) 24)) (.cells (zeroE.fs (.slice none 0 0)) 24))
  rw [World.size_alloc] at hy
  obtain ⟨av, kv, rfl⟩ := rded_len hr
  obtain ⟨au, ku, rfl⟩ := rdd_len hd
  have cM := mayBe_any E _ _ (hr.below hA) (hV.below hA) hF
  have cB := fun W (h : Below w.heap.size w W) => base_any _ d W (hd.below h) hdl hdi
  have cL := fun W (h : Below w.heap.size w W) => clen_any E.t W (hV.below h) (by have := hF.t1; omega)
  rw [hm] at cM
  simp only [EdD.fs, zeroE] at hA hx hy cM ⊢
  clear hx0 hA0
  go_enter Tryz.func27, Tryz.ntmps27
  go_wp2_with fail
  refine cM.mono ?_
  rintro e w1 ⟨rfl, hb1⟩
  have hx1 := hx.below hb1
  have hy1 := hy.below hb1
  have hB1 := chain hA hb1
  rw [hc] at cB
  rw [hl] at cB
  clear hl
  go_wp2_with fail
  refine (cB _ hB1).mono ?_
  rintro e w2 ⟨rfl, hb2⟩
  have hx2 := hx1.below hb2
  have hy2 := hy1.below hb2
  have hB2 := chain hB1 hb2
  obtain ⟨x0, x1, x2, x3, x4, x5⟩ := cellsEB hx2
  go_wp2_with fail
  refine (cL _ hB2).mono ?_
  rintro e w3 ⟨rfl, hb3⟩
  have hx3 := hx2.below hb3
  have hy3 := hy2.below hb3
  have hB3 := chain hB2 hb3
  replace x0 := (cellsEB hx3).1
  obtain ⟨-, -, -, z3, z4, z5⟩ := cellsEB hx3
  by_cases h1 : E.p.length = 8
  · have h1b : ((E.p.length : Int) == 8) = true := beq_iff_eq.2 (by omega)
    clear h8 h1
    obtain ⟨y0, y1, y2, y3, y4, y5⟩ := cellsEB hy3
    obtain ⟨fy0, fy1, fy2, fy3, fy4, fy5⟩ := EB.frz hy3
    go_wp2_with fail
    have hfin := hy3.put zeroE (.slice none 0 0)
    refine bodyPost_ret (results_row_tmpC rfl _ _ (w.heap.size + 1) 24 _ (0, 0) _ rfl hfin Tryz.underlying24 rfl Tryz.sizeEr) rfl ?_
    exact ⟨rfl, below_putE hB3 (by omega) zeroE (.slice none 0 0)⟩
  · have h1b : ((E.p.length : Int) == 8) = false := beq_eq_false_iff_ne.2 (by omega)
    have h2b : (E.s == 100000) = true := beq_iff_eq.2 (by omega)
    clear h8 h1
    obtain ⟨y0, y1, y2, y3, y4, y5⟩ := cellsEB hy3
    obtain ⟨fy0, fy1, fy2, fy3, fy4, fy5⟩ := EB.frz hy3
    go_wp2_with fail
    have hfin := hy3.put zeroE (.slice none 0 0)
    refine bodyPost_ret (results_row_tmpC rfl _ _ (w.heap.size + 1) 24 _ (0, 0) _ rfl hfin Tryz.underlying24 rfl Tryz.sizeEr) rfl ?_
    exact ⟨rfl, below_putE hB3 (by omega) zeroE (.slice none 0 0)⟩
end Go.Proofs.YtcdnlkhjlgaaoaaGreatDoor

/-
  Edit, where it does not refuse.
-/
namespace Go.Proofs.YtcdnlkhjlgaaoaaGreatDoor
open Go.ChangeShapes Go.WideShapes Go.ChangeAt Go.RowKit Go.PlainAid

set_option maxRecDepth 20000 in
set_option maxHeartbeats 3000000 in
theorem edit_go' (E EE : EdD) (d : List OpD) (v u : Value) (w : World) (hr : RdEd w v E.p) (hd : RdD w u d) (hV : VS w) (hF : E.Fit) (hdl : d.length ≤ maxLen) (hdi : ∀ o ∈ d, o.In) (hm : mayE E = true) (hc : chk d = 0) (hl : (bsum (stR d) : Int) = cpl E.t) (h8 : ¬ (E.p.length = 8 ∨ E.s = 100000)) (hEE : edE E d = EE) (hFe : EE.Fit) :
    Calls Tryz.prog 27 #[.agg (E.fs v), u] w fun e w' => ∃ v' us, e = .returned (.tuple #[.agg ((if (encE EE).2 = 0 then EE else zeroE).fs v'), .int .i64 (encE EE).2]) ∧ ((encE EE).2 = 0 → OwEd w' w.heap.size v' EE.p us) ∧ ((encE EE).2 ≠ 0 → v' = .slice none 0 0) ∧ Below w.heap.size w w' := by
  have hx0 := eb_new w E v
  have hA0 := alloc_b w (.cells (E.fs v) 24)
  have hx := hx0.below (alloc_b _ (.cells (zeroE.fs (.slice none 0 0)) 24))
  have hy := eb_new (w.alloc (.cells (E.fs v) 24)) zeroE (.slice none 0 0)
  have hA := chain hA0 (alloc_b (w.alloc (.cells (E.fs v) 24)) (.cells (zeroE.fs (.slice none 0 0)) 24))
  rw [World.size_alloc] at hy
  obtain ⟨av, kv, rfl⟩ := rded_len hr
  obtain ⟨au, ku, rfl⟩ := rdd_len hd
  have cM := mayBe_any E _ _ (hr.below hA) (hV.below hA) hF
  have cB := fun W (h : Below w.heap.size w W) => base_any _ d W (hd.below h) hdl hdi
  have cL := fun W (h : Below w.heap.size w W) => clen_any E.t W (hV.below h) (by have := hF.t1; omega)
  have hM := (may_iff E).1 hm
  have hp8 := hM.p8
  have hs1 := hM.s1
  have hs0 := hM.s0
  have ht4 := size_smallL hM.t0 hM.t1
  have cE := fun W (h : Below w.heap.size w W) => edited_any E d _ _ W (hr.below h) (hd.below h) hF (by omega) (by omega) (by omega) hdl hdi (by unfold maxLen; omega)
  have cX := fun W v' us B (h : Below w.heap.size w W) (ho : OwEd W B v' EE.p us) => cencode_any EE v' W ho.rd (hV.below h) hFe
  rw [hEE] at cE
  clear hM
  rw [hm] at cM
  simp only [EdD.fs, zeroE] at hA hx hy cM ⊢
  clear hx0 hA0
  go_enter Tryz.func27, Tryz.ntmps27
  go_wp2_with fail
  refine cM.mono ?_
  rintro e w1 ⟨rfl, hb1⟩
  have hx1 := hx.below hb1
  have hy1 := hy.below hb1
  have hB1 := chain hA hb1
  rw [hc] at cB
  rw [hl] at cB
  clear hl
  go_wp2_with fail
  refine (cB _ hB1).mono ?_
  rintro e w2 ⟨rfl, hb2⟩
  have hx2 := hx1.below hb2
  have hy2 := hy1.below hb2
  have hB2 := chain hB1 hb2
  obtain ⟨x0, x1, x2, x3, x4, x5⟩ := cellsEB hx2
  go_wp2_with fail
  refine (cL _ hB2).mono ?_
  rintro e w3 ⟨rfl, hb3⟩
  have hx3 := hx2.below hb3
  have hy3 := hy2.below hb3
  have hB3 := chain hB2 hb3
  replace x0 := (cellsEB hx3).1
  obtain ⟨-, -, -, z3, z4, z5⟩ := cellsEB hx3
  have h1b : ((E.p.length : Int) == 8) = false := beq_eq_false_iff_ne.2 (by omega)
  have h2b : (E.s == 100000) = false := beq_eq_false_iff_ne.2 (by omega)
  clear h8
  obtain ⟨z0, z1, z2, -, -, -⟩ := cellsEB hx3
  simp only [EdD.fs] at cE cX
  go_wp2_with fail
  refine (cE _ hB3).mono ?_
  rintro e w4 ⟨v4, us, rfl, ho4, hb4⟩
  obtain ⟨a4, k4, rfl⟩ := own_form ho4.row
  have hx4 := hx3.below hb4
  have hy4 := hy3.below hb4
  have hB4 := chain hB3 hb4
  have hg4 := hy3.lt
  obtain ⟨fx0, fx1, fx2, fx3, fx4, fx5⟩ := EB.frz hx4
  obtain ⟨q0, q1, q2, q3, q4, q5⟩ := cellsEB hx4
  have hx5 := hx4.put EE (.slice a4 EE.p.length k4)
  have hB5 := below_putE hB4 (Nat.le_refl _) EE (.slice a4 EE.p.length k4)
  have hn := fun k (hk : k ≠ w.heap.size) (i : Nat) (x : Value) (W : World) => Below.heap_setCell W ⟨w.heap.size, i, none⟩ x k hk
  have hy5 := (hn (w.heap.size + 1) (by omega) 5 (.slice a4 EE.p.length k4) _).trans ((hn _ (by omega) 4 (.int .i64 EE.s) _).trans ((hn _ (by omega) 3 (.string EE.t) _).trans ((hn _ (by omega) 2 (.int .i64 EE.r) _).trans ((hn _ (by omega) 1 (.int .i64 EE.b) _).trans ((hn _ (by omega) 0 (.int .i64 EE.c) _).trans hy4)))))
  have ho5 := (((((ho4.set (a := ⟨w.heap.size, 0, none⟩) (by simp only; omega) (.int .i64 EE.c)).set (a := ⟨w.heap.size, 1, none⟩) (by simp only; omega) (.int .i64 EE.b)).set (a := ⟨w.heap.size, 2, none⟩) (by simp only; omega) (.int .i64 EE.r)).set (a := ⟨w.heap.size, 3, none⟩) (by simp only; omega) (.string EE.t)).set (a := ⟨w.heap.size, 4, none⟩) (by simp only; omega) (.int .i64 EE.s)).set (a := ⟨w.heap.size, 5, none⟩) (by simp only; omega) (.slice a4 EE.p.length k4)
  clear hn
  go_wp2_with fail
  have cY := cX _ _ _ _ hB5 ho5
  refine cY.mono ?_
  rintro e w6 ⟨rfl, hb6⟩
  have hx6 := hx5.below hb6
  have hy6 : EB w6 (w.heap.size + 1) zeroE (.slice none 0 0) := (hb6.block _ (EB.lt' hy5)).trans hy5
  have hB6 := chain hB5 hb6
  have ho6 := ho5.below hb6
  clear cX cY cE cB cL cM
  obtain ⟨r0, r1, r2, r3, r4, r5⟩ := cellsEB hx6
  have hw3 : w.heap.size + 1 < w3.heap.size := hg4
  clear q0 q1 q2 q3 q4 q5 z0 z1 z2 z3 z4 z5 x0 x1 x2 x3 x4 x5 fx0 fx1 fx2 fx3 fx4 fx5 hx5 hy5 hB5 hb6 ho5 ho4 hx4 hy4 hB4 hb4 hx3 hy3 hx2 hy2 hx1 hy1 hx hy hB2 hB1 hb1 hb2 hb3
  by_cases hc0 : (encE EE).2 = 0
  · have hcb : ((encE EE).2 == 0) = true := beq_iff_eq.2 hc0
    have hcn : ((encE EE).2 != 0) = false := by rw [bne, hcb]; rfl
    have HC : Hid ((encE EE).2 = 0) := hc0
    clear hc0
    obtain ⟨y0, y1, y2, y3, y4, y5⟩ := cellsEB hy6
    obtain ⟨fy0, fy1, fy2, fy3, fy4, fy5⟩ := EB.frz hy6
    go_wp2_with fail
    have hfin := hy6.put EE (.slice a4 EE.p.length k4)
    refine bodyPost_ret (results_row_tmpC rfl _ _ (w.heap.size + 1) 24 _ (0, 0) _ rfl hfin Tryz.underlying24 rfl Tryz.sizeEr) rfl ?_
    refine ⟨_, rfl, ⟨us, ?_⟩, below_putE hB6 (by omega) EE _⟩
    · refine OwEd.lower (B := w3.heap.size) ?_ (by omega)
      exact (((((ho6.set (a := ⟨w.heap.size + 1, 0, none⟩) (by simp only; omega) _).set (a := ⟨w.heap.size + 1, 1, none⟩) (by simp only; omega) _).set (a := ⟨w.heap.size + 1, 2, none⟩) (by simp only; omega) _).set (a := ⟨w.heap.size + 1, 3, none⟩) (by simp only; omega) _).set (a := ⟨w.heap.size + 1, 4, none⟩) (by simp only; omega) _).set (a := ⟨w.heap.size + 1, 5, none⟩) (by simp only; omega) _
  · have hcb : ((encE EE).2 == 0) = false := beq_eq_false_iff_ne.2 hc0
    have hcn : ((encE EE).2 != 0) = true := by rw [bne, hcb]; rfl
    obtain ⟨y0, y1, y2, y3, y4, y5⟩ := cellsEB hy6
    obtain ⟨fy0, fy1, fy2, fy3, fy4, fy5⟩ := EB.frz hy6
    go_wp2_with fail
    have hfin := hy6.put zeroE (.slice none 0 0)
    refine bodyPost_ret (results_row_tmpC rfl _ _ (w.heap.size + 1) 24 _ (0, 0) _ rfl hfin Tryz.underlying24 rfl Tryz.sizeEr) rfl ?_
    exact ⟨_, rfl, rfl, below_putE hB6 (by omega) zeroE _⟩

theorem edit_go (E : EdD) (d : List OpD) (v u : Value) (w : World) (hr : RdEd w v E.p) (hd : RdD w u d) (hV : VS w) (hF : E.Fit) (hdl : d.length ≤ maxLen) (hdi : ∀ o ∈ d, o.In) (hm : mayE E = true) (hc : chk d = 0) (hl : (bsum (stR d) : Int) = cpl E.t) (h8 : ¬ (E.p.length = 8 ∨ E.s = 100000)) (hFe : (edE E d).Fit) :
    Calls Tryz.prog 27 #[.agg (E.fs v), u] w fun e w' => ∃ v' us, e = .returned (.tuple #[.agg ((if (encE (edE E d)).2 = 0 then edE E d else zeroE).fs v'), .int .i64 (encE (edE E d)).2]) ∧ ((encE (edE E d)).2 = 0 → OwEd w' w.heap.size v' (edE E d).p us) ∧ ((encE (edE E d)).2 ≠ 0 → v' = .slice none 0 0) ∧ Below w.heap.size w w' :=
  edit_go' E _ d v u w hr hd hV hF hdl hdi hm hc hl h8 rfl hFe
end Go.Proofs.YtcdnlkhjlgaaoaaGreatDoor

/-
  Messages; fits, isOwn.
-/
namespace Go.Proofs.YtcdnlkhjlgaaoaaGreatDoor
open Go.ChangeShapes Go.WideShapes Go.ChangeAt Go.RowKit Go.PlainAid

/-- A message: Kind, Branch, Client, Seq, Rev, Who, Delta. -/
structure MsD where
  k : Int
  b : Int
  c : Int
  s : Int
  r : Int
  y : Int
  d : List OpD
/-- Its fields, the Delta lying at v. -/
def MsD.fs (m : MsD) (v : Value) : Array Value := #[.int .i64 m.k, .int .i64 m.b, .int .i64 m.c, .int .i64 m.s, .int .i64 m.r, .int .i64 m.y, v]
def MB (W : World) (g : Nat) (m : MsD) (v : Value) : Prop := W.heap[g]? = some (.cells #[.int .i64 m.k, .int .i64 m.b, .int .i64 m.c, .int .i64 m.s, .int .i64 m.r, .int .i64 m.y, v] 64)
theorem MB.below {W W' : World} {g : Nat} {m : MsD} {v : Value} (h : MB W g m v) (hb : Below W.heap.size W W') : MB W' g m v := (hb.block g (EB.lt' h)).trans h
theorem cellsMB {W : World} {g : Nat} {m : MsD} {v : Value} (h : MB W g m v) : W.cell? ⟨g, 0, none⟩ = some (.int .i64 m.k) ∧ W.cell? ⟨g, 1, none⟩ = some (.int .i64 m.b) ∧ W.cell? ⟨g, 2, none⟩ = some (.int .i64 m.c) ∧ W.cell? ⟨g, 3, none⟩ = some (.int .i64 m.s) ∧ W.cell? ⟨g, 4, none⟩ = some (.int .i64 m.r) ∧ W.cell? ⟨g, 5, none⟩ = some (.int .i64 m.y) ∧ W.cell? ⟨g, 6, none⟩ = some v := by
  have q := fun j => cell_of_row W g j _ _ (0, 0) h
  exact ⟨q 0, q 1, q 2, q 3, q 4, q 5, q 6⟩
theorem mb_new (w : World) (m : MsD) (v : Value) : MB (w.alloc (.cells #[.int .i64 m.k, .int .i64 m.b, .int .i64 m.c, .int .i64 m.s, .int .i64 m.r, .int .i64 m.y, v] 64)) w.heap.size m v := heap_alloc_new w _
/-- What fits answers. -/
def fitC (E : EdD) (m : MsD) : Int :=
  if m.k ≠ 3 ∨ m.c ≠ E.c ∨ m.b ≠ E.b then 1 else if m.r ≤ E.r then 196 else if m.r ≠ E.r + 1 then 197 else if chk m.d ≠ 0 then chk m.d else if (bsum (stR m.d) : Int) ≠ baseE E then 91 else 0
set_option maxRecDepth 20000 in
set_option maxHeartbeats 1000000 in
theorem fits_k (E : EdD) (m : MsD) (v u : Value) (w : World) (hr : RdEd w v E.p) (hd : RdD w u m.d) (_hV : VS w) (_hF : E.Fit) (_hdl : m.d.length ≤ maxLen) (_hdi : ∀ o ∈ m.d, o.In) (h0 : 0 ≤ E.r) (h1 : E.r ≤ 1000000) (hk : m.k ≠ 3) :
    Calls Tryz.prog 56 #[.agg (E.fs v), .agg (m.fs u)] w fun e w' => e = .returned (.int .i64 (1)) ∧ Below w.heap.size w w' := by
  obtain ⟨c, b, r, t, s, p⟩ := E
  obtain ⟨mk, mb, mc, ms, mr, my, md⟩ := m
  simp only at *
  have hx0 := eb_new w ⟨c, b, r, t, s, p⟩ v
  have hx := hx0.below (alloc_b _ (.cells (MsD.fs ⟨mk, mb, mc, ms, mr, my, md⟩ u) 64))
  have hy := mb_new (w.alloc (.cells (EdD.fs ⟨c, b, r, t, s, p⟩ v) 24)) ⟨mk, mb, mc, ms, mr, my, md⟩ u
  have hA := chain (alloc_b w (.cells (EdD.fs ⟨c, b, r, t, s, p⟩ v) 24)) (alloc_b (w.alloc (.cells (EdD.fs ⟨c, b, r, t, s, p⟩ v) 24)) (.cells (MsD.fs ⟨mk, mb, mc, ms, mr, my, md⟩ u) 64))
  rw [World.size_alloc] at hy
  obtain ⟨av, kv, rfl⟩ := rded_len hr
  obtain ⟨au, ku, rfl⟩ := rdd_len hd
  have hkb : (mk != 3) = true := bne_iff_ne.2 hk
  have hkc : (mk == 3) = false := beq_eq_false_iff_ne.2 hk
  clear hk
  simp only [EdD.fs, MsD.fs] at hx hy hA ⊢
  clear hx0
  clear hr hd
  obtain ⟨x0, x1, x2, x3, x4, x5⟩ := cellsEB hx
  obtain ⟨z0, z1, z2, z3, z4, z5, z6⟩ := cellsMB hy
  go_enter Tryz.func56, Tryz.ntmps56
  go_wp2
  go_ret
  exact ⟨rfl, hA⟩
set_option maxRecDepth 20000 in
set_option maxHeartbeats 1000000 in
theorem fits_c (E : EdD) (m : MsD) (v u : Value) (w : World) (hr : RdEd w v E.p) (hd : RdD w u m.d) (_hV : VS w) (_hF : E.Fit) (_hdl : m.d.length ≤ maxLen) (_hdi : ∀ o ∈ m.d, o.In) (h0 : 0 ≤ E.r) (h1 : E.r ≤ 1000000) (hk : m.k = 3) (hc : m.c ≠ E.c) :
    Calls Tryz.prog 56 #[.agg (E.fs v), .agg (m.fs u)] w fun e w' => e = .returned (.int .i64 (1)) ∧ Below w.heap.size w w' := by
  obtain ⟨c, b, r, t, s, p⟩ := E
  obtain ⟨mk, mb, mc, ms, mr, my, md⟩ := m
  simp only at *
  have hx0 := eb_new w ⟨c, b, r, t, s, p⟩ v
  have hx := hx0.below (alloc_b _ (.cells (MsD.fs ⟨mk, mb, mc, ms, mr, my, md⟩ u) 64))
  have hy := mb_new (w.alloc (.cells (EdD.fs ⟨c, b, r, t, s, p⟩ v) 24)) ⟨mk, mb, mc, ms, mr, my, md⟩ u
  have hA := chain (alloc_b w (.cells (EdD.fs ⟨c, b, r, t, s, p⟩ v) 24)) (alloc_b (w.alloc (.cells (EdD.fs ⟨c, b, r, t, s, p⟩ v) 24)) (.cells (MsD.fs ⟨mk, mb, mc, ms, mr, my, md⟩ u) 64))
  rw [World.size_alloc] at hy
  obtain ⟨av, kv, rfl⟩ := rded_len hr
  obtain ⟨au, ku, rfl⟩ := rdd_len hd
  subst hk
  have hcb : (mc != c) = true := bne_iff_ne.2 hc
  have hcc : (mc == c) = false := beq_eq_false_iff_ne.2 hc
  clear hc
  simp only [EdD.fs, MsD.fs] at hx hy hA ⊢
  clear hx0
  clear hr hd
  obtain ⟨x0, x1, x2, x3, x4, x5⟩ := cellsEB hx
  obtain ⟨z0, z1, z2, z3, z4, z5, z6⟩ := cellsMB hy
  go_enter Tryz.func56, Tryz.ntmps56
  go_wp2
  go_ret
  exact ⟨rfl, hA⟩
set_option maxRecDepth 20000 in
set_option maxHeartbeats 1000000 in
theorem fits_b (E : EdD) (m : MsD) (v u : Value) (w : World) (hr : RdEd w v E.p) (hd : RdD w u m.d) (_hV : VS w) (_hF : E.Fit) (_hdl : m.d.length ≤ maxLen) (_hdi : ∀ o ∈ m.d, o.In) (h0 : 0 ≤ E.r) (h1 : E.r ≤ 1000000) (hk : m.k = 3) (hc : m.c = E.c) (hb : m.b ≠ E.b) :
    Calls Tryz.prog 56 #[.agg (E.fs v), .agg (m.fs u)] w fun e w' => e = .returned (.int .i64 (1)) ∧ Below w.heap.size w w' := by
  obtain ⟨c, b, r, t, s, p⟩ := E
  obtain ⟨mk, mb, mc, ms, mr, my, md⟩ := m
  simp only at *
  have hx0 := eb_new w ⟨c, b, r, t, s, p⟩ v
  have hx := hx0.below (alloc_b _ (.cells (MsD.fs ⟨mk, mb, mc, ms, mr, my, md⟩ u) 64))
  have hy := mb_new (w.alloc (.cells (EdD.fs ⟨c, b, r, t, s, p⟩ v) 24)) ⟨mk, mb, mc, ms, mr, my, md⟩ u
  have hA := chain (alloc_b w (.cells (EdD.fs ⟨c, b, r, t, s, p⟩ v) 24)) (alloc_b (w.alloc (.cells (EdD.fs ⟨c, b, r, t, s, p⟩ v) 24)) (.cells (MsD.fs ⟨mk, mb, mc, ms, mr, my, md⟩ u) 64))
  rw [World.size_alloc] at hy
  obtain ⟨av, kv, rfl⟩ := rded_len hr
  obtain ⟨au, ku, rfl⟩ := rdd_len hd
  subst hk
  subst hc
  have hbb : (mb != b) = true := bne_iff_ne.2 hb
  have hbc : (mb == b) = false := beq_eq_false_iff_ne.2 hb
  clear hb
  simp only [EdD.fs, MsD.fs] at hx hy hA ⊢
  clear hx0
  clear hr hd
  obtain ⟨x0, x1, x2, x3, x4, x5⟩ := cellsEB hx
  obtain ⟨z0, z1, z2, z3, z4, z5, z6⟩ := cellsMB hy
  go_enter Tryz.func56, Tryz.ntmps56
  go_wp2
  go_ret
  exact ⟨rfl, hA⟩
set_option maxRecDepth 20000 in
set_option maxHeartbeats 1000000 in
theorem fits_old (E : EdD) (m : MsD) (v u : Value) (w : World) (hr : RdEd w v E.p) (hd : RdD w u m.d) (_hV : VS w) (_hF : E.Fit) (_hdl : m.d.length ≤ maxLen) (_hdi : ∀ o ∈ m.d, o.In) (h0 : 0 ≤ E.r) (h1 : E.r ≤ 1000000) (hk : m.k = 3) (hc : m.c = E.c) (hb : m.b = E.b) (ho : m.r ≤ E.r) :
    Calls Tryz.prog 56 #[.agg (E.fs v), .agg (m.fs u)] w fun e w' => e = .returned (.int .i64 (196)) ∧ Below w.heap.size w w' := by
  obtain ⟨c, b, r, t, s, p⟩ := E
  obtain ⟨mk, mb, mc, ms, mr, my, md⟩ := m
  simp only at *
  have hx0 := eb_new w ⟨c, b, r, t, s, p⟩ v
  have hx := hx0.below (alloc_b _ (.cells (MsD.fs ⟨mk, mb, mc, ms, mr, my, md⟩ u) 64))
  have hy := mb_new (w.alloc (.cells (EdD.fs ⟨c, b, r, t, s, p⟩ v) 24)) ⟨mk, mb, mc, ms, mr, my, md⟩ u
  have hA := chain (alloc_b w (.cells (EdD.fs ⟨c, b, r, t, s, p⟩ v) 24)) (alloc_b (w.alloc (.cells (EdD.fs ⟨c, b, r, t, s, p⟩ v) 24)) (.cells (MsD.fs ⟨mk, mb, mc, ms, mr, my, md⟩ u) 64))
  rw [World.size_alloc] at hy
  obtain ⟨av, kv, rfl⟩ := rded_len hr
  obtain ⟨au, ku, rfl⟩ := rdd_len hd
  subst hk
  subst hc
  subst hb
  simp only [EdD.fs, MsD.fs] at hx hy hA ⊢
  clear hx0
  clear hr hd
  obtain ⟨x0, x1, x2, x3, x4, x5⟩ := cellsEB hx
  obtain ⟨z0, z1, z2, z3, z4, z5, z6⟩ := cellsMB hy
  go_enter Tryz.func56, Tryz.ntmps56
  go_wp2
  go_ret
  exact ⟨rfl, hA⟩
set_option maxRecDepth 20000 in
set_option maxHeartbeats 1000000 in
theorem fits_gap (E : EdD) (m : MsD) (v u : Value) (w : World) (hr : RdEd w v E.p) (hd : RdD w u m.d) (_hV : VS w) (_hF : E.Fit) (_hdl : m.d.length ≤ maxLen) (_hdi : ∀ o ∈ m.d, o.In) (h0 : 0 ≤ E.r) (h1 : E.r ≤ 1000000) (hk : m.k = 3) (hc : m.c = E.c) (hb : m.b = E.b) (ho : ¬ m.r ≤ E.r) (hg : m.r ≠ E.r + 1) :
    Calls Tryz.prog 56 #[.agg (E.fs v), .agg (m.fs u)] w fun e w' => e = .returned (.int .i64 (197)) ∧ Below w.heap.size w w' := by
  obtain ⟨c, b, r, t, s, p⟩ := E
  obtain ⟨mk, mb, mc, ms, mr, my, md⟩ := m
  simp only at *
  have hx0 := eb_new w ⟨c, b, r, t, s, p⟩ v
  have hx := hx0.below (alloc_b _ (.cells (MsD.fs ⟨mk, mb, mc, ms, mr, my, md⟩ u) 64))
  have hy := mb_new (w.alloc (.cells (EdD.fs ⟨c, b, r, t, s, p⟩ v) 24)) ⟨mk, mb, mc, ms, mr, my, md⟩ u
  have hA := chain (alloc_b w (.cells (EdD.fs ⟨c, b, r, t, s, p⟩ v) 24)) (alloc_b (w.alloc (.cells (EdD.fs ⟨c, b, r, t, s, p⟩ v) 24)) (.cells (MsD.fs ⟨mk, mb, mc, ms, mr, my, md⟩ u) 64))
  rw [World.size_alloc] at hy
  obtain ⟨av, kv, rfl⟩ := rded_len hr
  obtain ⟨au, ku, rfl⟩ := rdd_len hd
  subst hk
  subst hc
  subst hb
  have hgb : (mr != (r + 1)) = true := bne_iff_ne.2 hg
  have hgc : (mr == (r + 1)) = false := beq_eq_false_iff_ne.2 hg
  clear hg
  simp only [EdD.fs, MsD.fs] at hx hy hA ⊢
  clear hx0
  clear hr hd
  obtain ⟨x0, x1, x2, x3, x4, x5⟩ := cellsEB hx
  obtain ⟨z0, z1, z2, z3, z4, z5, z6⟩ := cellsMB hy
  go_enter Tryz.func56, Tryz.ntmps56
  go_wp2
  go_ret
  exact ⟨rfl, hA⟩
set_option maxRecDepth 20000 in
set_option maxHeartbeats 1000000 in
theorem fits_delta (E : EdD) (m : MsD) (v u : Value) (w : World) (hr : RdEd w v E.p) (hd : RdD w u m.d) (_hV : VS w) (_hF : E.Fit) (hdl : m.d.length ≤ maxLen) (hdi : ∀ o ∈ m.d, o.In) (h0 : 0 ≤ E.r) (h1 : E.r ≤ 1000000) (hk : m.k = 3) (hc : m.c = E.c) (hb : m.b = E.b) (hg : m.r = E.r + 1) (hq : chk m.d ≠ 0) :
    Calls Tryz.prog 56 #[.agg (E.fs v), .agg (m.fs u)] w fun e w' => e = .returned (.int .i64 (chk m.d)) ∧ Below w.heap.size w w' := by
  obtain ⟨c, b, r, t, s, p⟩ := E
  obtain ⟨mk, mb, mc, ms, mr, my, md⟩ := m
  simp only at *
  have hx0 := eb_new w ⟨c, b, r, t, s, p⟩ v
  have hx := hx0.below (alloc_b _ (.cells (MsD.fs ⟨mk, mb, mc, ms, mr, my, md⟩ u) 64))
  have hy := mb_new (w.alloc (.cells (EdD.fs ⟨c, b, r, t, s, p⟩ v) 24)) ⟨mk, mb, mc, ms, mr, my, md⟩ u
  have hA := chain (alloc_b w (.cells (EdD.fs ⟨c, b, r, t, s, p⟩ v) 24)) (alloc_b (w.alloc (.cells (EdD.fs ⟨c, b, r, t, s, p⟩ v) 24)) (.cells (MsD.fs ⟨mk, mb, mc, ms, mr, my, md⟩ u) 64))
  rw [World.size_alloc] at hy
  obtain ⟨av, kv, rfl⟩ := rded_len hr
  obtain ⟨au, ku, rfl⟩ := rdd_len hd
  subst hk
  subst hc
  subst hb
  subst hg
  have ho : ¬ (r + 1 ≤ r) := by omega
  have hqb : (chk md != 0) = true := bne_iff_ne.2 hq
  have hqc : (chk md == 0) = false := beq_eq_false_iff_ne.2 hq
  have cB := base_any _ md _ (hd.below hA) hdl hdi
  simp only [EdD.fs, MsD.fs] at hx hy hA cB ⊢
  clear hx0
  clear hr hd
  obtain ⟨x0, x1, x2, x3, x4, x5⟩ := cellsEB hx
  obtain ⟨z0, z1, z2, z3, z4, z5, z6⟩ := cellsMB hy
  go_enter Tryz.func56, Tryz.ntmps56
  go_wp2_with fail
  refine cB.mono ?_
  rintro e w1 ⟨rfl, hb1⟩
  go_wp2
  go_ret
  exact ⟨rfl, chain hA hb1⟩
set_option maxRecDepth 20000 in
set_option maxHeartbeats 1000000 in
theorem fits_len (E : EdD) (m : MsD) (v u : Value) (w : World) (hr : RdEd w v E.p) (hd : RdD w u m.d) (hV : VS w) (hF : E.Fit) (hdl : m.d.length ≤ maxLen) (hdi : ∀ o ∈ m.d, o.In) (h0 : 0 ≤ E.r) (h1 : E.r ≤ 1000000) (hk : m.k = 3) (hc : m.c = E.c) (hb : m.b = E.b) (hg : m.r = E.r + 1) (hq : chk m.d = 0) (hl : (bsum (stR m.d) : Int) ≠ baseE E) :
    Calls Tryz.prog 56 #[.agg (E.fs v), .agg (m.fs u)] w fun e w' => e = .returned (.int .i64 (91)) ∧ Below w.heap.size w w' := by
  obtain ⟨c, b, r, t, s, p⟩ := E
  obtain ⟨mk, mb, mc, ms, mr, my, md⟩ := m
  simp only at *
  have hx0 := eb_new w ⟨c, b, r, t, s, p⟩ v
  have hx := hx0.below (alloc_b _ (.cells (MsD.fs ⟨mk, mb, mc, ms, mr, my, md⟩ u) 64))
  have hy := mb_new (w.alloc (.cells (EdD.fs ⟨c, b, r, t, s, p⟩ v) 24)) ⟨mk, mb, mc, ms, mr, my, md⟩ u
  have hA := chain (alloc_b w (.cells (EdD.fs ⟨c, b, r, t, s, p⟩ v) 24)) (alloc_b (w.alloc (.cells (EdD.fs ⟨c, b, r, t, s, p⟩ v) 24)) (.cells (MsD.fs ⟨mk, mb, mc, ms, mr, my, md⟩ u) 64))
  rw [World.size_alloc] at hy
  obtain ⟨av, kv, rfl⟩ := rded_len hr
  obtain ⟨au, ku, rfl⟩ := rdd_len hd
  subst hk
  subst hc
  subst hb
  subst hg
  have ho : ¬ (r + 1 ≤ r) := by omega
  have hlb : ((bsum (stR md) : Int) != baseE ⟨mc, mb, r, t, s, p⟩) = true := bne_iff_ne.2 hl
  have hlc : ((bsum (stR md) : Int) == baseE ⟨mc, mb, r, t, s, p⟩) = false := beq_eq_false_iff_ne.2 hl
  have cB := base_any _ md _ (hd.below hA) hdl hdi
  have cE := fun W h => cbase_any ⟨mc, mb, r, t, s, p⟩ _ W (hr.below h) (hV.below h) hF
  rw [hq] at cB
  simp only [EdD.fs, MsD.fs] at hx hy hA cB cE ⊢
  clear hx0
  clear hV hF hr hd
  obtain ⟨x0, x1, x2, x3, x4, x5⟩ := cellsEB hx
  obtain ⟨z0, z1, z2, z3, z4, z5, z6⟩ := cellsMB hy
  go_enter Tryz.func56, Tryz.ntmps56
  go_wp2_with fail
  refine cB.mono ?_
  rintro e w1 ⟨rfl, hb1⟩
  have hx1 := hx.below hb1
  obtain ⟨g0, g1, g2, g3, g4, g5⟩ := cellsEB hx1
  have hB1 := chain hA hb1
  go_wp2_with fail
  refine (cE _ hB1).mono ?_
  rintro e w2 ⟨rfl, hb2⟩
  go_wp2
  go_ret
  exact ⟨rfl, chain hB1 hb2⟩
set_option maxRecDepth 20000 in
set_option maxHeartbeats 1000000 in
theorem fits_ok (E : EdD) (m : MsD) (v u : Value) (w : World) (hr : RdEd w v E.p) (hd : RdD w u m.d) (hV : VS w) (hF : E.Fit) (hdl : m.d.length ≤ maxLen) (hdi : ∀ o ∈ m.d, o.In) (h0 : 0 ≤ E.r) (h1 : E.r ≤ 1000000) (hk : m.k = 3) (hc : m.c = E.c) (hb : m.b = E.b) (hg : m.r = E.r + 1) (hq : chk m.d = 0) (hl : (bsum (stR m.d) : Int) = baseE E) :
    Calls Tryz.prog 56 #[.agg (E.fs v), .agg (m.fs u)] w fun e w' => e = .returned (.int .i64 (0)) ∧ Below w.heap.size w w' := by
  obtain ⟨c, b, r, t, s, p⟩ := E
  obtain ⟨mk, mb, mc, ms, mr, my, md⟩ := m
  simp only at *
  have hx0 := eb_new w ⟨c, b, r, t, s, p⟩ v
  have hx := hx0.below (alloc_b _ (.cells (MsD.fs ⟨mk, mb, mc, ms, mr, my, md⟩ u) 64))
  have hy := mb_new (w.alloc (.cells (EdD.fs ⟨c, b, r, t, s, p⟩ v) 24)) ⟨mk, mb, mc, ms, mr, my, md⟩ u
  have hA := chain (alloc_b w (.cells (EdD.fs ⟨c, b, r, t, s, p⟩ v) 24)) (alloc_b (w.alloc (.cells (EdD.fs ⟨c, b, r, t, s, p⟩ v) 24)) (.cells (MsD.fs ⟨mk, mb, mc, ms, mr, my, md⟩ u) 64))
  rw [World.size_alloc] at hy
  obtain ⟨av, kv, rfl⟩ := rded_len hr
  obtain ⟨au, ku, rfl⟩ := rdd_len hd
  subst hk
  subst hc
  subst hb
  subst hg
  have ho : ¬ (r + 1 ≤ r) := by omega
  have cB := base_any _ md _ (hd.below hA) hdl hdi
  have cE := fun W h => cbase_any ⟨mc, mb, r, t, s, p⟩ _ W (hr.below h) (hV.below h) hF
  rw [hq] at cB
  rw [hl] at cB
  simp only [EdD.fs, MsD.fs] at hx hy hA cB cE ⊢
  clear hx0
  clear hV hF hr hd
  obtain ⟨x0, x1, x2, x3, x4, x5⟩ := cellsEB hx
  obtain ⟨z0, z1, z2, z3, z4, z5, z6⟩ := cellsMB hy
  go_enter Tryz.func56, Tryz.ntmps56
  go_wp2_with fail
  refine cB.mono ?_
  rintro e w1 ⟨rfl, hb1⟩
  have hx1 := hx.below hb1
  obtain ⟨g0, g1, g2, g3, g4, g5⟩ := cellsEB hx1
  have hB1 := chain hA hb1
  go_wp2_with fail
  refine (cE _ hB1).mono ?_
  rintro e w2 ⟨rfl, hb2⟩
  go_wp2
  go_ret
  exact ⟨rfl, chain hB1 hb2⟩
theorem fits_any (E : EdD) (m : MsD) (v u : Value) (w : World) (hr : RdEd w v E.p) (hd : RdD w u m.d) (hV : VS w) (hF : E.Fit) (hdl : m.d.length ≤ maxLen) (hdi : ∀ o ∈ m.d, o.In) (h0 : 0 ≤ E.r) (h1 : E.r ≤ 1000000) :
    Calls Tryz.prog 56 #[.agg (E.fs v), .agg (m.fs u)] w fun e w' => e = .returned (.int .i64 (fitC E m)) ∧ Below w.heap.size w w' := by
  unfold fitC
  by_cases hk : m.k = 3
  · by_cases hc : m.c = E.c
    · by_cases hb : m.b = E.b
      · rw [if_neg (by omega)]
        split
        · exact fits_old E m v u w hr hd hV hF hdl hdi h0 h1 hk hc hb (by assumption)
        · split
          · exact fits_gap E m v u w hr hd hV hF hdl hdi h0 h1 hk hc hb (by assumption) (by assumption)
          · rename_i hg
            have hg' : m.r = E.r + 1 := Classical.not_not.1 hg
            split
            · exact fits_delta E m v u w hr hd hV hF hdl hdi h0 h1 hk hc hb hg' (by assumption)
            · rename_i hq
              have hq' : chk m.d = 0 := Classical.not_not.1 hq
              split
              · exact fits_len E m v u w hr hd hV hF hdl hdi h0 h1 hk hc hb hg' hq' (by assumption)
              · rename_i hl
                exact fits_ok E m v u w hr hd hV hF hdl hdi h0 h1 hk hc hb hg' hq' (Classical.not_not.1 hl)
      · rw [if_pos (Or.inr (Or.inr hb))]
        exact fits_b E m v u w hr hd hV hF hdl hdi h0 h1 hk hc hb
    · rw [if_pos (Or.inr (Or.inl hc))]
      exact fits_c E m v u w hr hd hV hF hdl hdi h0 h1 hk hc
  · rw [if_pos (Or.inl hk)]
    exact fits_k E m v u w hr hd hV hF hdl hdi h0 h1 hk
theorem below_drewC (w : World) (n : Nat) : Below w.heap.size w (w.drewN n) := by
  induction n with
  | zero => exact Below.refl _ _
  | succ n ih => exact ih.drew
theorem int_beqC (a b : Int) : (a == b) = decide (a = b) := by by_cases h : a = b <;> simp [h]
/-- What isOwn answers. -/
def ownC (E : EdD) (m : MsD) : Bool := match E.p with
  | [] => false
  | e :: _ => decide (m.y = E.c) && decide (m.s = e.q)
theorem ownC_nil {E : EdD} {m : MsD} (h : E.p = []) : ownC E m = false := by unfold ownC; rw [h]
theorem ownC_cons {E : EdD} {m : MsD} {e : EdW} {q : List EdW} (h : E.p = e :: q) : ownC E m = (decide (m.y = E.c) && decide (m.s = e.q)) := by unfold ownC; rw [h]
set_option maxRecDepth 20000 in
set_option maxHeartbeats 1000000 in
theorem isOwn_any (E : EdD) (m : MsD) (v u : Value) (w : World) (hr : RdEd w v E.p) (hd : RdD w u m.d) (hpl : E.p.length ≤ maxLen) :
    Calls Tryz.prog 57 #[.agg (E.fs v), .agg (m.fs u)] w fun e w' => e = .returned (.bool (ownC E m)) ∧ Below w.heap.size w w' := by
  obtain ⟨c, b, r, t, s, p⟩ := E
  obtain ⟨mk, mb, mc, ms, mr, my, md⟩ := m
  simp only at *
  unfold maxLen at hpl
  have hx0 := eb_new w ⟨c, b, r, t, s, p⟩ v
  have hx := hx0.below (alloc_b _ (.cells (MsD.fs ⟨mk, mb, mc, ms, mr, my, md⟩ u) 64))
  have hy := mb_new (w.alloc (.cells (EdD.fs ⟨c, b, r, t, s, p⟩ v) 24)) ⟨mk, mb, mc, ms, mr, my, md⟩ u
  have hA := chain (alloc_b w (.cells (EdD.fs ⟨c, b, r, t, s, p⟩ v) 24)) (alloc_b (w.alloc (.cells (EdD.fs ⟨c, b, r, t, s, p⟩ v) 24)) (.cells (MsD.fs ⟨mk, mb, mc, ms, mr, my, md⟩ u) 64))
  rw [World.size_alloc] at hy
  obtain ⟨av, kv, rfl⟩ := rded_len hr
  obtain ⟨au, ku, rfl⟩ := rdd_len hd
  simp only [EdD.fs, MsD.fs] at hx hy hA ⊢
  clear hx0
  obtain ⟨x0, x1, x2, x3, x4, x5⟩ := cellsEB hx
  obtain ⟨z0, z1, z2, z3, z4, z5, z6⟩ := cellsMB hy
  clear hd hx hy
  by_cases hw : my = c
  · subst hw
    cases p with
    | nil =>
      have ho : ownC ⟨my, b, r, t, s, []⟩ ⟨mk, mb, mc, ms, mr, my, md⟩ = false := rfl
      rw [ho]
      simp only [List.length_nil] at *
      go_enter Tryz.func57, Tryz.ntmps57
      go_wp2_with fail
      go_quiet (fail)
      go_wp2
      go_ret
      exact ⟨rfl, chain hA (below_drewC _ _)⟩
    | cons e q =>
      have ho : ownC ⟨my, b, r, t, s, e :: q⟩ ⟨mk, mb, mc, ms, mr, my, md⟩ = decide (ms = e.q) := by simp [ownC]
      rw [ho]
      have hr' := hr.below hA
      obtain ⟨ao, cp, hv, -, hc⟩ := hr'
      simp only [Value.slice.injEq] at hv
      obtain ⟨rfl, -, rfl⟩ := hv
      obtain ⟨g, off, u0, rfl, hg, c0, c1, c2⟩ := hc 0 e rfl
      clear hr hc
      simp only [Nat.zero_mul, Nat.add_zero] at c0 c1
      simp only [List.length_cons] at c0 c1 hA hpl x0 x1 x2 x3 x4 x5 z0 z1 z2 z3 z4 z5 z6 ⊢
      clear ho c2 hg
      generalize q.length = n at *
      have hd1 : decide (((n + 1 : Nat) : Int) > 0) = true := decide_eq_true (by omega)
      have hd2 : decide (0 < ((n + 1 : Nat) : Int)) = true := decide_eq_true (by omega)
      have hd3 : decide ((0 : Int) < (n : Int) + 1) = true := decide_eq_true (by omega)
      go_enter Tryz.func57, Tryz.ntmps57
      go_wp2_with fail
      go_quiet (fail)
      go_wp2
      go_ret
      exact ⟨by rw [int_beqC]; rfl, chain hA (below_drewC _ _)⟩
  · have ho : ownC ⟨c, b, r, t, s, p⟩ ⟨mk, mb, mc, ms, mr, my, md⟩ = false := by unfold ownC; cases p <;> simp [hw]
    rw [ho]
    have hwb : (my == c) = false := beq_eq_false_iff_ne.2 hw
    have hwd : decide (my = c) = false := decide_eq_false hw
    go_enter Tryz.func57, Tryz.ntmps57
    go_wp2_with fail
    go_quiet (fail)
    go_wp2
    go_ret
    exact ⟨rfl, chain hA (below_drewC _ _)⟩
end Go.Proofs.YtcdnlkhjlgaaoaaGreatDoor
