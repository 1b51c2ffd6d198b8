/-
  The reference: Edit.
-/
import Derived.Test.YtcdnlkhjlgaaoaaDoorCmE
import Derived.Test.YtcdnlkhjlgaaoaaDoorClS
namespace Go.Proofs.YtcdnlkhjlgaaoaaDoor
open Go.ChangeShapes Go.WideShapes Go.ChangeAt Go.RowKit Go.PlainAid

theorem OwEd.setT {W : World} {B g j : Nat} {v x : Value} {l : List EdW} {us : List Value} {c : Array Value} (h : OwEd W B v l us) (hb : W.heap[g]? = some (.cells c 26)) : OwEd (W.setCell ⟨g, j, none⟩ x) B v l us :=
  ⟨h.ul, own_set h.row hb (by decide), fun i e u h1 h2 => own_set (h.dl i e u h1 h2) hb (by decide)⟩
set_option maxRecDepth 20000 in
set_option maxHeartbeats 2000000 in
theorem redit_form (E : EdD) (d : List OpD) (v u : Value) (w : World) (hr : RdEd w v E.p) (hd : RdD w u d) (hF : E.Fit) (ht : E.t.size ≤ 1048576) (hS : ∀ e ∈ E.p, ∀ o ∈ e.d, o.Sm) (_hdl : d.length ≤ maxLen) (_hdi : ∀ o ∈ d, o.Sm) (hm : mayE E = false) :
    Calls Tryd.prog 14 #[.agg (E.fs v), u] w fun e w' => e = .returned (.tuple #[.agg (zeroE.fs (.slice none 0 0)), .int .i64 (200)]) ∧ Below w.heap.size w w' := by
  have hx0 := eb_new w E v
  have hx := hx0.below (alloc_b _ (.cells (zeroE.fs (.slice none 0 0)) 26))
  have hy := eb_new (w.alloc (.cells (E.fs v) 26)) zeroE (.slice none 0 0)
  have hA := chain (alloc_b w (.cells (E.fs v) 26)) (alloc_b (w.alloc (.cells (E.fs v) 26)) (.cells (zeroE.fs (.slice none 0 0)) 26))
  rw [World.size_alloc] at hy
  have cM := rmay_any E v _ (hr.below hA) hF ht hS
  obtain ⟨av, kv, rfl⟩ := rded_len hr
  obtain ⟨au, ku, rfl⟩ := rdd_len hd
  rw [hm] at cM
  simp only [EdD.fs, zeroE] at hA hx hy cM ⊢
  clear hx0
  go_enter Tryd.func14, Tryd.ntmps14
  go_wp2_with fail
  refine cM.mono ?_
  rintro e w1 ⟨rfl, hb1⟩
  have hx1 := hx.below hb1
  have hy1 := hy.below hb1
  have hB1 := chain hA hb1
  clear hx hy hA cM hb1
  obtain ⟨y0, y1, y2, y3, y4, y5⟩ := cellsEB hy1
  obtain ⟨fy0, fy1, fy2, fy3, fy4, fy5⟩ := EB.frz hy1
  go_wp2_with fail
  have hfin := EB.put hy1 zeroE (.slice none 0 0)
  refine bodyPost_ret (results_row_tmpC rfl _ _ (w.heap.size + 1) 26 _ (0, 0) _ rfl hfin Tryd.underlying26 rfl Tryd.sizeEr) rfl ?_
  exact ⟨rfl, below_putE hB1 (by omega) zeroE (.slice none 0 0)⟩
set_option maxRecDepth 20000 in
set_option maxHeartbeats 2000000 in
theorem redit_delta (E : EdD) (d : List OpD) (v u : Value) (w : World) (hr : RdEd w v E.p) (hd : RdD w u d) (hF : E.Fit) (ht : E.t.size ≤ 1048576) (hS : ∀ e ∈ E.p, ∀ o ∈ e.d, o.Sm) (hdl : d.length ≤ maxLen) (hdi : ∀ o ∈ d, o.Sm) (hm : mayE E = true) (hc : chk d ≠ 0) :
    Calls Tryd.prog 14 #[.agg (E.fs v), u] w fun e w' => e = .returned (.tuple #[.agg (zeroE.fs (.slice none 0 0)), .int .i64 (chk d)]) ∧ Below w.heap.size w w' := by
  have hx0 := eb_new w E v
  have hx := hx0.below (alloc_b _ (.cells (zeroE.fs (.slice none 0 0)) 26))
  have hy := eb_new (w.alloc (.cells (E.fs v) 26)) zeroE (.slice none 0 0)
  have hA := chain (alloc_b w (.cells (E.fs v) 26)) (alloc_b (w.alloc (.cells (E.fs v) 26)) (.cells (zeroE.fs (.slice none 0 0)) 26))
  rw [World.size_alloc] at hy
  have cM := rmay_any E v _ (hr.below hA) hF ht hS
  obtain ⟨av, kv, rfl⟩ := rded_len hr
  obtain ⟨au, ku, rfl⟩ := rdd_len hd
  have cB := fun W (h : Below w.heap.size w W) => refBase_any _ d W (hd.below h) hdl hdi
  rw [hm] at cM
  have hcb : (chk d == 0) = false := beq_eq_false_iff_ne.2 hc
  have hcn : (chk d != 0) = true := bne_iff_ne.2 hc
  simp only [EdD.fs, zeroE] at hA hx hy cM ⊢
  clear hx0
  go_enter Tryd.func14, Tryd.ntmps14
  go_wp2_with fail
  refine cM.mono ?_
  rintro e w1 ⟨rfl, hb1⟩
  have hx1 := hx.below hb1
  have hy1 := hy.below hb1
  have hB1 := chain hA hb1
  clear hx hy hA cM hb1
  go_wp2_with fail
  refine (cB _ hB1).mono ?_
  rintro e w2 ⟨rfl, hb2⟩
  have hy2 := hy1.below hb2
  have hB2 := chain hB1 hb2
  clear hx1 hy1 hB1 cB
  obtain ⟨y0, y1, y2, y3, y4, y5⟩ := cellsEB hy2
  obtain ⟨fy0, fy1, fy2, fy3, fy4, fy5⟩ := EB.frz hy2
  go_wp2_with fail
  have hfin := EB.put hy2 zeroE (.slice none 0 0)
  refine bodyPost_ret (results_row_tmpC rfl _ _ (w.heap.size + 1) 26 _ (0, 0) _ rfl hfin Tryd.underlying26 rfl Tryd.sizeEr) rfl ?_
  exact ⟨rfl, below_putE hB2 (by omega) zeroE (.slice none 0 0)⟩
set_option maxRecDepth 20000 in
set_option maxHeartbeats 2000000 in
theorem redit_length (E : EdD) (d : List OpD) (v u : Value) (w : World) (hr : RdEd w v E.p) (hd : RdD w u d) (hF : E.Fit) (ht : E.t.size ≤ 1048576) (hS : ∀ e ∈ E.p, ∀ o ∈ e.d, o.Sm) (hdl : d.length ≤ maxLen) (hdi : ∀ o ∈ d, o.Sm) (hm : mayE E = true) (hc : chk d = 0) (hl : (bsum (stR d) : Int) ≠ cpl E.t) :
    Calls Tryd.prog 14 #[.agg (E.fs v), u] w fun e w' => e = .returned (.tuple #[.agg (zeroE.fs (.slice none 0 0)), .int .i64 (91)]) ∧ Below w.heap.size w w' := by
  have hx0 := eb_new w E v
  have hx := hx0.below (alloc_b _ (.cells (zeroE.fs (.slice none 0 0)) 26))
  have hy := eb_new (w.alloc (.cells (E.fs v) 26)) zeroE (.slice none 0 0)
  have hA := chain (alloc_b w (.cells (E.fs v) 26)) (alloc_b (w.alloc (.cells (E.fs v) 26)) (.cells (zeroE.fs (.slice none 0 0)) 26))
  rw [World.size_alloc] at hy
  have cM := rmay_any E v _ (hr.below hA) hF ht hS
  obtain ⟨av, kv, rfl⟩ := rded_len hr
  obtain ⟨au, ku, rfl⟩ := rdd_len hd
  have cB := fun W (h : Below w.heap.size w W) => refBase_any _ d W (hd.below h) hdl hdi
  rw [hc] at cB
  have cL := fun W => refLen_any E.t W ht
  rw [hm] at cM
  have hlb : ((bsum (stR d) : Int) == cpl E.t) = false := beq_eq_false_iff_ne.2 hl
  have hln : ((bsum (stR d) : Int) != cpl E.t) = true := bne_iff_ne.2 hl
  simp only [EdD.fs, zeroE] at hA hx hy cM ⊢
  clear hx0
  go_enter Tryd.func14, Tryd.ntmps14
  go_wp2_with fail
  refine cM.mono ?_
  rintro e w1 ⟨rfl, hb1⟩
  have hx1 := hx.below hb1
  have hy1 := hy.below hb1
  have hB1 := chain hA hb1
  clear hx hy hA cM hb1
  go_wp2_with fail
  refine (cB _ hB1).mono ?_
  rintro e w2 ⟨rfl, hb2⟩
  have hx2 := hx1.below hb2
  have hy2 := hy1.below hb2
  have hB2 := chain hB1 hb2
  obtain ⟨x0, x1, x2, x3, x4, x5⟩ := cellsEB hx2
  clear hx1 hy1 hB1 cB
  go_wp2_with fail
  refine (cL _).mono ?_
  rintro e w3 ⟨rfl, hb3⟩
  have hx3 := hx2.below hb3
  have hy3 := hy2.below hb3
  have hB3 := chain hB2 hb3
  clear x0 x1 x2 x3 x4 x5 hx2 hy2 hB2 cL
  obtain ⟨y0, y1, y2, y3, y4, y5⟩ := cellsEB hy3
  obtain ⟨fy0, fy1, fy2, fy3, fy4, fy5⟩ := EB.frz hy3
  go_wp2_with fail
  have hfin := EB.put hy3 zeroE (.slice none 0 0)
  refine bodyPost_ret (results_row_tmpC rfl _ _ (w.heap.size + 1) 26 _ (0, 0) _ rfl hfin Tryd.underlying26 rfl Tryd.sizeEr) rfl ?_
  exact ⟨rfl, below_putE hB3 (by omega) zeroE (.slice none 0 0)⟩
set_option maxRecDepth 20000 in
set_option maxHeartbeats 2000000 in
theorem redit_full8 (E : EdD) (d : List OpD) (v u : Value) (w : World) (hr : RdEd w v E.p) (hd : RdD w u d) (hF : E.Fit) (ht : E.t.size ≤ 1048576) (hS : ∀ e ∈ E.p, ∀ o ∈ e.d, o.Sm) (hdl : d.length ≤ maxLen) (hdi : ∀ o ∈ d, o.Sm) (hm : mayE E = true) (hc : chk d = 0) (hl : (bsum (stR d) : Int) = cpl E.t) (h8 : E.p.length = 8) :
    Calls Tryd.prog 14 #[.agg (E.fs v), u] w fun e w' => e = .returned (.tuple #[.agg (zeroE.fs (.slice none 0 0)), .int .i64 (201)]) ∧ Below w.heap.size w w' := by
  have hx0 := eb_new w E v
  have hx := hx0.below (alloc_b _ (.cells (zeroE.fs (.slice none 0 0)) 26))
  have hy := eb_new (w.alloc (.cells (E.fs v) 26)) zeroE (.slice none 0 0)
  have hA := chain (alloc_b w (.cells (E.fs v) 26)) (alloc_b (w.alloc (.cells (E.fs v) 26)) (.cells (zeroE.fs (.slice none 0 0)) 26))
  rw [World.size_alloc] at hy
  have cM := rmay_any E v _ (hr.below hA) hF ht hS
  obtain ⟨av, kv, rfl⟩ := rded_len hr
  obtain ⟨au, ku, rfl⟩ := rdd_len hd
  have cB := fun W (h : Below w.heap.size w W) => refBase_any _ d W (hd.below h) hdl hdi
  rw [hc] at cB
  have cL := fun W => refLen_any E.t W ht
  rw [hm] at cM
  rw [hl] at cB
  have g8 : (E.p.length : Int) ≥ 8 := by omega
  have g8' : (8 : Int) ≤ (E.p.length : Int) := by omega
  clear h8 hl hc hm
  simp only [EdD.fs, zeroE] at hA hx hy cM ⊢
  clear hx0
  go_enter Tryd.func14, Tryd.ntmps14
  go_wp2_with fail
  refine cM.mono ?_
  rintro e w1 ⟨rfl, hb1⟩
  have hx1 := hx.below hb1
  have hy1 := hy.below hb1
  have hB1 := chain hA hb1
  clear hx hy hA cM hb1
  go_wp2_with fail
  refine (cB _ hB1).mono ?_
  rintro e w2 ⟨rfl, hb2⟩
  have hx2 := hx1.below hb2
  have hy2 := hy1.below hb2
  have hB2 := chain hB1 hb2
  obtain ⟨x0, x1, x2, x3, x4, x5⟩ := cellsEB hx2
  clear hx1 hy1 hB1 cB
  go_wp2_with fail
  refine (cL _).mono ?_
  rintro e w3 ⟨rfl, hb3⟩
  have hx3 := hx2.below hb3
  have hy3 := hy2.below hb3
  have hB3 := chain hB2 hb3
  clear x0 x1 x2 x3 x4 x5 hx2 hy2 hB2 cL
  obtain ⟨x0, x1, x2, x3, x4, x5⟩ := cellsEB hx3
  obtain ⟨y0, y1, y2, y3, y4, y5⟩ := cellsEB hy3
  obtain ⟨fy0, fy1, fy2, fy3, fy4, fy5⟩ := EB.frz hy3
  go_wp2_with fail
  have hfin := EB.put hy3 zeroE (.slice none 0 0)
  refine bodyPost_ret (results_row_tmpC rfl _ _ (w.heap.size + 1) 26 _ (0, 0) _ rfl hfin Tryd.underlying26 rfl Tryd.sizeEr) rfl ?_
  exact ⟨rfl, below_putE hB3 (by omega) zeroE (.slice none 0 0)⟩
set_option maxRecDepth 20000 in
set_option maxHeartbeats 2000000 in
theorem redit_fulls (E : EdD) (d : List OpD) (v u : Value) (w : World) (hr : RdEd w v E.p) (hd : RdD w u d) (hF : E.Fit) (ht : E.t.size ≤ 1048576) (hS : ∀ e ∈ E.p, ∀ o ∈ e.d, o.Sm) (hdl : d.length ≤ maxLen) (hdi : ∀ o ∈ d, o.Sm) (hm : mayE E = true) (hc : chk d = 0) (hl : (bsum (stR d) : Int) = cpl E.t) (h8 : E.p.length < 8) (hs : E.s = 100000) :
    Calls Tryd.prog 14 #[.agg (E.fs v), u] w fun e w' => e = .returned (.tuple #[.agg (zeroE.fs (.slice none 0 0)), .int .i64 (201)]) ∧ Below w.heap.size w w' := by
  have hx0 := eb_new w E v
  have hx := hx0.below (alloc_b _ (.cells (zeroE.fs (.slice none 0 0)) 26))
  have hy := eb_new (w.alloc (.cells (E.fs v) 26)) zeroE (.slice none 0 0)
  have hA := chain (alloc_b w (.cells (E.fs v) 26)) (alloc_b (w.alloc (.cells (E.fs v) 26)) (.cells (zeroE.fs (.slice none 0 0)) 26))
  rw [World.size_alloc] at hy
  have cM := rmay_any E v _ (hr.below hA) hF ht hS
  obtain ⟨av, kv, rfl⟩ := rded_len hr
  obtain ⟨au, ku, rfl⟩ := rdd_len hd
  have cB := fun W (h : Below w.heap.size w W) => refBase_any _ d W (hd.below h) hdl hdi
  rw [hc] at cB
  have cL := fun W => refLen_any E.t W ht
  rw [hm] at cM
  rw [hl] at cB
  have g8 : ¬ ((E.p.length : Int) ≥ 8) := by omega
  have g8' : ¬ ((8 : Int) ≤ (E.p.length : Int)) := by omega
  have gs : E.s ≥ 100000 := by omega
  clear h8 hs hl hc hm
  simp only [EdD.fs, zeroE] at hA hx hy cM ⊢
  clear hx0
  go_enter Tryd.func14, Tryd.ntmps14
  go_wp2_with fail
  refine cM.mono ?_
  rintro e w1 ⟨rfl, hb1⟩
  have hx1 := hx.below hb1
  have hy1 := hy.below hb1
  have hB1 := chain hA hb1
  clear hx hy hA cM hb1
  go_wp2_with fail
  refine (cB _ hB1).mono ?_
  rintro e w2 ⟨rfl, hb2⟩
  have hx2 := hx1.below hb2
  have hy2 := hy1.below hb2
  have hB2 := chain hB1 hb2
  obtain ⟨x0, x1, x2, x3, x4, x5⟩ := cellsEB hx2
  clear hx1 hy1 hB1 cB
  go_wp2_with fail
  refine (cL _).mono ?_
  rintro e w3 ⟨rfl, hb3⟩
  have hx3 := hx2.below hb3
  have hy3 := hy2.below hb3
  have hB3 := chain hB2 hb3
  clear x0 x1 x2 x3 x4 x5 hx2 hy2 hB2 cL
  obtain ⟨x0, x1, x2, x3, x4, x5⟩ := cellsEB hx3
  obtain ⟨y0, y1, y2, y3, y4, y5⟩ := cellsEB hy3
  obtain ⟨fy0, fy1, fy2, fy3, fy4, fy5⟩ := EB.frz hy3
  go_wp2_with fail
  have hfin := EB.put hy3 zeroE (.slice none 0 0)
  refine bodyPost_ret (results_row_tmpC rfl _ _ (w.heap.size + 1) 26 _ (0, 0) _ rfl hfin Tryd.underlying26 rfl Tryd.sizeEr) rfl ?_
  exact ⟨rfl, below_putE hB3 (by omega) zeroE (.slice none 0 0)⟩
set_option maxRecDepth 20000 in
set_option maxHeartbeats 3000000 in
theorem redit_no (E : EdD) (d : List OpD) (v u : Value) (w : World) (hr : RdEd w v E.p) (hd : RdD w u d) (hF : E.Fit) (ht : E.t.size ≤ 1048576) (hS : ∀ e ∈ E.p, ∀ o ∈ e.d, o.Sm) (hdl : d.length ≤ maxLen) (hdi : ∀ o ∈ d, o.Sm) (hm : mayE E = true) (hc : chk d = 0) (hl : (bsum (stR d) : Int) = cpl E.t) (h8 : E.p.length < 8) (hs : E.s < 100000) (EE : EdD) (hEE : edE E d = EE) (hFe : EE.Fit) (hte : EE.t.size ≤ 1048576) (hSe : ∀ e ∈ EE.p, ∀ o ∈ e.d, o.Sm) (h0 : (encE EE).2 ≠ 0) :
    Calls Tryd.prog 14 #[.agg (E.fs v), u] w fun e w' => e = .returned (.tuple #[.agg (zeroE.fs (.slice none 0 0)), .int .i64 (201)]) ∧ Below w.heap.size w w' := by
  have hM := (may_iff E).1 hm
  have hs0 := hM.s0
  have hEp : EE.p = E.p ++ [⟨E.s + 1, jn (stR d)⟩] := by rw [← hEE]; exact ed_p hM
  have hEt : EE.t = (apR E.t d).1 := by rw [← hEE]; rfl
  have hEs : EE.s = E.s + 1 := by rw [← hEE]; rfl
  have hEc : EE.c = E.c := by rw [← hEE]; rfl
  have hEb : EE.b = E.b := by rw [← hEE]; rfl
  have hEr : EE.r = E.r := by rw [← hEE]; rfl
  have cC := fun W (h : Below w.heap.size w W) => rcopy_any E v W (hr.below h) (by omega) (fun e he => by have := (hF.pf e he).dl; have := (kchk_any (ds := e.d) (by have := may_ok hM e he; simp [okD] at this; exact this.1)).2; omega)
  have cA := fun W (h : Below w.heap.size w W) => refApply_any E.t u d W ht (hd.below h) hdl hdi
  have cN := fun W (h : Below w.heap.size w W) => refNormal_any u d W (hd.below h) hdl hdi
  have cX := fun W v' (h : RdEd W v' EE.p) => rencode_any EE v' W h hFe hte hSe
  obtain ⟨i0, hin, hz0, hz1, hz2⟩ := info_parts Tryd.infoEd
  rw [hc] at cN
  rw [← hEt] at cA
  have hx0 := eb_new w E v
  have hx := hx0.below (alloc_b _ (.cells (zeroE.fs (.slice none 0 0)) 26))
  have hy := eb_new (w.alloc (.cells (E.fs v) 26)) zeroE (.slice none 0 0)
  have hA := chain (alloc_b w (.cells (E.fs v) 26)) (alloc_b (w.alloc (.cells (E.fs v) 26)) (.cells (zeroE.fs (.slice none 0 0)) 26))
  rw [World.size_alloc] at hy
  have cM := rmay_any E v _ (hr.below hA) hF ht hS
  obtain ⟨av, kv, rfl⟩ := rded_len hr
  obtain ⟨au, ku, rfl⟩ := rdd_len hd
  have cB := fun W (h : Below w.heap.size w W) => refBase_any _ d W (hd.below h) hdl hdi
  rw [hc] at cB
  have cL := fun W => refLen_any E.t W ht
  rw [hm] at cM
  rw [hl] at cB
  clear hM hEt hl hc hm
  simp only [EdD.fs] at cC cX
  rw [hEc, hEb, hEr, hEs] at cX
  simp only [EdD.fs, zeroE] at hA hx hy cM ⊢
  clear hx0
  go_enter Tryd.func14, Tryd.ntmps14
  go_wp2_with fail
  refine cM.mono ?_
  rintro e w1 ⟨rfl, hb1⟩
  have hx1 := hx.below hb1
  have hy1 := hy.below hb1
  have hB1 := chain hA hb1
  clear hx hy hA cM hb1
  go_wp2_with fail
  refine (cB _ hB1).mono ?_
  rintro e w2 ⟨rfl, hb2⟩
  have hx2 := hx1.below hb2
  have hy2 := hy1.below hb2
  have hB2 := chain hB1 hb2
  obtain ⟨x0, x1, x2, x3, x4, x5⟩ := cellsEB hx2
  clear hx1 hy1 hB1 cB
  go_wp2_with fail
  refine (cL _).mono ?_
  rintro e w3 ⟨rfl, hb3⟩
  have hx3 := hx2.below hb3
  have hy3 := hy2.below hb3
  have hB3 := chain hB2 hb3
  clear x0 x1 x2 x3 x4 x5 hx2 hy2 hB2 cL
  obtain ⟨x0, x1, x2, x3, x4, x5⟩ := cellsEB hx3
  have g8 : ¬ ((E.p.length : Int) ≥ 8) := by omega
  have g8' : ¬ ((8 : Int) ≤ (E.p.length : Int)) := by omega
  have gs : ¬ (E.s ≥ 100000) := by omega
  have gs' : ¬ ((100000 : Int) ≤ E.s) := by omega
  go_wp2_with fail
  refine (cC _ hB3).mono ?_
  rintro e w4 ⟨v4, us, rfl, ho4, hb4⟩
  obtain ⟨a4, k4, rfl⟩ := own_form ho4.row
  have hn4 := eb_new w4 E (.slice a4 E.p.length k4)
  have hal4 := alloc_b w4 (.cells (E.fs (.slice a4 E.p.length k4)) 26)
  have hx5 := (hx3.below hb4).below hal4
  have hy5 := (hy3.below hb4).below hal4
  have hB5 := chain (chain hB3 hb4) hal4
  have hg4 := hy3.lt
  have hs4 := hb4.size
  simp only [EdD.fs] at hn4 hx5 hy5 hB5 hal4
  clear x0 x1 x2 x3 x4 x5 hx3 hy3 hB3 cC g8 g8' gs gs'
  obtain ⟨x0, x1, x2, x3, x4, x5⟩ := cellsEB hx5
  go_wp2_with fail
  generalize w4.alloc (.cells #[.int .i64 E.c, .int .i64 E.b, .int .i64 E.r, .string E.t, .int .i64 E.s, .slice a4 E.p.length k4] 26) = w5 at *
  refine (cA _ hB5).mono ?_
  rintro e w6 ⟨rfl, hb6⟩
  have hn6 := hn4.below hb6
  have hy6 := hy5.below hb6
  have hB6 := chain hB5 hb6
  have hW6 := chain hal4 hb6
  have hs6 := hW6.size
  clear x0 x1 x2 x3 x4 x5 hx5 hy5 hB5 hn4 cA hb6 hal4
  obtain ⟨x0, x1, x2, x3, x4, x5⟩ := cellsEB hn6
  obtain ⟨f0, f1, f2, f3, f4, f5⟩ := EB.frz hn6
  have hn7 : EB ((w6.setCell ⟨w4.heap.size, 3, none⟩ (.string EE.t)).setCell ⟨w4.heap.size, 4, none⟩ (.int .i64 (E.s + 1))) w4.heap.size ⟨E.c, E.b, E.r, EE.t, E.s + 1, E.p⟩ (.slice a4 E.p.length k4) := heap_setCell (heap_setCell hn6 3 (.string EE.t)) 4 (.int .i64 (E.s + 1))
  have hn := fun (i : Nat) (x : Value) (W : World) => Below.heap_setCell W ⟨w4.heap.size, i, none⟩ x (w.heap.size + 1) (by simp only; omega)
  have hy7 : EB ((w6.setCell ⟨w4.heap.size, 3, none⟩ (.string EE.t)).setCell ⟨w4.heap.size, 4, none⟩ (.int .i64 (E.s + 1))) (w.heap.size + 1) zeroE (.slice none 0 0) := (hn 4 _ _).trans ((hn 3 _ _).trans hy6)
  have hB7 : Below w.heap.size w ((w6.setCell ⟨w4.heap.size, 3, none⟩ (.string EE.t)).setCell ⟨w4.heap.size, 4, none⟩ (.int .i64 (E.s + 1))) := (hB6.setCell (by simp only; omega) _).setCell (by simp only; omega) _
  have hW7 : Below w4.heap.size w4 ((w6.setCell ⟨w4.heap.size, 3, none⟩ (.string EE.t)).setCell ⟨w4.heap.size, 4, none⟩ (.int .i64 (E.s + 1))) := (hW6.setCell (Nat.le_refl _) _).setCell (Nat.le_refl _) _
  go_wp2_with fail
  clear x0 x1 x2 x3 x4 x5 f0 f1 f2 f3 f4 f5 hn hn6 hy6 hB6 hW6
  generalize (w6.setCell ⟨w4.heap.size, 3, none⟩ (.string EE.t)).setCell ⟨w4.heap.size, 4, none⟩ (.int .i64 (E.s + 1)) = w7 at *
  refine (cN _ hB7).mono ?_
  rintro e w8 ⟨u8, rfl, ho8, hb8⟩
  obtain ⟨a8, k8, rfl⟩ := own_form ho8
  have hn8 := hn7.below hb8
  have hy8 := hy7.below hb8
  have hB8 := chain hB7 hb8
  have hW8 := chain hW7 hb8
  have hs7 := hW7.size
  have hs8 := hb8.size
  clear cN hn7 hy7 hB7 hW7 hb8
  obtain ⟨x0, x1, x2, x3, x4, x5⟩ := cellsEB hn8
  have hal := alloc_b w8 (.cells #[.int .i64 (E.s + 1), .slice a8 (jn (stR d)).length k8] 41)
  have hoE := (ho4.below hW8).below hal
  have hoD := own_lower (own_belowG ho8 hal) (b' := w3.heap.size) (by omega)
  have hnA := hn8.below hal
  have hyA := hy8.below hal
  have hBA := chain hB8 hal
  have hne : ∀ j, (Value.slice a4 E.p.length k4).ownBlock = some j → w3.heap.size ≤ j ∧ j < w4.heap.size := fun j hj => ho4.row.lt j hj
  go_wp2_with (at_builtin; refine wpList_append_own _ rfl (.tmp 62) (.tmp 67) 24 rfl w3.heap.size 41 i0 (.agg #[.int .i64 0, .slice none 0 0]) 2 32 Tryd.underlying24 hin hz0 hz1 hz2 rfl (by decide) _ E.p.length _ rfl hoE.row ⟨_, 0, none⟩ 1 1 [.int .i64 (E.s + 1), .slice a8 (jn (stR d)).length k8] rfl rfl (many_new _ _ _) (two_one _ _ _ _) (by unfold maxLen; omega) (by omega) (by simp; omega) ?_; intro v9 w9 ho9 hg9 _; obtain ⟨a9, k9, rfl⟩ := own_form ho9; have hn9 : EB w9 w4.heap.size ⟨E.c, E.b, E.r, EE.t, E.s + 1, E.p⟩ (.slice a4 E.p.length k4) := (hg9.block w4.heap.size hnA.lt (fun e => by have := hne _ e.symm; omega)).trans hnA; obtain ⟨t0, t1, t2, t3, t4, t5⟩ := cellsEB hn9; have f5 := (EB.frz hn9).2.2.2.2.2)
  have hnew := (OwEd.app (e := ⟨E.s + 1, jn (stR d)⟩) hoE hoD ho9 hg9)
  rw [← hEp] at hnew
  have hnew2 := hnew.setT (j := 5) (x := .slice a9 (E.p.length + 1) k9) hn9
  have hn10 : EB (w9.setCell ⟨w4.heap.size, 5, none⟩ (.slice a9 (E.p.length + 1) k9)) w4.heap.size ⟨E.c, E.b, E.r, EE.t, E.s + 1, E.p⟩ (.slice a9 (E.p.length + 1) k9) := heap_setCell hn9 5 _
  have hy9 : EB w9 (w.heap.size + 1) zeroE (.slice none 0 0) := (hg9.block (w.heap.size + 1) hyA.lt (fun e => by have := hne _ e.symm; omega)).trans hyA
  have hy10 : EB (w9.setCell ⟨w4.heap.size, 5, none⟩ (.slice a9 (E.p.length + 1) k9)) (w.heap.size + 1) zeroE (.slice none 0 0) := (Below.heap_setCell w9 ⟨w4.heap.size, 5, none⟩ _ (w.heap.size + 1) (by simp only; omega)).trans hy9
  have hB10 : Below w.heap.size w (w9.setCell ⟨w4.heap.size, 5, none⟩ (.slice a9 (E.p.length + 1) k9)) := (hBA.grown hg9 (by have := hBA.size; omega) (fun j hj => by have := hne _ hj; omega)).setCell (by simp only; omega) _
  have cX' := cX _ _ hnew2.rd
  clear x0 x1 x2 x3 x4 x5 t0 t1 t2 t3 t4 t5 f5 hnew hy9 hn9 hyA hnA hoE hoD ho8 hBA hB8 hn8 hy8 hal ho9 hg9 cX hW8
  generalize w9.setCell ⟨w4.heap.size, 5, none⟩ (.slice a9 (E.p.length + 1) k9) = w10 at *
  refine cX'.mono ?_
  rintro e w11 ⟨rfl, hb11⟩
  have hn11 := hn10.below hb11
  have hy11 := hy10.below hb11
  have hB11 := chain hB10 hb11
  have ho11 := hnew2.below hb11
  clear cX' hn10 hy10 hB10 hnew2
  have n0 : ((encE EE).2 != 0) = true := bne_iff_ne.2 h0
  have n1 : ((encE EE).2 == 0) = false := beq_eq_false_iff_ne.2 h0
  clear ho11 hn11
  obtain ⟨y0, y1, y2, y3, y4, y5⟩ := cellsEB hy11
  obtain ⟨fy0, fy1, fy2, fy3, fy4, fy5⟩ := EB.frz hy11
  go_wp2_with fail
  have hfin := EB.put hy11 zeroE (.slice none 0 0)
  refine bodyPost_ret (results_row_tmpC rfl _ _ (w.heap.size + 1) 26 _ (0, 0) _ rfl hfin Tryd.underlying26 rfl Tryd.sizeEr) rfl ?_
  exact ⟨rfl, below_putE hB11 (by omega) zeroE (.slice none 0 0)⟩
set_option maxRecDepth 20000 in
set_option maxHeartbeats 3000000 in
theorem redit_ok (E : EdD) (d : List OpD) (v u : Value) (w : World) (hr : RdEd w v E.p) (hd : RdD w u d) (hF : E.Fit) (ht : E.t.size ≤ 1048576) (hS : ∀ e ∈ E.p, ∀ o ∈ e.d, o.Sm) (hdl : d.length ≤ maxLen) (hdi : ∀ o ∈ d, o.Sm) (hm : mayE E = true) (hc : chk d = 0) (hl : (bsum (stR d) : Int) = cpl E.t) (h8 : E.p.length < 8) (hs : E.s < 100000) (EE : EdD) (hEE : edE E d = EE) (hFe : EE.Fit) (hte : EE.t.size ≤ 1048576) (hSe : ∀ e ∈ EE.p, ∀ o ∈ e.d, o.Sm) (h0 : (encE EE).2 = 0) :
    Calls Tryd.prog 14 #[.agg (E.fs v), u] w fun e w' => ∃ v' us, e = .returned (.tuple #[.agg (EE.fs v'), .int .i64 0]) ∧ OwEd w' w.heap.size v' EE.p us ∧ Below w.heap.size w w' := by
  have hM := (may_iff E).1 hm
  have hs0 := hM.s0
  have hEp : EE.p = E.p ++ [⟨E.s + 1, jn (stR d)⟩] := by rw [← hEE]; exact ed_p hM
  have hEt : EE.t = (apR E.t d).1 := by rw [← hEE]; rfl
  have hEs : EE.s = E.s + 1 := by rw [← hEE]; rfl
  have hEc : EE.c = E.c := by rw [← hEE]; rfl
  have hEb : EE.b = E.b := by rw [← hEE]; rfl
  have hEr : EE.r = E.r := by rw [← hEE]; rfl
  have cC := fun W (h : Below w.heap.size w W) => rcopy_any E v W (hr.below h) (by omega) (fun e he => by have := (hF.pf e he).dl; have := (kchk_any (ds := e.d) (by have := may_ok hM e he; simp [okD] at this; exact this.1)).2; omega)
  have cA := fun W (h : Below w.heap.size w W) => refApply_any E.t u d W ht (hd.below h) hdl hdi
  have cN := fun W (h : Below w.heap.size w W) => refNormal_any u d W (hd.below h) hdl hdi
  have cX := fun W v' (h : RdEd W v' EE.p) => rencode_any EE v' W h hFe hte hSe
  obtain ⟨i0, hin, hz0, hz1, hz2⟩ := info_parts Tryd.infoEd
  rw [hc] at cN
  rw [← hEt] at cA
  have hx0 := eb_new w E v
  have hx := hx0.below (alloc_b _ (.cells (zeroE.fs (.slice none 0 0)) 26))
  have hy := eb_new (w.alloc (.cells (E.fs v) 26)) zeroE (.slice none 0 0)
  have hA := chain (alloc_b w (.cells (E.fs v) 26)) (alloc_b (w.alloc (.cells (E.fs v) 26)) (.cells (zeroE.fs (.slice none 0 0)) 26))
  rw [World.size_alloc] at hy
  have cM := rmay_any E v _ (hr.below hA) hF ht hS
  obtain ⟨av, kv, rfl⟩ := rded_len hr
  obtain ⟨au, ku, rfl⟩ := rdd_len hd
  have cB := fun W (h : Below w.heap.size w W) => refBase_any _ d W (hd.below h) hdl hdi
  rw [hc] at cB
  have cL := fun W => refLen_any E.t W ht
  rw [hm] at cM
  rw [hl] at cB
  clear hM hEt hl hc hm
  simp only [EdD.fs] at cC cX
  rw [hEc, hEb, hEr, hEs] at cX
  simp only [EdD.fs, zeroE] at hA hx hy cM ⊢
  clear hx0
  rw [hEc, hEb, hEr, hEs]
  go_enter Tryd.func14, Tryd.ntmps14
  go_wp2_with fail
  refine cM.mono ?_
  rintro e w1 ⟨rfl, hb1⟩
  have hx1 := hx.below hb1
  have hy1 := hy.below hb1
  have hB1 := chain hA hb1
  clear hx hy hA cM hb1
  go_wp2_with fail
  refine (cB _ hB1).mono ?_
  rintro e w2 ⟨rfl, hb2⟩
  have hx2 := hx1.below hb2
  have hy2 := hy1.below hb2
  have hB2 := chain hB1 hb2
  obtain ⟨x0, x1, x2, x3, x4, x5⟩ := cellsEB hx2
  clear hx1 hy1 hB1 cB
  go_wp2_with fail
  refine (cL _).mono ?_
  rintro e w3 ⟨rfl, hb3⟩
  have hx3 := hx2.below hb3
  have hy3 := hy2.below hb3
  have hB3 := chain hB2 hb3
  clear x0 x1 x2 x3 x4 x5 hx2 hy2 hB2 cL
  obtain ⟨x0, x1, x2, x3, x4, x5⟩ := cellsEB hx3
  have g8 : ¬ ((E.p.length : Int) ≥ 8) := by omega
  have g8' : ¬ ((8 : Int) ≤ (E.p.length : Int)) := by omega
  have gs : ¬ (E.s ≥ 100000) := by omega
  have gs' : ¬ ((100000 : Int) ≤ E.s) := by omega
  go_wp2_with fail
  refine (cC _ hB3).mono ?_
  rintro e w4 ⟨v4, us, rfl, ho4, hb4⟩
  obtain ⟨a4, k4, rfl⟩ := own_form ho4.row
  have hn4 := eb_new w4 E (.slice a4 E.p.length k4)
  have hal4 := alloc_b w4 (.cells (E.fs (.slice a4 E.p.length k4)) 26)
  have hx5 := (hx3.below hb4).below hal4
  have hy5 := (hy3.below hb4).below hal4
  have hB5 := chain (chain hB3 hb4) hal4
  have hg4 := hy3.lt
  have hs4 := hb4.size
  simp only [EdD.fs] at hn4 hx5 hy5 hB5 hal4
  clear x0 x1 x2 x3 x4 x5 hx3 hy3 hB3 cC g8 g8' gs gs'
  obtain ⟨x0, x1, x2, x3, x4, x5⟩ := cellsEB hx5
  go_wp2_with fail
  generalize w4.alloc (.cells #[.int .i64 E.c, .int .i64 E.b, .int .i64 E.r, .string E.t, .int .i64 E.s, .slice a4 E.p.length k4] 26) = w5 at *
  refine (cA _ hB5).mono ?_
  rintro e w6 ⟨rfl, hb6⟩
  have hn6 := hn4.below hb6
  have hy6 := hy5.below hb6
  have hB6 := chain hB5 hb6
  have hW6 := chain hal4 hb6
  have hs6 := hW6.size
  clear x0 x1 x2 x3 x4 x5 hx5 hy5 hB5 hn4 cA hb6 hal4
  obtain ⟨x0, x1, x2, x3, x4, x5⟩ := cellsEB hn6
  obtain ⟨f0, f1, f2, f3, f4, f5⟩ := EB.frz hn6
  have hn7 : EB ((w6.setCell ⟨w4.heap.size, 3, none⟩ (.string EE.t)).setCell ⟨w4.heap.size, 4, none⟩ (.int .i64 (E.s + 1))) w4.heap.size ⟨E.c, E.b, E.r, EE.t, E.s + 1, E.p⟩ (.slice a4 E.p.length k4) := heap_setCell (heap_setCell hn6 3 (.string EE.t)) 4 (.int .i64 (E.s + 1))
  have hn := fun (i : Nat) (x : Value) (W : World) => Below.heap_setCell W ⟨w4.heap.size, i, none⟩ x (w.heap.size + 1) (by simp only; omega)
  have hy7 : EB ((w6.setCell ⟨w4.heap.size, 3, none⟩ (.string EE.t)).setCell ⟨w4.heap.size, 4, none⟩ (.int .i64 (E.s + 1))) (w.heap.size + 1) zeroE (.slice none 0 0) := (hn 4 _ _).trans ((hn 3 _ _).trans hy6)
  have hB7 : Below w.heap.size w ((w6.setCell ⟨w4.heap.size, 3, none⟩ (.string EE.t)).setCell ⟨w4.heap.size, 4, none⟩ (.int .i64 (E.s + 1))) := (hB6.setCell (by simp only; omega) _).setCell (by simp only; omega) _
  have hW7 : Below w4.heap.size w4 ((w6.setCell ⟨w4.heap.size, 3, none⟩ (.string EE.t)).setCell ⟨w4.heap.size, 4, none⟩ (.int .i64 (E.s + 1))) := (hW6.setCell (Nat.le_refl _) _).setCell (Nat.le_refl _) _
  go_wp2_with fail
  clear x0 x1 x2 x3 x4 x5 f0 f1 f2 f3 f4 f5 hn hn6 hy6 hB6 hW6
  generalize (w6.setCell ⟨w4.heap.size, 3, none⟩ (.string EE.t)).setCell ⟨w4.heap.size, 4, none⟩ (.int .i64 (E.s + 1)) = w7 at *
  refine (cN _ hB7).mono ?_
  rintro e w8 ⟨u8, rfl, ho8, hb8⟩
  obtain ⟨a8, k8, rfl⟩ := own_form ho8
  have hn8 := hn7.below hb8
  have hy8 := hy7.below hb8
  have hB8 := chain hB7 hb8
  have hW8 := chain hW7 hb8
  have hs7 := hW7.size
  have hs8 := hb8.size
  clear cN hn7 hy7 hB7 hW7 hb8
  obtain ⟨x0, x1, x2, x3, x4, x5⟩ := cellsEB hn8
  have hal := alloc_b w8 (.cells #[.int .i64 (E.s + 1), .slice a8 (jn (stR d)).length k8] 41)
  have hoE := (ho4.below hW8).below hal
  have hoD := own_lower (own_belowG ho8 hal) (b' := w3.heap.size) (by omega)
  have hnA := hn8.below hal
  have hyA := hy8.below hal
  have hBA := chain hB8 hal
  have hne : ∀ j, (Value.slice a4 E.p.length k4).ownBlock = some j → w3.heap.size ≤ j ∧ j < w4.heap.size := fun j hj => ho4.row.lt j hj
  go_wp2_with (at_builtin; refine wpList_append_own _ rfl (.tmp 62) (.tmp 67) 24 rfl w3.heap.size 41 i0 (.agg #[.int .i64 0, .slice none 0 0]) 2 32 Tryd.underlying24 hin hz0 hz1 hz2 rfl (by decide) _ E.p.length _ rfl hoE.row ⟨_, 0, none⟩ 1 1 [.int .i64 (E.s + 1), .slice a8 (jn (stR d)).length k8] rfl rfl (many_new _ _ _) (two_one _ _ _ _) (by unfold maxLen; omega) (by omega) (by simp; omega) ?_; intro v9 w9 ho9 hg9 _; obtain ⟨a9, k9, rfl⟩ := own_form ho9; have hn9 : EB w9 w4.heap.size ⟨E.c, E.b, E.r, EE.t, E.s + 1, E.p⟩ (.slice a4 E.p.length k4) := (hg9.block w4.heap.size hnA.lt (fun e => by have := hne _ e.symm; omega)).trans hnA; obtain ⟨t0, t1, t2, t3, t4, t5⟩ := cellsEB hn9; have f5 := (EB.frz hn9).2.2.2.2.2)
  have hnew := (OwEd.app (e := ⟨E.s + 1, jn (stR d)⟩) hoE hoD ho9 hg9)
  rw [← hEp] at hnew
  have hnew2 := hnew.setT (j := 5) (x := .slice a9 (E.p.length + 1) k9) hn9
  have hn10 : EB (w9.setCell ⟨w4.heap.size, 5, none⟩ (.slice a9 (E.p.length + 1) k9)) w4.heap.size ⟨E.c, E.b, E.r, EE.t, E.s + 1, E.p⟩ (.slice a9 (E.p.length + 1) k9) := heap_setCell hn9 5 _
  have hy9 : EB w9 (w.heap.size + 1) zeroE (.slice none 0 0) := (hg9.block (w.heap.size + 1) hyA.lt (fun e => by have := hne _ e.symm; omega)).trans hyA
  have hy10 : EB (w9.setCell ⟨w4.heap.size, 5, none⟩ (.slice a9 (E.p.length + 1) k9)) (w.heap.size + 1) zeroE (.slice none 0 0) := (Below.heap_setCell w9 ⟨w4.heap.size, 5, none⟩ _ (w.heap.size + 1) (by simp only; omega)).trans hy9
  have hB10 : Below w.heap.size w (w9.setCell ⟨w4.heap.size, 5, none⟩ (.slice a9 (E.p.length + 1) k9)) := (hBA.grown hg9 (by have := hBA.size; omega) (fun j hj => by have := hne _ hj; omega)).setCell (by simp only; omega) _
  have cX' := cX _ _ hnew2.rd
  clear x0 x1 x2 x3 x4 x5 t0 t1 t2 t3 t4 t5 f5 hnew hy9 hn9 hyA hnA hoE hoD ho8 hBA hB8 hn8 hy8 hal ho9 hg9 cX hW8
  generalize w9.setCell ⟨w4.heap.size, 5, none⟩ (.slice a9 (E.p.length + 1) k9) = w10 at *
  refine cX'.mono ?_
  rintro e w11 ⟨rfl, hb11⟩
  have hn11 := hn10.below hb11
  have hy11 := hy10.below hb11
  have hB11 := chain hB10 hb11
  have ho11 := hnew2.below hb11
  clear cX' hn10 hy10 hB10 hnew2
  have n0 : ((encE EE).2 != 0) = false := by rw [h0]; rfl
  have n1 : ((encE EE).2 == 0) = true := by rw [h0]; rfl
  obtain ⟨x0, x1, x2, x3, x4, x5⟩ := cellsEB hn11
  obtain ⟨y0, y1, y2, y3, y4, y5⟩ := cellsEB hy11
  obtain ⟨fy0, fy1, fy2, fy3, fy4, fy5⟩ := EB.frz hy11
  clear h0
  go_wp2_with fail
  have hfin := EB.put hy11 ⟨E.c, E.b, E.r, EE.t, E.s + 1, E.p⟩ (.slice a9 (E.p.length + 1) k9)
  refine bodyPost_ret (results_row_tmpC rfl _ _ (w.heap.size + 1) 26 _ (0, 0) _ rfl hfin Tryd.underlying26 rfl Tryd.sizeEr) rfl ?_
  refine ⟨_, us ++ [.slice a8 (jn (stR d)).length k8], rfl, ?_, below_putE hB11 (by omega) ⟨E.c, E.b, E.r, EE.t, E.s + 1, E.p⟩ _⟩
  refine OwEd.lower (B := w3.heap.size) ?_ (by omega)
  exact (((((ho11.set (a := ⟨w.heap.size + 1, 0, none⟩) (by simp only; omega) _).set (a := ⟨w.heap.size + 1, 1, none⟩) (by simp only; omega) _).set (a := ⟨w.heap.size + 1, 2, none⟩) (by simp only; omega) _).set (a := ⟨w.heap.size + 1, 3, none⟩) (by simp only; omega) _).set (a := ⟨w.heap.size + 1, 4, none⟩) (by simp only; omega) _).set (a := ⟨w.heap.size + 1, 5, none⟩) (by simp only; omega) _
/-- The reference's Edit. -/
theorem redit_all (E : EdD) (d : List OpD) (v u : Value) (w : World) (hr : RdEd w v E.p) (hd : RdD w u d) (hF : E.Fit) (ht : E.t.size ≤ 1048576) (hS : ∀ e ∈ E.p, ∀ o ∈ e.d, o.Sm) (hdl : d.length ≤ maxLen) (hdi : ∀ o ∈ d, o.Sm) :
    Calls Tryd.prog 14 #[.agg (E.fs v), u] w fun e w' => ∃ v' us, e = .returned (.tuple #[.agg ((edtE E d).1.fs v'), .int .i64 (edtE E d).2]) ∧ OwEd w' w.heap.size v' (edtE E d).1.p us ∧ Below w.heap.size w w' := by
  unfold edtE
  have hdn : ∀ o ∈ d, o.In := fun o ho => sm_in (hdi o ho)
  by_cases hm : mayE E = false
  · rw [if_pos hm]
    refine (redit_form E d v u w hr hd hF ht hS hdl hdi hm).mono ?_
    rintro e w' ⟨rfl, hb⟩
    exact ⟨_, _, rfl, OwEd.nil _ _, hb⟩
  · rw [if_neg hm]
    have hm' : mayE E = true := by simpa using hm
    have hM := (may_iff E).1 hm'
    by_cases hc : chk d ≠ 0
    · rw [if_pos hc]
      refine (redit_delta E d v u w hr hd hF ht hS hdl hdi hm' hc).mono ?_
      rintro e w' ⟨rfl, hb⟩
      exact ⟨_, _, rfl, OwEd.nil _ _, hb⟩
    · rw [if_neg hc]
      have hc' : chk d = 0 := Classical.not_not.1 hc
      by_cases hl : (bsum (stR d) : Int) ≠ cpl E.t
      · rw [if_pos hl]
        refine (redit_length E d v u w hr hd hF ht hS hdl hdi hm' hc' hl).mono ?_
        rintro e w' ⟨rfl, hb⟩
        exact ⟨_, _, rfl, OwEd.nil _ _, hb⟩
      · rw [if_neg hl]
        have hl' : (bsum (stR d) : Int) = cpl E.t := Classical.not_not.1 hl
        by_cases h8 : E.p.length = 8 ∨ E.s = 100000
        · rw [if_pos h8]
          by_cases h88 : E.p.length = 8
          · refine (redit_full8 E d v u w hr hd hF ht hS hdl hdi hm' hc' hl' h88).mono ?_
            rintro e w' ⟨rfl, hb⟩
            exact ⟨_, _, rfl, OwEd.nil _ _, hb⟩
          · refine (redit_fulls E d v u w hr hd hF ht hS hdl hdi hm' hc' hl' (by have := hM.p8; omega) (by omega)).mono ?_
            rintro e w' ⟨rfl, hb⟩
            exact ⟨_, _, rfl, OwEd.nil _ _, hb⟩
        · rw [if_neg h8]
          have hme := may_ed hM hdn hc' hl' h8
          have hMe := (may_iff _).1 hme
          have hFe := fit_ed hM hF hdn hc' hl' h8
          have hte : (edE E d).t.size ≤ 1048576 := by have := size_smallL hMe.t0 hMe.t1; omega
          have hSe : ∀ e ∈ (edE E d).p, ∀ o ∈ e.d, o.Sm := fun e he o ho => chk_smC (hFe.pf e he).di (by have := may_ok hMe e he; simp [okD] at this; exact this.1) o ho
          by_cases h0 : (encE (edE E d)).2 = 0
          · rw [if_neg (fun h => h h0)]
            exact redit_ok E d v u w hr hd hF ht hS hdl hdi hm' hc' hl' (by have := hM.p8; omega) (by have := hM.s1; omega) _ rfl hFe hte hSe h0
          · rw [if_pos h0]
            refine (redit_no E d v u w hr hd hF ht hS hdl hdi hm' hc' hl' (by have := hM.p8; omega) (by have := hM.s1; omega) _ rfl hFe hte hSe h0).mono ?_
            rintro e w' ⟨rfl, hb⟩
            exact ⟨_, [], by rw [(enc_ed hme).resolve_left h0], OwEd.nil _ _, hb⟩
end Go.Proofs.YtcdnlkhjlgaaoaaDoor
