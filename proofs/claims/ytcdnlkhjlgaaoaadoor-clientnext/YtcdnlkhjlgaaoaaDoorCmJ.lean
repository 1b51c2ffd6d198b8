/-
  The reference: Base, own.
-/
import Derived.Test.YtcdnlkhjlgaaoaaDoorCmB
import Derived.Test.YtcdnlkhjlgaaoaaDoorClL
namespace Go.Proofs.YtcdnlkhjlgaaoaaDoor
open Go.ChangeShapes Go.WideShapes Go.ChangeAt Go.RowKit Go.PlainAid

set_option maxRecDepth 20000 in
set_option maxHeartbeats 1000000 in
theorem rbase20_any (E : EdD) (v : Value) (w : World) (hr : RdEd w v E.p) (hF : E.Fit) (ht8 : E.t.size ≤ 1048576) (hS : ∀ e ∈ E.p, ∀ o ∈ e.d, o.Sm) :
    Calls Tryd.prog 40 #[.agg (E.fs v)] w fun e w' => e = .returned (.int .i64 (baseE E)) ∧ Below w.heap.size w w' := by
  obtain ⟨c, b, r, t, s, p⟩ := E
  have ht := hF.t1
  have hpl := hF.pl
  unfold maxLen at hpl
  simp only at ht hpl hr
  have hA := alloc_b w (.cells #[.int .i64 c, .int .i64 b, .int .i64 r, .string t, .int .i64 s, v] 26)
  obtain ⟨ao, cp, rfl, -, hc⟩ := hr
  unfold EdD.fs
  simp only
  cases p with
  | nil =>
    have cL := refLen_any t (w.alloc (.cells #[.int .i64 c, .int .i64 b, .int .i64 r, .string t, .int .i64 s, .slice ao ([] : List EdW).length cp] 26)) ht8
    have e : baseE ⟨c, b, r, t, s, []⟩ = cpl t := rfl
    rw [e]
    go_enter Tryd.func40, Tryd.ntmps40
    go_wp2_with fail
    refine cL.mono ?_
    rintro e w1 ⟨rfl, hb1⟩
    go_wp2_with fail
    go_ret
    exact ⟨rfl, chain hA hb1⟩
  | cons x rest =>
    obtain ⟨g, off, u, rfl, hg, c0, c1, c2⟩ := hc 0 x rfl
    have hxf := hF.pf x (by simp)
    have cB := refBase_any u x.d _ (c2.below hA) hxf.dl (hS x (by simp))
    obtain ⟨au, ku, rfl⟩ := rdd_len c2
    have hcx : (w.alloc (.cells #[.int .i64 c, .int .i64 b, .int .i64 r, .string t, .int .i64 s, .slice (some ⟨g, off, none⟩) (rest.length + 1) cp] 26)).cell? ⟨g, off + 1, none⟩ = some (.slice au x.d.length ku) := (hA.cell (p := ⟨g, off + 1, none⟩) hg).trans (by simpa using c1)
    have e : baseE ⟨c, b, r, t, s, x :: rest⟩ = (bsum (stR x.d) : Int) := rfl
    rw [e]
    have hlen : (x :: rest).length = rest.length + 1 := rfl
    rw [hlen] at *
    have hne : (((rest.length + 1 : Nat) : Int) == 0) = false := by simp; omega
    have hlt : (0 : Int) < ((rest.length + 1 : Nat) : Int) := by omega
    clear c0 c1 hc e
    go_enter Tryd.func40, Tryd.ntmps40
    go_wp2_with fail
    refine cB.mono ?_
    rintro e w1 ⟨rfl, hb1⟩
    go_wp2_with fail
    go_ret
    exact ⟨rfl, chain hA hb1⟩
set_option maxRecDepth 20000 in
set_option maxHeartbeats 1500000 in
theorem rown_any (c b r s rev : Int) (t : ByteArray) (x : EdW) (q : List EdW) (dd : List OpD) (v u : Value) (w : World) (hr : RdEd w v (x :: q)) (hd : RdD w u dd) (hdl : dd.length ≤ maxLen) :
    Calls Tryd.prog 41 #[.agg (EdD.fs ⟨c, b, r, t, s, x :: q⟩ v), u, .int .i64 rev] w fun e w' => ∃ v', e = .returned (.tuple #[.agg ((if dd = x.d then (⟨c, b, rev, t, s, q⟩ : EdD) else zeroE).fs v'), .int .i64 (if dd = x.d then 0 else 200)]) ∧ (∀ W', RdEd W' v (x :: q) → RdEd W' v' (if dd = x.d then (⟨c, b, rev, t, s, q⟩ : EdD) else zeroE).p) ∧ Below w.heap.size w w' := by
  have hx0 := eb_new w ⟨c, b, r, t, s, x :: q⟩ v
  have hx := hx0.below (alloc_b _ (.cells (zeroE.fs (.slice none 0 0)) 26))
  have hy := eb_new (w.alloc (.cells (EdD.fs ⟨c, b, r, t, s, x :: q⟩ v) 26)) zeroE (.slice none 0 0)
  have hA := chain (alloc_b w (.cells (EdD.fs ⟨c, b, r, t, s, x :: q⟩ v) 26)) (alloc_b (w.alloc (.cells (EdD.fs ⟨c, b, r, t, s, x :: q⟩ v) 26)) (.cells (zeroE.fs (.slice none 0 0)) 26))
  rw [World.size_alloc] at hy
  obtain ⟨au, ku, rfl⟩ := rdd_len hd
  obtain ⟨ao, cp, rfl, ⟨hcp, -⟩, hc⟩ := id hr
  obtain ⟨g, off, u0, rfl, hg, c0, c1, c2⟩ := hc 0 x rfl
  simp only [Nat.zero_mul, Nat.add_zero] at c0 c1
  have cS := fun W (h : Below w.heap.size w W) => same_any _ u0 dd x.d W (hd.below h) (c2.below h) hdl
  obtain ⟨a0, k0, rfl⟩ := rdd_len c2
  simp only [List.length_cons] at hcp hr
  obtain ⟨ao, hsl, ha, hz⟩ := slice_1 g off q.length cp hcp
  have htl0 := fun W' (h : RdEd W' (.slice (some ⟨g, off, none⟩) (q.length + 1) cp) (x :: q)) => rded_tail rfl h ha hz
  replace c1 := (hA.cell (p := ⟨g, off + 1, none⟩) hg).trans c1
  obtain ⟨Bq, hBq⟩ : ∃ Bq, Hid (decide (dd = x.d) = Bq) := ⟨_, rfl⟩
  rw [hBq.out] at cS
  obtain ⟨R, HR⟩ : ∃ R, Hid (R = ((if dd = x.d then (⟨c, b, rev, t, s, q⟩ : EdD) else zeroE), (if dd = x.d then (0 : Int) else 200))) := ⟨_, rfl⟩
  have e1 : (if dd = x.d then (⟨c, b, rev, t, s, q⟩ : EdD) else zeroE) = R.1 := by rw [HR.out]
  have e2 : (if dd = x.d then (0 : Int) else 200) = R.2 := by rw [HR.out]
  rw [e1, e2]
  clear e1 e2 hc hr hd hx0 c0 c2
  simp only [EdD.fs, zeroE, List.length_cons] at hA hx hy c1 ⊢
  go_enter Tryd.func41, Tryd.ntmps41
  go_wp2_with fail
  refine (cS _ hA).mono ?_
  rintro e w1 ⟨rfl, hb1⟩
  have hx1 := hx.below hb1
  have hy1 := hy.below hb1
  have hB1 := chain hA hb1
  clear hx hy hA cS hb1 c1
  obtain ⟨x0, x1, x2, x3, x4, x5⟩ := cellsEB hx1
  obtain ⟨fx0, fx1, fx2, fx3, fx4, fx5⟩ := EB.frz hx1
  obtain ⟨y0, y1, y2, y3, y4, y5⟩ := cellsEB hy1
  obtain ⟨fy0, fy1, fy2, fy3, fy4, fy5⟩ := EB.frz hy1
  cases Bq with
  | true =>
    have e : R = (⟨c, b, rev, t, s, q⟩, 0) := by rw [HR.out, if_pos (of_decide_eq_true hBq.out), if_pos (of_decide_eq_true hBq.out)]
    clear HR hBq
    subst e
    go_wp2_with fail
    have hy2 : EB ((w1.setCell ⟨w.heap.size, 5, none⟩ (.slice ao q.length (cp - 1))).setCell ⟨w.heap.size, 2, none⟩ (.int .i64 rev)) (w.heap.size + 1) zeroE (.slice none 0 0) := (Below.heap_setCell _ ⟨w.heap.size, 2, none⟩ _ (w.heap.size + 1) (by simp only; omega)).trans ((Below.heap_setCell w1 ⟨w.heap.size, 5, none⟩ _ (w.heap.size + 1) (by simp only; omega)).trans hy1)
    have hB2 : Below w.heap.size w ((w1.setCell ⟨w.heap.size, 5, none⟩ (.slice ao q.length (cp - 1))).setCell ⟨w.heap.size, 2, none⟩ (.int .i64 rev)) := (hB1.setCell (Nat.le_refl _) _).setCell (Nat.le_refl _) _
    have hfin := EB.put hy2 ⟨c, b, rev, t, s, q⟩ (.slice ao q.length (cp - 1))
    refine bodyPost_ret (results_row_tmpC rfl _ _ (w.heap.size + 1) 26 _ (0, 0) _ rfl hfin Tryd.underlying26 rfl Tryd.sizeEr) rfl ?_
    have hB3 := below_putE hB2 (g := w.heap.size + 1) (by omega) ⟨c, b, rev, t, s, q⟩ (.slice ao q.length (cp - 1))
    exact ⟨_, rfl, htl0, hB3⟩
  | false =>
    have e : R = (zeroE, 200) := by rw [HR.out, if_neg (of_decide_eq_false hBq.out), if_neg (of_decide_eq_false hBq.out)]
    clear HR hBq
    subst e
    go_wp2_with fail
    have hfin := EB.put hy1 zeroE (.slice none 0 0)
    refine bodyPost_ret (results_row_tmpC rfl _ _ (w.heap.size + 1) 26 _ (0, 0) _ rfl hfin Tryd.underlying26 rfl Tryd.sizeEr) rfl ?_
    exact ⟨_, rfl, fun W' _ => RdEd.nil W', below_putE hB1 (by omega) zeroE _⟩
end Go.Proofs.YtcdnlkhjlgaaoaaDoor

/-
  The reference: Next, where it refuses.
-/
namespace Go.Proofs.YtcdnlkhjlgaaoaaDoor
open Go.ChangeShapes Go.WideShapes Go.ChangeAt Go.RowKit Go.PlainAid

set_option maxRecDepth 20000 in
set_option maxHeartbeats 1500000 in
theorem rnext_form (E : EdD) (m : MsD) (v u : Value) (w : World) (hr : RdEd w v E.p) (hd : RdD w u m.d) (hF : E.Fit) (ht : E.t.size ≤ 1048576) (hS : ∀ e ∈ E.p, ∀ o ∈ e.d, o.Sm) (_hdl : m.d.length ≤ maxLen) (_hdi : ∀ o ∈ m.d, o.Sm) (hm : mayE E = false) :
    Calls Tryd.prog 16 #[.agg (E.fs v), .agg (m.fs u)] w fun e w' => e = .returned (.tuple #[.agg (zeroE.fs (.slice none 0 0)), .int .i64 (200)]) ∧ Below w.heap.size w w' := by
  have h3 := l3_new w E m v u
  have hA := bel3 w (.cells (E.fs v) 26) (.cells (m.fs u) 38) (.cells (zeroE.fs (.slice none 0 0)) 26)
  have cM := rmay_any E v _ (hr.below hA) hF ht hS
  obtain ⟨au, ku, rfl⟩ := rdd_len hd
  obtain ⟨av, kv, rfl⟩ := rded_len hr
  rw [hm] at cM
  obtain ⟨c, b, r, t, s, p⟩ := E
  obtain ⟨mk, mb, mc, ms, mr, my, md⟩ := m
  simp only [EdD.fs, MsD.fs] at *
  clear hr hd hF hS
  obtain ⟨x0, x1, x2, x3, x4, x5⟩ := cellsEB h3.x
  simp only [zeroE] at hA x0 x1 x2 x3 x4 x5 cM ⊢
  go_enter Tryd.func16, Tryd.ntmps16
  go_wp2_with fail
  clear x0 x1 x2 x3 x4 x5
  refine cM.mono ?_
  rintro e w4 ⟨rfl, hb4⟩
  have h34 := h3.below hb4
  have hB4 := chain hA hb4
  clear cM h3 hb4 hA
  obtain ⟨x0, x1, x2, x3, x4, x5⟩ := cellsEB h34.x
  obtain ⟨z0, z1, z2, z3, z4, z5, z6⟩ := cellsMB h34.y
  obtain ⟨e0, e1, e2, e3, e4, e5⟩ := cellsEB h34.z
  obtain ⟨f0, f1, f2, f3, f4, f5⟩ := EB.frz h34.z
  go_wp2_with fail
  have hfin := h34.z.put zeroE (.slice none 0 0)
  refine bodyPost_ret (results_row_tmpC rfl _ _ (w.heap.size + 1 + 1) 26 _ (0, 0) _ rfl hfin Tryd.underlying26 rfl Tryd.sizeEr) rfl ?_
  exact ⟨rfl, below_putE hB4 (by omega) zeroE (.slice none 0 0)⟩
set_option maxRecDepth 20000 in
set_option maxHeartbeats 1500000 in
theorem rnext_k (E : EdD) (m : MsD) (v u : Value) (w : World) (hr : RdEd w v E.p) (hd : RdD w u m.d) (hF : E.Fit) (ht : E.t.size ≤ 1048576) (hS : ∀ e ∈ E.p, ∀ o ∈ e.d, o.Sm) (_hdl : m.d.length ≤ maxLen) (_hdi : ∀ o ∈ m.d, o.Sm) (hm : mayE E = true) (hk : m.k ≠ 3) :
    Calls Tryd.prog 16 #[.agg (E.fs v), .agg (m.fs u)] w fun e w' => e = .returned (.tuple #[.agg (zeroE.fs (.slice none 0 0)), .int .i64 (1)]) ∧ Below w.heap.size w w' := by
  have h3 := l3_new w E m v u
  have hA := bel3 w (.cells (E.fs v) 26) (.cells (m.fs u) 38) (.cells (zeroE.fs (.slice none 0 0)) 26)
  have cM := rmay_any E v _ (hr.below hA) hF ht hS
  obtain ⟨au, ku, rfl⟩ := rdd_len hd
  obtain ⟨av, kv, rfl⟩ := rded_len hr
  rw [hm] at cM
  have hr0 := ((may_iff E).1 hm).r0
  have hr1 := ((may_iff E).1 hm).r1
  obtain ⟨c, b, r, t, s, p⟩ := E
  obtain ⟨mk, mb, mc, ms, mr, my, md⟩ := m
  simp only [EdD.fs, MsD.fs] at *
  clear hr hd hF hS
  have hkb : (mk != 3) = true := bne_iff_ne.2 hk
  have hkc : (mk == 3) = false := beq_eq_false_iff_ne.2 hk
  clear hk
  obtain ⟨x0, x1, x2, x3, x4, x5⟩ := cellsEB h3.x
  simp only [zeroE] at hA x0 x1 x2 x3 x4 x5 cM ⊢
  go_enter Tryd.func16, Tryd.ntmps16
  go_wp2_with fail
  clear x0 x1 x2 x3 x4 x5
  refine cM.mono ?_
  rintro e w4 ⟨rfl, hb4⟩
  have h34 := h3.below hb4
  have hB4 := chain hA hb4
  clear cM h3 hb4 hA
  obtain ⟨x0, x1, x2, x3, x4, x5⟩ := cellsEB h34.x
  obtain ⟨z0, z1, z2, z3, z4, z5, z6⟩ := cellsMB h34.y
  obtain ⟨e0, e1, e2, e3, e4, e5⟩ := cellsEB h34.z
  obtain ⟨f0, f1, f2, f3, f4, f5⟩ := EB.frz h34.z
  go_wp2_with fail
  have hfin := h34.z.put zeroE (.slice none 0 0)
  refine bodyPost_ret (results_row_tmpC rfl _ _ (w.heap.size + 1 + 1) 26 _ (0, 0) _ rfl hfin Tryd.underlying26 rfl Tryd.sizeEr) rfl ?_
  exact ⟨rfl, below_putE hB4 (by omega) zeroE (.slice none 0 0)⟩
set_option maxRecDepth 20000 in
set_option maxHeartbeats 1500000 in
theorem rnext_c (E : EdD) (m : MsD) (v u : Value) (w : World) (hr : RdEd w v E.p) (hd : RdD w u m.d) (hF : E.Fit) (ht : E.t.size ≤ 1048576) (hS : ∀ e ∈ E.p, ∀ o ∈ e.d, o.Sm) (_hdl : m.d.length ≤ maxLen) (_hdi : ∀ o ∈ m.d, o.Sm) (hm : mayE E = true) (hk : m.k = 3) (hc : m.c ≠ E.c) :
    Calls Tryd.prog 16 #[.agg (E.fs v), .agg (m.fs u)] w fun e w' => e = .returned (.tuple #[.agg (zeroE.fs (.slice none 0 0)), .int .i64 (1)]) ∧ Below w.heap.size w w' := by
  have h3 := l3_new w E m v u
  have hA := bel3 w (.cells (E.fs v) 26) (.cells (m.fs u) 38) (.cells (zeroE.fs (.slice none 0 0)) 26)
  have cM := rmay_any E v _ (hr.below hA) hF ht hS
  obtain ⟨au, ku, rfl⟩ := rdd_len hd
  obtain ⟨av, kv, rfl⟩ := rded_len hr
  rw [hm] at cM
  have hr0 := ((may_iff E).1 hm).r0
  have hr1 := ((may_iff E).1 hm).r1
  obtain ⟨c, b, r, t, s, p⟩ := E
  obtain ⟨mk, mb, mc, ms, mr, my, md⟩ := m
  simp only [EdD.fs, MsD.fs] at *
  clear hr hd hF hS
  subst hk
  have hcb : (mc != c) = true := bne_iff_ne.2 hc
  have hcc : (mc == c) = false := beq_eq_false_iff_ne.2 hc
  clear hc
  obtain ⟨x0, x1, x2, x3, x4, x5⟩ := cellsEB h3.x
  simp only [zeroE] at hA x0 x1 x2 x3 x4 x5 cM ⊢
  go_enter Tryd.func16, Tryd.ntmps16
  go_wp2_with fail
  clear x0 x1 x2 x3 x4 x5
  refine cM.mono ?_
  rintro e w4 ⟨rfl, hb4⟩
  have h34 := h3.below hb4
  have hB4 := chain hA hb4
  clear cM h3 hb4 hA
  obtain ⟨x0, x1, x2, x3, x4, x5⟩ := cellsEB h34.x
  obtain ⟨z0, z1, z2, z3, z4, z5, z6⟩ := cellsMB h34.y
  obtain ⟨e0, e1, e2, e3, e4, e5⟩ := cellsEB h34.z
  obtain ⟨f0, f1, f2, f3, f4, f5⟩ := EB.frz h34.z
  go_wp2_with fail
  have hfin := h34.z.put zeroE (.slice none 0 0)
  refine bodyPost_ret (results_row_tmpC rfl _ _ (w.heap.size + 1 + 1) 26 _ (0, 0) _ rfl hfin Tryd.underlying26 rfl Tryd.sizeEr) rfl ?_
  exact ⟨rfl, below_putE hB4 (by omega) zeroE (.slice none 0 0)⟩
set_option maxRecDepth 20000 in
set_option maxHeartbeats 1500000 in
theorem rnext_b (E : EdD) (m : MsD) (v u : Value) (w : World) (hr : RdEd w v E.p) (hd : RdD w u m.d) (hF : E.Fit) (ht : E.t.size ≤ 1048576) (hS : ∀ e ∈ E.p, ∀ o ∈ e.d, o.Sm) (_hdl : m.d.length ≤ maxLen) (_hdi : ∀ o ∈ m.d, o.Sm) (hm : mayE E = true) (hk : m.k = 3) (hc : m.c = E.c) (hb : m.b ≠ E.b) :
    Calls Tryd.prog 16 #[.agg (E.fs v), .agg (m.fs u)] w fun e w' => e = .returned (.tuple #[.agg (zeroE.fs (.slice none 0 0)), .int .i64 (1)]) ∧ Below w.heap.size w w' := by
  have h3 := l3_new w E m v u
  have hA := bel3 w (.cells (E.fs v) 26) (.cells (m.fs u) 38) (.cells (zeroE.fs (.slice none 0 0)) 26)
  have cM := rmay_any E v _ (hr.below hA) hF ht hS
  obtain ⟨au, ku, rfl⟩ := rdd_len hd
  obtain ⟨av, kv, rfl⟩ := rded_len hr
  rw [hm] at cM
  have hr0 := ((may_iff E).1 hm).r0
  have hr1 := ((may_iff E).1 hm).r1
  obtain ⟨c, b, r, t, s, p⟩ := E
  obtain ⟨mk, mb, mc, ms, mr, my, md⟩ := m
  simp only [EdD.fs, MsD.fs] at *
  clear hr hd hF hS
  subst hk
  subst hc
  have hbb : (mb != b) = true := bne_iff_ne.2 hb
  have hbc : (mb == b) = false := beq_eq_false_iff_ne.2 hb
  clear hb
  obtain ⟨x0, x1, x2, x3, x4, x5⟩ := cellsEB h3.x
  simp only [zeroE] at hA x0 x1 x2 x3 x4 x5 cM ⊢
  go_enter Tryd.func16, Tryd.ntmps16
  go_wp2_with fail
  clear x0 x1 x2 x3 x4 x5
  refine cM.mono ?_
  rintro e w4 ⟨rfl, hb4⟩
  have h34 := h3.below hb4
  have hB4 := chain hA hb4
  clear cM h3 hb4 hA
  obtain ⟨x0, x1, x2, x3, x4, x5⟩ := cellsEB h34.x
  obtain ⟨z0, z1, z2, z3, z4, z5, z6⟩ := cellsMB h34.y
  obtain ⟨e0, e1, e2, e3, e4, e5⟩ := cellsEB h34.z
  obtain ⟨f0, f1, f2, f3, f4, f5⟩ := EB.frz h34.z
  go_wp2_with fail
  have hfin := h34.z.put zeroE (.slice none 0 0)
  refine bodyPost_ret (results_row_tmpC rfl _ _ (w.heap.size + 1 + 1) 26 _ (0, 0) _ rfl hfin Tryd.underlying26 rfl Tryd.sizeEr) rfl ?_
  exact ⟨rfl, below_putE hB4 (by omega) zeroE (.slice none 0 0)⟩
set_option maxRecDepth 20000 in
set_option maxHeartbeats 1500000 in
theorem rnext_old (E : EdD) (m : MsD) (v u : Value) (w : World) (hr : RdEd w v E.p) (hd : RdD w u m.d) (hF : E.Fit) (ht : E.t.size ≤ 1048576) (hS : ∀ e ∈ E.p, ∀ o ∈ e.d, o.Sm) (_hdl : m.d.length ≤ maxLen) (_hdi : ∀ o ∈ m.d, o.Sm) (hm : mayE E = true) (hk : m.k = 3) (hc : m.c = E.c) (hb : m.b = E.b) (ho : m.r ≤ E.r) :
    Calls Tryd.prog 16 #[.agg (E.fs v), .agg (m.fs u)] w fun e w' => e = .returned (.tuple #[.agg (zeroE.fs (.slice none 0 0)), .int .i64 (196)]) ∧ Below w.heap.size w w' := by
  have h3 := l3_new w E m v u
  have hA := bel3 w (.cells (E.fs v) 26) (.cells (m.fs u) 38) (.cells (zeroE.fs (.slice none 0 0)) 26)
  have cM := rmay_any E v _ (hr.below hA) hF ht hS
  obtain ⟨au, ku, rfl⟩ := rdd_len hd
  obtain ⟨av, kv, rfl⟩ := rded_len hr
  rw [hm] at cM
  have hr0 := ((may_iff E).1 hm).r0
  have hr1 := ((may_iff E).1 hm).r1
  obtain ⟨c, b, r, t, s, p⟩ := E
  obtain ⟨mk, mb, mc, ms, mr, my, md⟩ := m
  simp only [EdD.fs, MsD.fs] at *
  clear hr hd hF hS
  subst hk
  subst hc
  subst hb
  obtain ⟨x0, x1, x2, x3, x4, x5⟩ := cellsEB h3.x
  simp only [zeroE] at hA x0 x1 x2 x3 x4 x5 cM ⊢
  go_enter Tryd.func16, Tryd.ntmps16
  go_wp2_with fail
  clear x0 x1 x2 x3 x4 x5
  refine cM.mono ?_
  rintro e w4 ⟨rfl, hb4⟩
  have h34 := h3.below hb4
  have hB4 := chain hA hb4
  clear cM h3 hb4 hA
  obtain ⟨x0, x1, x2, x3, x4, x5⟩ := cellsEB h34.x
  obtain ⟨z0, z1, z2, z3, z4, z5, z6⟩ := cellsMB h34.y
  obtain ⟨e0, e1, e2, e3, e4, e5⟩ := cellsEB h34.z
  obtain ⟨f0, f1, f2, f3, f4, f5⟩ := EB.frz h34.z
  go_wp2_with fail
  have hfin := h34.z.put zeroE (.slice none 0 0)
  refine bodyPost_ret (results_row_tmpC rfl _ _ (w.heap.size + 1 + 1) 26 _ (0, 0) _ rfl hfin Tryd.underlying26 rfl Tryd.sizeEr) rfl ?_
  exact ⟨rfl, below_putE hB4 (by omega) zeroE (.slice none 0 0)⟩
set_option maxRecDepth 20000 in
set_option maxHeartbeats 1500000 in
theorem rnext_gap (E : EdD) (m : MsD) (v u : Value) (w : World) (hr : RdEd w v E.p) (hd : RdD w u m.d) (hF : E.Fit) (ht : E.t.size ≤ 1048576) (hS : ∀ e ∈ E.p, ∀ o ∈ e.d, o.Sm) (_hdl : m.d.length ≤ maxLen) (_hdi : ∀ o ∈ m.d, o.Sm) (hm : mayE E = true) (hk : m.k = 3) (hc : m.c = E.c) (hb : m.b = E.b) (ho : ¬ m.r ≤ E.r) (hg : m.r ≠ E.r + 1) :
    Calls Tryd.prog 16 #[.agg (E.fs v), .agg (m.fs u)] w fun e w' => e = .returned (.tuple #[.agg (zeroE.fs (.slice none 0 0)), .int .i64 (197)]) ∧ Below w.heap.size w w' := by
  have h3 := l3_new w E m v u
  have hA := bel3 w (.cells (E.fs v) 26) (.cells (m.fs u) 38) (.cells (zeroE.fs (.slice none 0 0)) 26)
  have cM := rmay_any E v _ (hr.below hA) hF ht hS
  obtain ⟨au, ku, rfl⟩ := rdd_len hd
  obtain ⟨av, kv, rfl⟩ := rded_len hr
  rw [hm] at cM
  have hr0 := ((may_iff E).1 hm).r0
  have hr1 := ((may_iff E).1 hm).r1
  obtain ⟨c, b, r, t, s, p⟩ := E
  obtain ⟨mk, mb, mc, ms, mr, my, md⟩ := m
  simp only [EdD.fs, MsD.fs] at *
  clear hr hd hF hS
  subst hk
  subst hc
  subst hb
  have hgb : (mr != (r + 1)) = true := bne_iff_ne.2 hg
  have hgc : (mr == (r + 1)) = false := beq_eq_false_iff_ne.2 hg
  clear hg
  obtain ⟨x0, x1, x2, x3, x4, x5⟩ := cellsEB h3.x
  simp only [zeroE] at hA x0 x1 x2 x3 x4 x5 cM ⊢
  go_enter Tryd.func16, Tryd.ntmps16
  go_wp2_with fail
  clear x0 x1 x2 x3 x4 x5
  refine cM.mono ?_
  rintro e w4 ⟨rfl, hb4⟩
  have h34 := h3.below hb4
  have hB4 := chain hA hb4
  clear cM h3 hb4 hA
  obtain ⟨x0, x1, x2, x3, x4, x5⟩ := cellsEB h34.x
  obtain ⟨z0, z1, z2, z3, z4, z5, z6⟩ := cellsMB h34.y
  obtain ⟨e0, e1, e2, e3, e4, e5⟩ := cellsEB h34.z
  obtain ⟨f0, f1, f2, f3, f4, f5⟩ := EB.frz h34.z
  go_wp2_with fail
  have hfin := h34.z.put zeroE (.slice none 0 0)
  refine bodyPost_ret (results_row_tmpC rfl _ _ (w.heap.size + 1 + 1) 26 _ (0, 0) _ rfl hfin Tryd.underlying26 rfl Tryd.sizeEr) rfl ?_
  exact ⟨rfl, below_putE hB4 (by omega) zeroE (.slice none 0 0)⟩
set_option maxRecDepth 20000 in
set_option maxHeartbeats 1500000 in
theorem rnext_delta (E : EdD) (m : MsD) (v u : Value) (w : World) (hr : RdEd w v E.p) (hd : RdD w u m.d) (hF : E.Fit) (ht : E.t.size ≤ 1048576) (hS : ∀ e ∈ E.p, ∀ o ∈ e.d, o.Sm) (hdl : m.d.length ≤ maxLen) (hdi : ∀ o ∈ m.d, o.Sm) (hm : mayE E = true) (hk : m.k = 3) (hc : m.c = E.c) (hb : m.b = E.b) (hg : m.r = E.r + 1) (hq : chk m.d ≠ 0) :
    Calls Tryd.prog 16 #[.agg (E.fs v), .agg (m.fs u)] w fun e w' => e = .returned (.tuple #[.agg (zeroE.fs (.slice none 0 0)), .int .i64 (chk m.d)]) ∧ Below w.heap.size w w' := by
  have h3 := l3_new w E m v u
  have hA := bel3 w (.cells (E.fs v) 26) (.cells (m.fs u) 38) (.cells (zeroE.fs (.slice none 0 0)) 26)
  have cM := rmay_any E v _ (hr.below hA) hF ht hS
  obtain ⟨au, ku, rfl⟩ := rdd_len hd
  obtain ⟨av, kv, rfl⟩ := rded_len hr
  rw [hm] at cM
  have hr0 := ((may_iff E).1 hm).r0
  have hr1 := ((may_iff E).1 hm).r1
  have cB := fun W (h : Below w.heap.size w W) => refBase_any _ m.d W (hd.below h) hdl hdi
  obtain ⟨c, b, r, t, s, p⟩ := E
  obtain ⟨mk, mb, mc, ms, mr, my, md⟩ := m
  simp only [EdD.fs, MsD.fs] at *
  clear hr hd hF hS
  subst hk
  subst hc
  subst hb
  subst hg
  have ho : ¬ (r + 1 ≤ r) := by omega
  have hqb : (chk md != 0) = true := bne_iff_ne.2 hq
  have hqc : (chk md == 0) = false := beq_eq_false_iff_ne.2 hq
  obtain ⟨x0, x1, x2, x3, x4, x5⟩ := cellsEB h3.x
  simp only [zeroE] at hA x0 x1 x2 x3 x4 x5 cM ⊢
  go_enter Tryd.func16, Tryd.ntmps16
  go_wp2_with fail
  clear x0 x1 x2 x3 x4 x5
  refine cM.mono ?_
  rintro e w4 ⟨rfl, hb4⟩
  have h34 := h3.below hb4
  have hB4 := chain hA hb4
  clear cM h3 hb4 hA
  obtain ⟨x0, x1, x2, x3, x4, x5⟩ := cellsEB h34.x
  obtain ⟨z0, z1, z2, z3, z4, z5, z6⟩ := cellsMB h34.y
  go_wp2_with fail
  refine (cB _ hB4).mono ?_
  rintro e w5 ⟨rfl, hb5⟩
  have h35 := h34.below hb5
  have hB5 := chain hB4 hb5
  clear x0 x1 x2 x3 x4 x5 z0 z1 z2 z3 z4 z5 z6 h34 hB4 cB hb5
  obtain ⟨e0, e1, e2, e3, e4, e5⟩ := cellsEB h35.z
  obtain ⟨f0, f1, f2, f3, f4, f5⟩ := EB.frz h35.z
  go_wp2_with fail
  have hfin := h35.z.put zeroE (.slice none 0 0)
  refine bodyPost_ret (results_row_tmpC rfl _ _ (w.heap.size + 1 + 1) 26 _ (0, 0) _ rfl hfin Tryd.underlying26 rfl Tryd.sizeEr) rfl ?_
  exact ⟨rfl, below_putE hB5 (by omega) zeroE (.slice none 0 0)⟩
set_option maxRecDepth 20000 in
set_option maxHeartbeats 1500000 in
theorem rnext_len (E : EdD) (m : MsD) (v u : Value) (w : World) (hr : RdEd w v E.p) (hd : RdD w u m.d) (hF : E.Fit) (ht : E.t.size ≤ 1048576) (hS : ∀ e ∈ E.p, ∀ o ∈ e.d, o.Sm) (hdl : m.d.length ≤ maxLen) (hdi : ∀ o ∈ m.d, o.Sm) (hm : mayE E = true) (hk : m.k = 3) (hc : m.c = E.c) (hb : m.b = E.b) (hg : m.r = E.r + 1) (hq : chk m.d = 0) (hl : (bsum (stR m.d) : Int) ≠ baseE E) :
    Calls Tryd.prog 16 #[.agg (E.fs v), .agg (m.fs u)] w fun e w' => e = .returned (.tuple #[.agg (zeroE.fs (.slice none 0 0)), .int .i64 (91)]) ∧ Below w.heap.size w w' := by
  have h3 := l3_new w E m v u
  have hA := bel3 w (.cells (E.fs v) 26) (.cells (m.fs u) 38) (.cells (zeroE.fs (.slice none 0 0)) 26)
  have cM := rmay_any E v _ (hr.below hA) hF ht hS
  obtain ⟨au, ku, rfl⟩ := rdd_len hd
  obtain ⟨av, kv, rfl⟩ := rded_len hr
  rw [hm] at cM
  have hr0 := ((may_iff E).1 hm).r0
  have hr1 := ((may_iff E).1 hm).r1
  have cB := fun W (h : Below w.heap.size w W) => refBase_any _ m.d W (hd.below h) hdl hdi
  rw [hq] at cB
  have cE := fun W (h : Below w.heap.size w W) => rbase20_any E _ W (hr.below h) hF ht hS
  generalize baseE E = Bs at *
  obtain ⟨c, b, r, t, s, p⟩ := E
  obtain ⟨mk, mb, mc, ms, mr, my, md⟩ := m
  simp only [EdD.fs, MsD.fs] at *
  clear hr hd hF hS
  subst hk
  subst hc
  subst hb
  subst hg
  have ho : ¬ (r + 1 ≤ r) := by omega
  have hlb : ((bsum (stR md) : Int) != Bs) = true := bne_iff_ne.2 hl
  have hlc : ((bsum (stR md) : Int) == Bs) = false := beq_eq_false_iff_ne.2 hl
  clear hl hq
  obtain ⟨x0, x1, x2, x3, x4, x5⟩ := cellsEB h3.x
  simp only [zeroE] at hA x0 x1 x2 x3 x4 x5 cM ⊢
  go_enter Tryd.func16, Tryd.ntmps16
  go_wp2_with fail
  clear x0 x1 x2 x3 x4 x5
  refine cM.mono ?_
  rintro e w4 ⟨rfl, hb4⟩
  have h34 := h3.below hb4
  have hB4 := chain hA hb4
  clear cM h3 hb4 hA
  obtain ⟨x0, x1, x2, x3, x4, x5⟩ := cellsEB h34.x
  obtain ⟨z0, z1, z2, z3, z4, z5, z6⟩ := cellsMB h34.y
  go_wp2_with fail
  refine (cB _ hB4).mono ?_
  rintro e w5 ⟨rfl, hb5⟩
  have h35 := h34.below hb5
  have hB5 := chain hB4 hb5
  clear x0 x1 x2 x3 x4 x5 z0 z1 z2 z3 z4 z5 z6 h34 hB4 cB hb5
  obtain ⟨x0, x1, x2, x3, x4, x5⟩ := cellsEB h35.x
  go_wp2_with fail
  refine (cE _ hB5).mono ?_
  rintro e w6 ⟨rfl, hb6⟩
  have h36 := h35.below hb6
  have hB6 := chain hB5 hb6
  clear x0 x1 x2 x3 x4 x5 h35 hB5 cE hb6
  obtain ⟨e0, e1, e2, e3, e4, e5⟩ := cellsEB h36.z
  obtain ⟨f0, f1, f2, f3, f4, f5⟩ := EB.frz h36.z
  go_wp2_with fail
  have hfin := h36.z.put zeroE (.slice none 0 0)
  refine bodyPost_ret (results_row_tmpC rfl _ _ (w.heap.size + 1 + 1) 26 _ (0, 0) _ rfl hfin Tryd.underlying26 rfl Tryd.sizeEr) rfl ?_
  exact ⟨rfl, below_putE hB6 (by omega) zeroE (.slice none 0 0)⟩
end Go.Proofs.YtcdnlkhjlgaaoaaDoor

/-
  The reference: Next of its own edit.
-/
namespace Go.Proofs.YtcdnlkhjlgaaoaaDoor
open Go.ChangeShapes Go.WideShapes Go.ChangeAt Go.RowKit Go.PlainAid

set_option maxRecDepth 20000 in
set_option maxHeartbeats 2500000 in
theorem rnext_own (E : EdD) (m : MsD) (v u : Value) (w : World) (hr : RdEd w v E.p) (hd : RdD w u m.d) (hF : E.Fit) (ht : E.t.size ≤ 1048576) (hS : ∀ e ∈ E.p, ∀ o ∈ e.d, o.Sm) (hdl : m.d.length ≤ maxLen) (hdi : ∀ o ∈ m.d, o.Sm) (hm : mayE E = true) (hk : m.k = 3) (hc : m.c = E.c) (hb : m.b = E.b) (hg : m.r = E.r + 1) (hq : chk m.d = 0) (hl : (bsum (stR m.d) : Int) = baseE E) (x : EdW) (q : List EdW) (hp : E.p = x :: q) (hy : m.y = E.c) (hs : m.s = x.q) (hld : ∀ e ∈ E.p, e.d.length ≤ 1048576) (hpl : E.p.length ≤ 1000000) (R : EdD × Int) (hR : R = ((if jn (stR m.d) = x.d then (⟨E.c, E.b, m.r, E.t, E.s, q⟩ : EdD) else zeroE), (if jn (stR m.d) = x.d then (0 : Int) else 200))) :
    Calls Tryd.prog 16 #[.agg (E.fs v), .agg (m.fs u)] w fun e w' => ∃ v', e = .returned (.tuple #[.agg (R.1.fs v'), .int .i64 R.2]) ∧ RdEd w' v' R.1.p ∧ Below w.heap.size w w' := by
  have h3 := l3_new w E m v u
  have hA := bel3 w (.cells (E.fs v) 26) (.cells (m.fs u) 38) (.cells (zeroE.fs (.slice none 0 0)) 26)
  have cM := rmay_any E v _ (hr.below hA) hF ht hS
  obtain ⟨au, ku, rfl⟩ := rdd_len hd
  obtain ⟨av, kv, rfl⟩ := rded_len hr
  rw [hm] at cM
  have hr0 := ((may_iff E).1 hm).r0
  have hr1 := ((may_iff E).1 hm).r1
  have cB := fun W (h : Below w.heap.size w W) => refBase_any _ m.d W (hd.below h) hdl hdi
  rw [hq, hl] at cB
  have cE := fun W (h : Below w.heap.size w W) => rbase20_any E _ W (hr.below h) hF ht hS
  have cC := fun W (h : Below w.heap.size w W) => rcopy_any E _ W (hr.below h) (by omega) hld
  have cN := fun W (h : Below w.heap.size w W) => refNormal_any _ m.d W (hd.below h) hdl hdi
  rw [hq] at cN
  have hjl := jn_in (stR_ok (fun o ho => sm_in (hdi o ho))) (stR_bd m.d).1 (stR_bd m.d).2
  generalize baseE E = Bs at *
  obtain ⟨c, b, r, t, s, p⟩ := E
  obtain ⟨mk, mb, mc, ms, mr, my, md⟩ := m
  simp only [EdD.fs, MsD.fs] at *
  subst hp
  clear hr hd hF hS hq hl hm hld
  subst hk
  subst hc
  subst hb
  subst hg
  have ho : ¬ (r + 1 ≤ r) := by omega
  have hyy : my = mc := by omega
  subst hyy
  subst hs
  have cO := fun W v' u' (h1 : RdEd W v' (x :: q)) (h2 : RdD W u' (jn (stR md))) => rown_any my mb r s (r + 1) t x q (jn (stR md)) v' u' W h1 h2 (by have := hjl.1; unfold maxLen; omega)
  obtain ⟨R1, HR1⟩ : ∃ R1, Hid ((if jn (stR md) = x.d then (⟨my, mb, r + 1, t, s, q⟩ : EdD) else zeroE) = R1) := ⟨_, rfl⟩
  obtain ⟨R2, HR2⟩ : ∃ R2, Hid ((if jn (stR md) = x.d then (0 : Int) else 200) = R2) := ⟨_, rfl⟩
  simp only [HR1.out, HR2.out] at cO hR
  subst hR
  clear HR1 HR2 hjl hdi hdl
  simp only [EdD.fs, List.length_cons] at *
  obtain ⟨x0, x1, x2, x3, x4, x5⟩ := cellsEB h3.x
  simp only [zeroE] at hA x0 x1 x2 x3 x4 x5 cM ⊢
  go_enter Tryd.func16, Tryd.ntmps16
  go_wp2_with fail
  clear x0 x1 x2 x3 x4 x5
  refine cM.mono ?_
  rintro e w4 ⟨rfl, hb4⟩
  have h34 := h3.below hb4
  have hB4 := chain hA hb4
  clear cM h3 hb4 hA
  obtain ⟨x0, x1, x2, x3, x4, x5⟩ := cellsEB h34.x
  obtain ⟨z0, z1, z2, z3, z4, z5, z6⟩ := cellsMB h34.y
  go_wp2_with fail
  refine (cB _ hB4).mono ?_
  rintro e w5 ⟨rfl, hb5⟩
  have h35 := h34.below hb5
  have hB5 := chain hB4 hb5
  clear x0 x1 x2 x3 x4 x5 z0 z1 z2 z3 z4 z5 z6 h34 hB4 cB hb5
  obtain ⟨x0, x1, x2, x3, x4, x5⟩ := cellsEB h35.x
  go_wp2_with fail
  refine (cE _ hB5).mono ?_
  rintro e w6 ⟨rfl, hb6⟩
  have h36 := h35.below hb6
  have hB6 := chain hB5 hb6
  clear x0 x1 x2 x3 x4 x5 h35 hB5 cE hb6
  obtain ⟨x0, x1, x2, x3, x4, x5⟩ := cellsEB h36.x
  go_wp2_with fail
  refine (cC _ hB6).mono ?_
  rintro e w7 ⟨v7, us7, rfl, ho7, hb7⟩
  obtain ⟨a7, k7, ev7⟩ := own_form ho7.row
  simp only [List.length_cons] at ev7
  subst ev7
  have hn7 := eb_new w7 ⟨my, mb, r, t, s, x :: q⟩ (.slice a7 (q.length + 1) k7)
  have hal7 := alloc_b w7 (.cells #[.int .i64 my, .int .i64 mb, .int .i64 r, .string t, .int .i64 s, .slice a7 (q.length + 1) k7] 26)
  have h38 := (h36.below hb7).below hal7
  have r8 := ho7.rd.below hal7
  have hs6 := h36.z.lt
  have hB8 := chain hB6 (chain hb7 hal7)
  clear x0 x1 x2 x3 x4 x5 h36 hB6 cC hb7
  obtain ⟨z0, z1, z2, z3, z4, z5, z6⟩ := cellsMB h38.y
  go_wp2_with fail
  refine (cN _ hB8).mono ?_
  rintro e w9 ⟨u9, rfl, ho9, hb9⟩
  obtain ⟨a9, k9, rfl⟩ := own_form ho9
  have hn9 := hn7.below hb9
  have h39 := h38.below hb9
  have r9 := r8.below hb9
  have hB9 := chain hB8 hb9
  have rd9 := rdd_own ho9
  clear z0 z1 z2 z3 z4 z5 z6 hn7 h38 r8 hB8 cN ho9
  obtain ⟨ac, cc, ev, -, hcc⟩ := id r9
  simp only [Value.slice.injEq] at ev
  obtain ⟨rfl, -, rfl⟩ := ev
  obtain ⟨gc, oc, uc, rfl, hgc, d0, -, -⟩ := hcc 0 x rfl
  simp only [Nat.zero_mul, Nat.add_zero] at d0
  clear hcc
  obtain ⟨x0, x1, x2, x3, x4, x5⟩ := cellsEB hn9
  obtain ⟨z0, z1, z2, z3, z4, z5, z6⟩ := cellsMB h39.y
  have hd1 : decide (((q.length + 1 : Nat) : Int) > 0) = true := decide_eq_true (by omega)
  have hd2 : decide ((0 : Int) < ((q.length + 1 : Nat) : Int)) = true := decide_eq_true (by omega)
  have hd3 : decide ((0 : Int) < (q.length : Int) + 1) = true := decide_eq_true (by omega)
  have hql : (q.length : Int) + 1 ≤ 9223372036854775807 := by omega
  go_wp2_with fail
  go_quiet (fail)
  have hdr := below_drewC w9 nq
  obtain ⟨t0, t1, t2, t3, t4, t5⟩ := cellsEB (hn9.below hdr)
  obtain ⟨y0, y1, y2, y3, y4, y5, y6⟩ := cellsMB (h39.below hdr).y
  go_wp2_with fail
  refine (cO _ _ _ (r9.below hdr) (rd9.below hdr)).mono ?_
  rintro e w10 ⟨v10, rfl, r10, hb10⟩
  obtain ⟨a10, k10, rfl⟩ := rded_len (r10 _ (r9.below hdr))
  have h310 := (h39.below hdr).below hb10
  have hB10 := chain hB9 (chain hdr hb10)
  clear x0 x1 x2 x3 x4 x5 z0 z1 z2 z3 z4 z5 z6 t0 t1 t2 t3 t4 t5 y0 y1 y2 y3 y4 y5 y6 d0 cO hn9 h39 r9 rd9 hB9
  obtain ⟨e0, e1, e2, e3, e4, e5⟩ := cellsEB h310.z
  obtain ⟨f0, f1, f2, f3, f4, f5⟩ := EB.frz h310.z
  go_wp2_with fail
  have hfin := h310.z.put R1 (.slice a10 R1.p.length k10)
  refine bodyPost_ret (results_row_tmpC rfl _ _ (w.heap.size + 1 + 1) 26 _ (0, 0) _ rfl hfin Tryd.underlying26 rfl Tryd.sizeEr) rfl ?_
  have hB11 := below_putE hB10 (g := w.heap.size + 1 + 1) (by omega) R1 (.slice a10 R1.p.length k10)
  refine ⟨_, rfl, ?_, hB11⟩
  refine r10 _ (OwEd.rd (B := w6.heap.size) (us := us7) ?_)
  have hoF := ((ho7.below hal7).below hb9).below (chain hdr hb10)
  exact (((((hoF.set (a := ⟨w.heap.size + 1 + 1, 0, none⟩) (by simp only; omega) _).set (a := ⟨w.heap.size + 1 + 1, 1, none⟩) (by simp only; omega) _).set (a := ⟨w.heap.size + 1 + 1, 2, none⟩) (by simp only; omega) _).set (a := ⟨w.heap.size + 1 + 1, 3, none⟩) (by simp only; omega) _).set (a := ⟨w.heap.size + 1 + 1, 4, none⟩) (by simp only; omega) _).set (a := ⟨w.heap.size + 1 + 1, 5, none⟩) (by simp only; omega) _
end Go.Proofs.YtcdnlkhjlgaaoaaDoor

/-
  A row of edits of one's own, one of whose deltas is put anew. No walk.
-/
namespace Go.Proofs.YtcdnlkhjlgaaoaaDoor
open Go.ChangeShapes Go.WideShapes Go.ChangeAt Go.RowKit Go.PlainAid

theorem own_row_set {W : World} {B e z n j g cap : Nat} {v x : Value} {xs : List Value} (h : W.ownsRow B e z v n xs) (hv : v = .slice (some ⟨g, 0, none⟩) n cap) : (W.setCell ⟨g, j, none⟩ x).ownsRow B e z v n (xs.set j x) := by
  obtain ⟨hl, hr⟩ := h
  refine ⟨by simp [hl], ?_⟩
  rcases hr with ⟨rfl, h0⟩ | ⟨g', cap', cur, e', hb, hg, hn, hm, hs, ht⟩
  · cases hv
  · rw [hv] at e'
    simp only [Value.slice.injEq, Option.some.injEq, Addr.mk.injEq, and_true, true_and] at e'
    obtain ⟨rfl, rfl⟩ := e'
    refine .inr ⟨g, cap, cur.setIfInBounds j x, hv, hb, heap_setCell hg j x, hn, hm, by simpa using hs, ?_⟩
    rw [Array.toList_setIfInBounds, List.take_set, ht]
theorem ecs_set : ∀ (l : List EdW) (us : List Value) (i : Nat) (d : List OpD) (u : Value) (hi : i < l.length), us.length = l.length → ecs (l.set i ⟨l[i].q, d⟩) (us.set i u) = (ecs l us).set (i * 2 + 1) u
  | x :: l, y :: us, 0, d, u, _, _ => rfl
  | x :: l, y :: us, i + 1, d, u, hi, h => by
    have := ecs_set l us i d u (by simpa using hi) (by simpa using h)
    rw [show (i + 1) * 2 + 1 = i * 2 + 1 + 1 + 1 by omega]
    simp only [List.set_cons_succ, ecs, List.getElem_cons_succ, this]
  | [], _, _, _, _, hi, _ => by simp at hi
  | _ :: _, [], _, _, _, _, h => by simp at h
theorem OwEd.put {W : World} {B g cap i : Nat} {v u : Value} {l : List EdW} {us : List Value} {d : List OpD} (h : OwEd W B v l us) (hi : i < l.length) (hv : v = .slice (some ⟨g, 0, none⟩) l.length cap) (hu : W.ownsRow B 43 3 u d.length (ocs d)) : OwEd (W.setCell ⟨g, i * 2 + 1, none⟩ u) B v (l.set i ⟨l[i].q, d⟩) (us.set i u) := by
  have hg : ∃ cs, W.heap[g]? = some (.cells cs 41) := by
    rcases h.row.2 with ⟨e, h0⟩ | ⟨g', cap', cur, e', hb, hg, _⟩
    · rw [hv] at e; cases e
    · rw [hv] at e'
      simp only [Value.slice.injEq, Option.some.injEq, Addr.mk.injEq, and_true, true_and] at e'
      obtain ⟨rfl, rfl⟩ := e'
      exact ⟨_, hg⟩
  obtain ⟨cs, hg⟩ := hg
  refine ⟨by simp [h.ul], ?_, fun j e y h1 h2 => ?_⟩
  · rw [ecs_set l us i d u hi h.ul, List.length_set]
    exact own_row_set h.row hv
  · by_cases hji : j = i
    · subst hji
      rw [List.getElem?_set_self hi] at h1
      rw [List.getElem?_set_self (by rw [h.ul]; exact hi)] at h2
      simp only [Option.some.injEq] at h1 h2
      subst h1
      subst h2
      exact own_set hu hg (by decide)
    · rw [List.getElem?_set_ne (fun e => hji e.symm)] at h1 h2
      exact own_set (h.dl j e y h1 h2) hg (by decide)
end Go.Proofs.YtcdnlkhjlgaaoaaDoor

/-
  A delta and its normal are led alike: data, for ClientNext.
-/
namespace Go.Proofs.YtcdnlkhjlgaaoaaDoor
open Go.RowKit Go.PlainAid

theorem trR_nr {A B : List OpD} (f : Bool) (iB : ∀ o ∈ B, o.In) (hB : chk B = 0) : trR f A (jn (stR B)) = trR f A B := by
  have bd := stR_bd B
  obtain ⟨n1, n2, n3, n4, n5⟩ := normal_facts (stR_ok iB) bd.1 bd.2
  unfold trR trW
  rw [n1, hB, n4, n2]
theorem trR_nl {A B : List OpD} (f : Bool) (iA : ∀ o ∈ A, o.In) (hA : chk A = 0) : trR f (jn (stR A)) B = trR f A B := by
  have bd := stR_bd A
  obtain ⟨n1, n2, n3, n4, n5⟩ := normal_facts (stR_ok iA) bd.1 bd.2
  unfold trR trW
  rw [n1, hA, n4, n2]
theorem ldG_normal {d : List OpD} (hi : ∀ o ∈ d, o.In) (hc : chk d = 0) (e : EdW) (l : List EdW) : ldG (jn (stR d)) (e :: l) = ldG d (e :: l) := by
  unfold ldG
  rw [trR_nr false hi hc, trR_nl true hi hc]
/-- Led as it came, or normal: the same. -/
theorem led_normal {E : EdD} {m : MsD} (hi : ∀ o ∈ m.d, o.In) (hc : chk m.d = 0) : ledE E ⟨m.k, m.b, m.c, m.s, m.r, m.y, jn (stR m.d)⟩ = ledE E m := by
  unfold ledE
  simp only
  cases hp : E.p with
  | nil => simp only [ldG, apR_normal hi hc]
  | cons e l => rw [ldG_normal hi hc]
/-- What an editor that may be gets behind a revision that fits: deltas that are normal. -/
theorem ldG_len : ∀ {l : List EdW} {d : List OpD} {x : List EdW × List OpD}, ldG d l = some x → x.1.length = l.length
  | [], d, x, h => by rw [ldG] at h; cases h; rfl
  | e :: l, d, x, h => by
    rw [ldG] at h
    split at h
    · cases hq : ldG (trR true d e.d).1 l with
      | none => rw [hq] at h; cases h
      | some y =>
        rw [hq] at h
        simp only [Option.map_some, Option.some.injEq] at h
        subst h
        simp [ldG_len hq]
    · cases h
end Go.Proofs.YtcdnlkhjlgaaoaaDoor
