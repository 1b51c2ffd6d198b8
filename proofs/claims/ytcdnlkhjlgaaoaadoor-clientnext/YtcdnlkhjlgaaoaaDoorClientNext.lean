/-
  Proved: any message that comes to any editor is taken in as the reference takes it, and neither that nor writing into what came of it changes the editor that is handed in (the law ClientNext), where what comes in is of bulk at most 1048576.
-/
import Derived.Test.YtcdnlkhjlgaaoaaDoorCmN
import Derived.Test.YtcdnlkhjlgaaoaaDoorClR
namespace Go.Proofs.YtcdnlkhjlgaaoaaDoor.clientNext
open Go.RowKit Go.ChangeShapes Go.WideShapes Go.ChangeAt Go.PlainAid

set_option maxRecDepth 20000 in
set_option maxHeartbeats 2000000 in
theorem walk (E : EdD) (m : MsD) (v u : Value) (w : World) (hV : VS w) (hr : RdEd w v E.p) (hF : E.Fit) (ht : E.t.size ≤ 1048576) (hp : E.p.length ≤ 524288) (hS : ∀ e ∈ E.p, ∀ o ∈ e.d, o.Sm) (hl : ∀ e ∈ E.p, e.d.length ≤ 1048576) (hd : RdD w u m.d) (hdl : m.d.length ≤ 1048576) (hdi : ∀ o ∈ m.d, o.Sm) :
    Calls Tryd.prog 5 #[.agg (E.fs v), .agg (m.fs u)] w fun e w' => e = .returned (.bool true) ∧ Below w.heap.size w w' := by
  have hx := (eb_new w E v).below (alloc_b _ (.cells (m.fs u) 38))
  have hy := mb_new (w.alloc (.cells (E.fs v) 26)) m u
  have hA := chain (alloc_b w (.cells (E.fs v) 26)) (alloc_b _ (.cells (m.fs u) 38))
  rw [World.size_alloc] at hy
  have c1 := fun W (h : Below w.heap.size w W) => rcopy_any E v W (hr.below h) (by omega) hl
  have c2 := fun W v' (h : Below w.heap.size w W) (h' : RdEd W v' E.p) => next_all E m v' u W h' (hd.below h) (hV.below h) hF (by unfold maxLen; omega) (fun o ho => sm_in (hdi o ho))
  have c3 := fun W (h : Below w.heap.size w W) => rnext_all E m v u W (hr.below h) (hd.below h) hF ht hS (by unfold maxLen; omega) hdi hl
  have hfit := nxt_fit (m := m) hF (fun o ho => sm_in (hdi o ho))
  have c4 := fun W v1 v2 (h1 : RdEd W v1 (nxtE E m).1.p) (h2 : RdEd W v2 (nxtE E m).1.p) => rsame20_true (nxtE E m).1 v1 v2 W h1 h2 (by have := hfit.1; omega) (fun e he => by have := hfit.2 e he; unfold maxLen; omega)
  have c5 := fun W v1 (h1 : RdEd W v1 E.p) (h : Below w.heap.size w W) => rsame20_true E v1 v W h1 (hr.below h) (by omega) (fun e he => (hF.pf e he).dl)
  have cL := fun W h => live20_any W (hV.below h)
  obtain ⟨av, kv, rfl⟩ := rded_len hr
  obtain ⟨au, ku, rfl⟩ := rdd_len hd
  generalize nxtE E m = R at *
  simp only [EdD.fs, MsD.fs] at c1 c2 c3 c4 c5 hx hy hA ⊢
  clear hV hr hF hS hd hdi hl
  go_enter Tryd.func5, Tryd.ntmps5
  go_wp2_with fail
  refine (c1 _ hA).mono ?_
  rintro e w1 ⟨v1, us1, rfl, ho1, hb1⟩
  obtain ⟨a1, k1, rfl⟩ := own_form ho1.row
  have hn1 := eb_new w1 E (.slice a1 E.p.length k1)
  have hal1 := alloc_b w1 (.cells #[.int .i64 E.c, .int .i64 E.b, .int .i64 E.r, .string E.t, .int .i64 E.s, .slice a1 E.p.length k1] 26)
  have hx1 := (hx.below hb1).below hal1
  have hy1 := (hy.below hb1).below hal1
  have r1 := ho1.rd.below hal1
  have hB1 := chain hA (chain hb1 hal1)
  clear c1 ho1 hx hy hA hb1 hal1
  obtain ⟨z0, z1, z2, z3, z4, z5, z6⟩ := cellsMB hy1
  go_wp2_with fail
  clear z0 z1 z2 z3 z4 z5 z6
  generalize hw5 : w1.alloc (.cells #[.int .i64 E.c, .int .i64 E.b, .int .i64 E.r, .string E.t, .int .i64 E.s, .slice a1 E.p.length k1] 26) = w5 at *
  clear hw5
  refine (c2 _ _ hB1 r1).mono ?_
  rintro e w2 ⟨v2, us2, rfl, ho2, hb2⟩
  obtain ⟨a2, k2, rfl⟩ := own_form ho2.row
  have hn2 := eb_new w2 R.1 (.slice a2 R.1.p.length k2)
  have hal2 := alloc_b w2 (.cells #[.int .i64 R.1.c, .int .i64 R.1.b, .int .i64 R.1.r, .string R.1.t, .int .i64 R.1.s, .slice a2 R.1.p.length k2] 26)
  have hb52 := chain hb2 hal2
  have hx2 := hx1.below hb52
  have hy2 := hy1.below hb52
  have hB2 := chain hB1 hb52
  have r2 := ho2.rd.below hal2
  have hM2 := (ho2.mut hfit.2).below hal2
  clear c2 ho2 hb2 hal2
  obtain ⟨x0, x1, x2, x3, x4, x5⟩ := cellsEB hx2
  obtain ⟨z0, z1, z2, z3, z4, z5, z6⟩ := cellsMB hy2
  go_wp2_with fail
  clear x0 x1 x2 x3 x4 x5 z0 z1 z2 z3 z4 z5 z6
  refine (c3 _ hB2).mono ?_
  rintro e w3 ⟨v3, rfl, r3, hb3⟩
  obtain ⟨a3, k3, rfl⟩ := rded_len r3
  have hn3 := eb_new w3 R.1 (.slice a3 R.1.p.length k3)
  have hal3 := alloc_b w3 (.cells #[.int .i64 R.1.c, .int .i64 R.1.b, .int .i64 R.1.r, .string R.1.t, .int .i64 R.1.s, .slice a3 R.1.p.length k3] 26)
  have hb23 := chain hb3 hal3
  have hn23 := hn2.below hb23
  have r23 := r2.below hb23
  have r33 := r3.below hal3
  have hM3 := hM2.below hb23
  have hb53 := chain hb52 hb23
  clear c3 hn2 r2 r3 hM2 hb3 hal3 hb23 hb52 hx2 hy2 hB2
  obtain ⟨x0, x1, x2, x3, x4, x5⟩ := cellsEB hn23
  go_wp2_with fail
  clear x0 x1 x2 x3 x4 x5
  refine (c4 _ _ _ r23 r33).mono ?_
  rintro e w4 ⟨rfl, hb4⟩
  have hn24 := hn23.below hb4
  have hM4 := hM3.below hb4
  have hb54 := chain hb53 hb4
  clear c4 hn23 r23 r33 hM3 hb4 hb53 hn3
  have hx4 := hx1.below hb54
  have hm4 := hn1.below hb54
  obtain ⟨x0, x1, x2, x3, x4, x5⟩ := cellsEB hx4
  obtain ⟨y0, y1, y2, y3, y4, y5⟩ := cellsEB hm4
  go_wp2_with fail
  refine (c5 _ _ (r1.below hb54) (chain hB1 hb54)).mono ?_
  rintro e w6 ⟨rfl, hb6⟩
  have hn26 := hn24.below hb6
  have hM6 := hM4.below hb6
  have hb56 := chain hb54 hb6
  clear x0 x1 x2 x3 x4 x5 y0 y1 y2 y3 y4 y5 hn24 hM4 hb54 hb6 hx4 hm4
  obtain ⟨n, hn⟩ : ∃ n, n = R.1.p.length := ⟨_, rfl⟩
  have hn8 := hfit.1
  have hs2 := hn26.lt
  rw [← hn] at hn8 hM6 hn26
  clear hfit
  obtain ⟨x0, x1, x2, x3, x4, x5⟩ := cellsEB hn26
  go_wp2_with fail
  clear x0 x1 x2 x3 x4 x5
  go_loopw [10] (fun i wr => ∃ (k : Nat), k ≤ n ∧ i = .int .i64 (k : Int) ∧ MutE w5.heap.size (.slice a2 n k2) n us2 wr ∧ EB wr w2.heap.size R.1 (.slice a2 n k2) ∧ Below w5.heap.size w5 wr) (fun i _ => n - (Go.RowKit.intOf i).toNat)
  case atStart => exact ⟨0, by omega, rfl, hM6, hn26, hb56⟩
  case round =>
    obtain ⟨k, hk, rfl, hM, hnb, hbl⟩ := hrel
    obtain ⟨x0, x1, x2, x3, x4, x5⟩ := cellsEB hnb
    by_cases hlt : k < n
    · have hlt' : (k : Int) < (n : Int) := by omega
      obtain ⟨gm, cs, cm, u, ev, hu, -, hgB, hgm, y, qy⟩ := hM.at hlt
      simp only [Value.slice.injEq] at ev
      obtain ⟨rfl, -, rfl⟩ := ev
      have qf := frz hgm (k * 2)
      have hMq := hM.setQ (i := k) (x := .int .i64 (-1)) hgm
      have hnq := eb_setX hnb hgm (k * 2) (.int .i64 (-1))
      have hbq := hbl.setCell (p := ⟨gm, k * 2, none⟩) (by simp only; exact hgB) (.int .i64 (-1))
      obtain ⟨ad, nd, cd, rfl, hnd, -⟩ := hM.dl k u hu
      go_wp2_with fail
      clear x0 x1 x2 x3 x4 x5
      go_loopw [11] (fun i wr2 => ∃ (j : Nat), j ≤ nd ∧ i = .int .i64 (j : Int) ∧ MutE w5.heap.size (.slice (some ⟨gm, 0, none⟩) n k2) n us2 wr2 ∧ EB wr2 w2.heap.size R.1 (.slice (some ⟨gm, 0, none⟩) n k2) ∧ Below w5.heap.size w5 wr2) (fun i _ => nd - (Go.RowKit.intOf i).toNat)
      case atStart => exact ⟨0, by omega, rfl, hMq, hnq, hbq⟩
      case round =>
        obtain ⟨j, hj, rfl, hM2, hnb2, hbl2⟩ := hrel
        obtain ⟨x0, x1, x2, x3, x4, x5⟩ := cellsEB hnb2
        obtain ⟨gm', cs', cm', u', ev, hu', c6, -⟩ := hM2.at hlt
        simp only [Value.slice.injEq, Option.some.injEq, Addr.mk.injEq, and_true] at ev
        obtain ⟨rfl, -⟩ := ev
        rw [hu] at hu'
        cases hu'
        by_cases hjt : j < nd
        · have hjt' : (j : Int) < (nd : Int) := by omega
          obtain ⟨ad', n', cd', e', -, hd⟩ := hM2.dl k _ hu
          simp only [Value.slice.injEq] at e'
          obtain ⟨rfl, rfl, rfl⟩ := e'
          obtain ⟨gd, cs, rfl, hgdB, hgd, hcs⟩ := hd.resolve_left (by omega)
          have q := cell_of_row _ gd (j * 3) _ _ (0, 0) hgd
          rw [Array.getElem?_eq_getElem (by omega)] at q
          have qf := frz hgd (j * 3)
          have hnb3 := heap_setT (j := j * 3) (x := .int .i64 9) hnb2 hgd (fun c e => by cases e)
          generalize cs[j * 3] = old at *
          go_wp2_with fail
          exact ⟨⟨j + 1, by omega, by go_num, hM2.set hgd, hnb3, hbl2.setCell (by simp only; exact hgdB) _⟩, by simp [Go.RowKit.intOf]; omega⟩
        · have hjt' : ¬ (j : Int) < (nd : Int) := by omega
          go_wp2_with fail
          exact ⟨⟨k + 1, by omega, by go_num, hM2, hnb2, hbl2⟩, by simp [Go.RowKit.intOf]; omega⟩
    · have hlt' : ¬ (k : Int) < (n : Int) := by omega
      have hB := chain hB1 hbl
      have hxr := hx1.below hbl
      have hnr := hn1.below hbl
      obtain ⟨s0, s1, s2, s3, s4, s5⟩ := cellsEB hxr
      obtain ⟨y0, y1, y2, y3, y4, y5⟩ := cellsEB hnr
      go_wp2_with fail
      refine (c5 _ _ (r1.below hbl) hB).mono ?_
      rintro e w8 ⟨rfl, hb8⟩
      clear x0 x1 x2 x3 x4 x5 y0 y1 y2 y3 y4 y5 s0 s1 s2 s3 s4 s5
      go_wp2_with fail
      refine (cL _ (chain hB hb8)).mono ?_
      rintro e w9 ⟨rfl, hb9⟩
      go_wp2_with fail
      go_ret
      exact ⟨rfl, chain hB (chain hb8 hb9)⟩

theorem own : ownKnob Tryd.prog.godebug = none := by kernel_rfl
theorem laidOut : laidOutB Tryd.prog = true := by kernel_rfl

set_option maxRecDepth 20000 in
theorem contract (H : Type) (enc : TypeId × Value → H) (W : World) (base : Nat) (args : Array Value) (ds gs : List (DataW H)) (before : List MemPlace)
    (hval : ∀ (j : Nat) t v, Tryd.f5.params[j]? = some t → args[j]? = some v → Value.okWide Tryd.prog W .any base t v)
    (hW : DataW.Whole enc Tryd.prog Tryd.f5.params.toList Rows.clientNextSpec.vars false W args.toList ds gs before) (hk : Rows.uptoSmall H (ds ++ gs) = true) (hL : laidMetH Tryd.prog Rows.clientNextUptoRow.laid W) :
    Calls Tryd.prog 5 args W fun e W' => ∃ v, e = .returned v ∧ Rows.clientNextSpec.post enc Tryd.prog Tryd.f5 false true false false W args v W' := by
  have hW' := hW
  obtain ⟨p, q, hA0, hV, rfl, hfz, hnd⟩ := hW
  have hA : DataW.TrodAll enc Tryd.prog W 0 (fun _ => true) true Tryd.f5.params.toList args.toList ds p := hA0
  rw [Tryd.params5] at hA hval
  obtain ⟨v0, vs0, d0, ds0, p0, q0, hargs, rfl, rfl, h0, r0⟩ := trodAll_cons hA
  obtain ⟨v1, vs1, d1, ds1, p1, q1, rfl, rfl, rfl, h1, r1⟩ := trodAll_cons r0
  obtain ⟨rfl, rfl, rfl⟩ := trodAll_nil r1
  obtain rfl : args = #[v0, v1] := by cases args; simp_all
  obtain ⟨rfl, rfl⟩ := trodVars_none hV
  have k0 := h0
  have lt0 : ∀ x ∈ p0, x.block < W.heap.size := by obtain ⟨m, hm⟩ := k0; exact DataW.trod_lt m _ _ _ hm
  have k1 := h1
  have lt1 : ∀ x ∈ p1, x.block < W.heap.size := by obtain ⟨m, hm⟩ := k1; exact DataW.trod_lt m _ _ _ hm
  have b1 : Rows.uptoBulk d1 ≤ 1048576 := up_mem hk (by simp)
  obtain ⟨fuel0, hf0⟩ := h0
  have bb0 : Rows.uptoBulk d0 ≤ 1048576 := up_mem hk (by simp)
  obtain ⟨E0, u0, hc0, rE0, fE0, tE0, pE0, sE0, lE0⟩ := open_edr hf0 bb0
  obtain rfl := agg_val hc0
  obtain ⟨fuel1, hf1⟩ := h1
  obtain ⟨m1, u1, hc1, rd1, ln1, ok1⟩ := open_msu hf1 b1
  obtain rfl := agg_val hc1
  clear hA0
  simp only [List.append_nil] at hW'
  refine (walk E0 m1 u0 u1 W (vs_of (tabs_of hL)) rE0 fE0 tE0 pE0 sE0 lE0 rd1 ln1 ok1).mono fun e W' ⟨he, bel⟩ => ?_
  subst he
  exact ⟨_, rfl, _, _, _, [], _, [], hW', trodAll_mk1 (shut_bool Tryd.underlying4 _), (trodAll_cons_mk (Below.trod laidOut (by kernel_rfl) (of_decide_eq_true (by kernel_rfl)) k0 bel lt0) (trodAll_cons_mk (Below.trod laidOut (by kernel_rfl) (of_decide_eq_true (by kernel_rfl)) k1 bel lt1) trodAll_mk0)), rfl, bel.frame _, fun h => by cases h⟩

set_option maxRecDepth 100000 in
theorem laid_met (os : Os) : laidMet Tryd.prog Rows.clientNextUptoRow.laid ((laidWorld os).forCall (fun _ _ => 0) ⟨#[], #[.agg #[.int .i64 0, .int .i64 0, .int .i64 0, .string ⟨#[]⟩, .int .i64 0, .slice none 0 0], .agg #[.int .i64 0, .int .i64 0, .int .i64 0, .int .i64 0, .int .i64 0, .int .i64 0, .slice none 0 0]], []⟩).memory :=
  (LaidIn.of_run (l := Rows.clientNextUptoRow.laid) [1, 0] 8 (by kernel_rfl) (by kernel_rfl) (by kernel_rfl) (by kernel_rfl)).met
theorem reads (os : Os) {H : Type} (enc : TypeId × Value → H) : ∃ places, DataW.whole enc Tryd.prog ((laidWorld os).forCall (fun _ _ => 0) ⟨#[], #[.agg #[.int .i64 0, .int .i64 0, .int .i64 0, .string ⟨#[]⟩, .int .i64 0, .slice none 0 0], .agg #[.int .i64 0, .int .i64 0, .int .i64 0, .int .i64 0, .int .i64 0, .int .i64 0, .slice none 0 0]], []⟩).memory Tryd.f5.params.toList Rows.clientNextSpec.vars false (#[.agg #[.int .i64 0, .int .i64 0, .int .i64 0, .string ⟨#[]⟩, .int .i64 0, .slice none 0 0], .agg #[.int .i64 0, .int .i64 0, .int .i64 0, .int .i64 0, .int .i64 0, .int .i64 0, .slice none 0 0]] : Array Value).toList 8 = some ([.agg [.lit (.int .i64 0), .lit (.int .i64 0), .lit (.int .i64 0), .lit (.string []), .lit (.int .i64 0), .nil], .agg [.lit (.int .i64 0), .lit (.int .i64 0), .lit (.int .i64 0), .lit (.int .i64 0), .lit (.int .i64 0), .lit (.int .i64 0), .nil]], [], places) :=
  ⟨[], by kernel_rfl⟩
set_option maxRecDepth 100000 in
theorem lifted (os : Os) (started : os.Started) (H : Type) (enc : TypeId × Value → H) (F : Stop.Interp) :
    ReturnsInHanded {} Tryd.checked os 5 .any ((Rows.OpenSpec.upto Rows.clientNextSpec).preRow enc Tryd.prog Tryd.f5 Rows.clientNextUptoRow.domain false Rows.clientNextUptoRow.laid) (((Rows.OpenSpec.upto Rows.clientNextSpec).at F).post enc Tryd.prog Tryd.f5 false true false false) := by
  obtain ⟨places, hx⟩ := reads os enc
  refine returnsInHanded_of_row (C := Tryd.checked) (s := Rows.OpenSpec.upto Rows.clientNextSpec) own started (by kernel_rfl) Tryd.func5
    (witness_row_atRef (enc := enc) (C := Tryd.checked) false (laidWorld os) #[.agg #[.int .i64 0, .int .i64 0, .int .i64 0, .string ⟨#[]⟩, .int .i64 0, .slice none 0 0], .agg #[.int .i64 0, .int .i64 0, .int .i64 0, .int .i64 0, .int .i64 0, .int .i64 0, .slice none 0 0]] rfl (by kernel_rfl) (by kernel_rfl) (by kernel_rfl)
      (OpenSpec.preRow_of_cond 8 hx (by kernel_rfl) (fun k hk => by cases hk; kernel_rfl) (by kernel_rfl) (laid_met os))) ?_
  intro W base args ds gs before hval hW _ hcond _ hL _ _
  exact contract H enc W base args ds gs before hval hW (hcond _ rfl) hL

theorem holds : Rows.ClientNextUptoSaid :=
  OpenClaim.holds_of_cond 5 Tryd.f5 rfl rfl rfl rfl rfl rfl rfl ⟨rfl, rfl, rfl, rfl, rfl⟩ rfl rfl rfl rfl rfl (by kernel_rfl) Tryd.func5 (by kernel_rfl)
    (of_decide_eq_true (by kernel_rfl)) (by unfold Func.isWrapper; first | (rw [if_pos (by decide +kernel)]; kernel_rfl) | (rw [if_neg (by decide +kernel)]; exact ⟨rfl, rfl⟩))
    (fun os started H enc _ F => by rw [OpenClaim.pre_eq_preRow]; exact lifted os started H enc F)
theorem plain (f : FuncId) (fn : Func) (hf : Tryd.pinned.checked.prog.funcNamed "oxbow/oxbowlaw20.ClientNext" = some f) (hfn : Tryd.pinned.checked.prog.funcs[f]? = some fn) :
    true = Tryd.pinned.checked.prog.looks [] ∧ ∀ (j : Nat) t, fn.params[j]? = some t → Tryd.pinned.checked.prog.wantsStandIn t = false := by
  obtain rfl : f = 5 := Option.some.inj ((show Tryd.prog.funcNamed "oxbow/oxbowlaw20.ClientNext" = some 5 by kernel_rfl).symm.trans hf) |>.symm
  obtain rfl : fn = Tryd.f5 := (Option.some.inj (Tryd.func5.symm.trans hfn)).symm
  refine ⟨by kernel_rfl, fun j t ht => ?_⟩
  rw [Tryd.params5] at ht
  have hm := Array.mem_of_getElem? ht
  have h2 : t = 26 ∨ t = 38 := by simpa using hm
  rcases h2 with rfl | rfl
  · exact (show Tryd.prog.wantsStandIn 26 = false by kernel_rfl)
  · exact (show Tryd.prog.wantsStandIn 38 = false by kernel_rfl)
theorem card : Rows.ClientNextUptoCardSaid :=
  Claim7.holds_tied_plain_at .later [] _ _ _ _ holds (fun _ h => by cases h) (by kernel_rfl) (fun _ h => by cases h) clientNextUpto_row_tie rfl ⟨rfl, rfl⟩ (by kernel_rfl) rfl plain (by kernel_rfl)
end Go.Proofs.YtcdnlkhjlgaaoaaDoor.clientNext
namespace Go.Proofs.YtcdnlkhjlgaaoaaDoor
theorem clientNext_holds : Rows.ClientNextUptoCardSaid := clientNext.card
#print axioms clientNext_holds
end Go.Proofs.YtcdnlkhjlgaaoaaDoor
