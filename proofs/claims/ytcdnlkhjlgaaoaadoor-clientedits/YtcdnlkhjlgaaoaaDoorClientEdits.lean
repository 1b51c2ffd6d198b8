/-
  Proved: any edit of any editor is the reference's, and the editor that is handed in is as it was (the law ClientEdits), where what comes in is of bulk at most 1048576.
-/
import Derived.Test.YtcdnlkhjlgaaoaaDoorCmF
import Derived.Test.YtcdnlkhjlgaaoaaDoorCnA
namespace Go.Proofs.YtcdnlkhjlgaaoaaDoor.clientEdits
open Go.RowKit Go.ChangeShapes Go.WideShapes Go.ChangeAt Go.PlainAid

theorem edt_fit {E : EdD} {d : List OpD} (hi : ∀ o ∈ d, o.In) (hF : E.Fit) (hp : E.p.length ≤ 524288) : (edtE E d).1.p.length ≤ 1000000 ∧ ∀ e ∈ (edtE E d).1.p, e.d.length ≤ maxLen := by
  have z : (zeroE : EdD).p.length ≤ 1000000 ∧ ∀ e ∈ (zeroE : EdD).p, e.d.length ≤ maxLen := ⟨by decide, fun e he => by cases he⟩
  unfold edtE
  split
  · exact z
  · split
    · exact z
    · split
      · exact z
      · split
        · exact z
        · split
          · exact z
          · rename_i h1 h2 h3 h4 h5
            have hm : mayE E = true := by simpa using h1
            have hf := fit_ed ((may_iff E).1 hm) hF hi (Classical.not_not.1 h2) (Classical.not_not.1 h3) h4
            refine ⟨?_, fun e he => (hf.pf e he).dl⟩
            show (E.p.map EdW.cp ++ [EdW.cp ⟨E.s + 1, d⟩]).length ≤ _
            simp
            omega
set_option maxRecDepth 20000 in
set_option maxHeartbeats 2000000 in
theorem walk (E : EdD) (v u : Value) (d : List OpD) (w : World) (hV : VS w) (hr : RdEd w v E.p) (hF : E.Fit) (ht : E.t.size ≤ 1048576) (hp : E.p.length ≤ 524288) (hS : ∀ e ∈ E.p, ∀ o ∈ e.d, o.Sm) (hl : ∀ e ∈ E.p, e.d.length ≤ 1048576) (hd : RdD w u d) (hdl : d.length ≤ 1048576) (hdi : ∀ o ∈ d, o.Sm) :
    Calls Tryd.prog 4 #[.agg (E.fs v), u] w fun e w' => e = .returned (.bool true) ∧ Below w.heap.size w w' := by
  have hdm : ∀ e ∈ E.p, e.d.length ≤ 1048576 := hl
  have hx := eb_new w E v
  have hA := alloc_b w (.cells (E.fs v) 26)
  have c1 := fun W (h : Below w.heap.size w W) => rcopy_any E v W (hr.below h) (by omega) hdm
  have c2 := fun W v' (h : Below w.heap.size w W) (h' : RdEd W v' E.p) => edit_all E d v' u W h' (hd.below h) (hV.below h) hF (by unfold maxLen; omega) (fun o ho => sm_in (hdi o ho))
  have c3 := fun W (h : Below w.heap.size w W) => redit_all E d v u W (hr.below h) (hd.below h) hF ht hS (by unfold maxLen; omega) hdi
  have hfit := edt_fit (d := d) (fun o ho => sm_in (hdi o ho)) hF hp
  have c4 := fun W v1 v2 (h1 : RdEd W v1 (edtE E d).1.p) (h2 : RdEd W v2 (edtE E d).1.p) => rsame20_true (edtE E d).1 v1 v2 W h1 h2 hfit.1 hfit.2
  have c5 := fun W v1 (h1 : RdEd W v1 E.p) (h : Below w.heap.size w W) => rsame20_true E v1 v W h1 (hr.below h) (by omega) (fun e he => (hF.pf e he).dl)
  have cL := fun W h => live20_any W (hV.below h)
  obtain ⟨av, kv, rfl⟩ := rded_len hr
  obtain ⟨au, ku, rfl⟩ := rdd_len hd
  generalize edtE E d = R at *
  simp only [EdD.fs] at c1 c2 c3 c4 c5 hx hA ⊢
  clear hV hr hF hS hd hdi hdm hfit hl
  go_enter Tryd.func4, Tryd.ntmps4
  go_wp2_with fail
  refine (c1 _ hA).mono ?_
  rintro e w1 ⟨v1, us1, rfl, ho1, hb1⟩
  obtain ⟨a1, k1, rfl⟩ := own_form ho1.row
  have hn1 := eb_new w1 E (.slice a1 E.p.length k1)
  have hal1 := alloc_b w1 (.cells #[.int .i64 E.c, .int .i64 E.b, .int .i64 E.r, .string E.t, .int .i64 E.s, .slice a1 E.p.length k1] 26)
  have hx1 := (hx.below hb1).below hal1
  have r1 := ho1.rd.below hal1
  have hB1 := chain hA (chain hb1 hal1)
  clear c1 ho1 hx hA hb1 hal1
  go_wp2_with fail
  refine (c2 _ _ hB1 r1).mono ?_
  rintro e w2 ⟨v2, us2, rfl, ho2, hb2⟩
  obtain ⟨a2, k2, rfl⟩ := own_form ho2.row
  have hn2 := eb_new w2 R.1 (.slice a2 R.1.p.length k2)
  have hal2 := alloc_b w2 (.cells #[.int .i64 R.1.c, .int .i64 R.1.b, .int .i64 R.1.r, .string R.1.t, .int .i64 R.1.s, .slice a2 R.1.p.length k2] 26)
  have hx2 := (hx1.below hb2).below hal2
  have hm2 := (hn1.below hb2).below hal2
  have r12 := (r1.below hb2).below hal2
  have r2 := ho2.rd.below hal2
  have hB2 := chain hB1 (chain hb2 hal2)
  clear c2 ho2 hx1 hn1 r1 hB1 hb2 hal2
  obtain ⟨x0, x1, x2, x3, x4, x5⟩ := cellsEB hx2
  go_wp2_with fail
  clear x0 x1 x2 x3 x4 x5
  refine (c3 _ hB2).mono ?_
  rintro e w3 ⟨v3, us3, rfl, ho3, hb3⟩
  obtain ⟨a3, k3, rfl⟩ := own_form ho3.row
  have hn3 := eb_new w3 R.1 (.slice a3 R.1.p.length k3)
  have hal3 := alloc_b w3 (.cells #[.int .i64 R.1.c, .int .i64 R.1.b, .int .i64 R.1.r, .string R.1.t, .int .i64 R.1.s, .slice a3 R.1.p.length k3] 26)
  have hx3 := (hx2.below hb3).below hal3
  have hm3 := (hm2.below hb3).below hal3
  have hn23 := (hn2.below hb3).below hal3
  have r13 := (r12.below hb3).below hal3
  have r23 := (r2.below hb3).below hal3
  have r3 := ho3.rd.below hal3
  have hB3 := chain hB2 (chain hb3 hal3)
  clear c3 ho3 hx2 hm2 hn2 r12 r2 hB2 hb3 hal3
  obtain ⟨x0, x1, x2, x3, x4, x5⟩ := cellsEB hn23
  go_wp2_with fail
  clear x0 x1 x2 x3 x4 x5
  refine (c4 _ _ _ r23 r3).mono ?_
  rintro e w4 ⟨rfl, hb4⟩
  have hx4 := hx3.below hb4
  have hm4 := hm3.below hb4
  have r14 := r13.below hb4
  have hB4 := chain hB3 hb4
  clear c4 hx3 hm3 hn23 r13 r23 r3 hB3 hb4 hn3
  obtain ⟨x0, x1, x2, x3, x4, x5⟩ := cellsEB hx4
  obtain ⟨y0, y1, y2, y3, y4, y5⟩ := cellsEB hm4
  go_wp2_with fail
  refine (c5 _ _ r14 hB4).mono ?_
  rintro e w5 ⟨rfl, hb5⟩
  have hB5 := chain hB4 hb5
  clear x0 x1 x2 x3 x4 x5 y0 y1 y2 y3 y4 y5
  go_wp2_with fail
  refine (cL _ hB5).mono ?_
  rintro e w6 ⟨rfl, hb6⟩
  go_wp2_with fail
  go_ret
  exact ⟨rfl, chain hB5 hb6⟩

theorem own : ownKnob Tryd.prog.godebug = none := by kernel_rfl
theorem laidOut : laidOutB Tryd.prog = true := by kernel_rfl

set_option maxRecDepth 20000 in
theorem contract (H : Type) (enc : TypeId × Value → H) (W : World) (base : Nat) (args : Array Value) (ds gs : List (DataW H)) (before : List MemPlace)
    (hval : ∀ (j : Nat) t v, Tryd.f4.params[j]? = some t → args[j]? = some v → Value.okWide Tryd.prog W .any base t v)
    (hW : DataW.Whole enc Tryd.prog Tryd.f4.params.toList Rows.clientEditsSpec.vars false W args.toList ds gs before) (hk : Rows.uptoSmall H (ds ++ gs) = true) (hL : laidMetH Tryd.prog Rows.clientEditsUptoRow.laid W) :
    Calls Tryd.prog 4 args W fun e W' => ∃ v, e = .returned v ∧ Rows.clientEditsSpec.post enc Tryd.prog Tryd.f4 false true false false W args v W' := by
  have hW' := hW
  obtain ⟨p, q, hA0, hV, rfl, hfz, hnd⟩ := hW
  have hA : DataW.TrodAll enc Tryd.prog W 0 (fun _ => true) true Tryd.f4.params.toList args.toList ds p := hA0
  rw [Tryd.params4] at hA hval
  obtain ⟨v0, vs0, d0, ds0, p0, q0, hargs, rfl, rfl, h0, r0⟩ := trodAll_cons hA
  obtain ⟨v1, vs1, d1, ds1, p1, q1, rfl, rfl, rfl, h1, r1⟩ := trodAll_cons r0
  obtain ⟨rfl, rfl, rfl⟩ := trodAll_nil r1
  obtain rfl : args = #[v0, v1] := by cases args; simp_all
  obtain ⟨rfl, rfl⟩ := trodVars_none hV
  have k0 := h0
  have lt0 : ∀ x ∈ p0, x.block < W.heap.size := by obtain ⟨m, hm⟩ := k0; exact DataW.trod_lt m _ _ _ hm
  have k1 := h1
  have lt1 : ∀ x ∈ p1, x.block < W.heap.size := by obtain ⟨m, hm⟩ := k1; exact DataW.trod_lt m _ _ _ hm
  have b1 : Rows.uptoBulk d1 ≤ 1048576 := up_mem hk (by simp)
  obtain ⟨fuel0, hf0⟩ := h0
  have bb0 : Rows.uptoBulk d0 ≤ 1048576 := up_mem hk (by simp)
  obtain ⟨E0, u0, hc0, rE0, fE0, tE0, pE0, sE0, lE0⟩ := open_edr hf0 bb0
  obtain rfl := agg_val hc0
  obtain ⟨a1, len1, cap1, rfl⟩ := okWide_slice Tryd.underlying33 (hval 1 33 v1 rfl rfl)
  obtain ⟨fuel1, hf1⟩ := h1
  obtain ⟨l1, rd1, ln1, ok1⟩ := open_dlu hf1 b1
  clear hA0
  simp only [List.append_nil] at hW'
  refine (walk E0 u0 (.slice a1 len1 cap1) l1 W (vs_of (tabs_of hL)) rE0 fE0 tE0 pE0 sE0 lE0 rd1 ln1 ok1).mono fun e W' ⟨he, bel⟩ => ?_
  subst he
  exact ⟨_, rfl, _, _, _, [], _, [], hW', trodAll_mk1 (shut_bool Tryd.underlying4 _), (trodAll_cons_mk (Below.trod laidOut (by kernel_rfl) (of_decide_eq_true (by kernel_rfl)) k0 bel lt0) (trodAll_cons_mk (Below.trod laidOut (by kernel_rfl) (of_decide_eq_true (by kernel_rfl)) k1 bel lt1) trodAll_mk0)), rfl, bel.frame _, fun h => by cases h⟩

set_option maxRecDepth 100000 in
theorem laid_met (os : Os) : laidMet Tryd.prog Rows.clientEditsUptoRow.laid ((laidWorld os).forCall (fun _ _ => 0) ⟨#[], #[.agg #[.int .i64 0, .int .i64 0, .int .i64 0, .string ⟨#[]⟩, .int .i64 0, .slice none 0 0], .slice none 0 0], []⟩).memory :=
  (LaidIn.of_run (l := Rows.clientEditsUptoRow.laid) [1, 0] 8 (by kernel_rfl) (by kernel_rfl) (by kernel_rfl) (by kernel_rfl)).met
theorem reads (os : Os) {H : Type} (enc : TypeId × Value → H) : ∃ places, DataW.whole enc Tryd.prog ((laidWorld os).forCall (fun _ _ => 0) ⟨#[], #[.agg #[.int .i64 0, .int .i64 0, .int .i64 0, .string ⟨#[]⟩, .int .i64 0, .slice none 0 0], .slice none 0 0], []⟩).memory Tryd.f4.params.toList Rows.clientEditsSpec.vars false (#[.agg #[.int .i64 0, .int .i64 0, .int .i64 0, .string ⟨#[]⟩, .int .i64 0, .slice none 0 0], .slice none 0 0] : Array Value).toList 8 = some ([.agg [.lit (.int .i64 0), .lit (.int .i64 0), .lit (.int .i64 0), .lit (.string []), .lit (.int .i64 0), .nil], .nil], [], places) :=
  ⟨[], by kernel_rfl⟩
set_option maxRecDepth 100000 in
theorem lifted (os : Os) (started : os.Started) (H : Type) (enc : TypeId × Value → H) (F : Stop.Interp) :
    ReturnsInHanded {} Tryd.checked os 4 .any ((Rows.OpenSpec.upto Rows.clientEditsSpec).preRow enc Tryd.prog Tryd.f4 Rows.clientEditsUptoRow.domain false Rows.clientEditsUptoRow.laid) (((Rows.OpenSpec.upto Rows.clientEditsSpec).at F).post enc Tryd.prog Tryd.f4 false true false false) := by
  obtain ⟨places, hx⟩ := reads os enc
  refine returnsInHanded_of_row (C := Tryd.checked) (s := Rows.OpenSpec.upto Rows.clientEditsSpec) own started (by kernel_rfl) Tryd.func4
    (witness_row_atRef (enc := enc) (C := Tryd.checked) false (laidWorld os) #[.agg #[.int .i64 0, .int .i64 0, .int .i64 0, .string ⟨#[]⟩, .int .i64 0, .slice none 0 0], .slice none 0 0] rfl (by kernel_rfl) (by kernel_rfl) (by kernel_rfl)
      (OpenSpec.preRow_of_cond 8 hx (by kernel_rfl) (fun k hk => by cases hk; kernel_rfl) (by kernel_rfl) (laid_met os))) ?_
  intro W base args ds gs before hval hW _ hcond _ hL _ _
  exact contract H enc W base args ds gs before hval hW (hcond _ rfl) hL

theorem holds : Rows.ClientEditsUptoSaid :=
  OpenClaim.holds_of_cond 4 Tryd.f4 rfl rfl rfl rfl rfl rfl rfl ⟨rfl, rfl, rfl, rfl, rfl⟩ rfl rfl rfl rfl rfl (by kernel_rfl) Tryd.func4 (by kernel_rfl)
    (of_decide_eq_true (by kernel_rfl)) (by unfold Func.isWrapper; first | (rw [if_pos (by decide +kernel)]; kernel_rfl) | (rw [if_neg (by decide +kernel)]; exact ⟨rfl, rfl⟩))
    (fun os started H enc _ F => by rw [OpenClaim.pre_eq_preRow]; exact lifted os started H enc F)
theorem plain (f : FuncId) (fn : Func) (hf : Tryd.pinned.checked.prog.funcNamed "oxbow/oxbowlaw20.ClientEdits" = some f) (hfn : Tryd.pinned.checked.prog.funcs[f]? = some fn) :
    true = Tryd.pinned.checked.prog.looks [] ∧ ∀ (j : Nat) t, fn.params[j]? = some t → Tryd.pinned.checked.prog.wantsStandIn t = false := by
  obtain rfl : f = 4 := Option.some.inj ((show Tryd.prog.funcNamed "oxbow/oxbowlaw20.ClientEdits" = some 4 by kernel_rfl).symm.trans hf) |>.symm
  obtain rfl : fn = Tryd.f4 := (Option.some.inj (Tryd.func4.symm.trans hfn)).symm
  refine ⟨by kernel_rfl, fun j t ht => ?_⟩
  rw [Tryd.params4] at ht
  have hm := Array.mem_of_getElem? ht
  have h2 : t = 26 ∨ t = 33 := by simpa using hm
  rcases h2 with rfl | rfl
  · exact (show Tryd.prog.wantsStandIn 26 = false by kernel_rfl)
  · exact (show Tryd.prog.wantsStandIn 33 = false by kernel_rfl)
theorem card : Rows.ClientEditsUptoCardSaid :=
  Claim7.holds_tied_plain_at .later [] _ _ _ _ holds (fun _ h => by cases h) (by kernel_rfl) (fun _ h => by cases h) clientEditsUpto_row_tie rfl ⟨rfl, rfl⟩ (by kernel_rfl) rfl plain (by kernel_rfl)
end Go.Proofs.YtcdnlkhjlgaaoaaDoor.clientEdits
namespace Go.Proofs.YtcdnlkhjlgaaoaaDoor
theorem clientEdits_holds : Rows.ClientEditsUptoCardSaid := clientEdits.card
#print axioms clientEdits_holds
end Go.Proofs.YtcdnlkhjlgaaoaaDoor
