/-
  Proved: an editor is read again from its bytes, and from no longer ones (the law ClientBack), for every input.
-/
import Derived.Test.YtcdnlkhjlgaaoaaDoorClX
import Derived.Test.YtcdnlkhjlgaaoaaDoorPkRefW
import Derived.ShutString
namespace Go.Proofs.YtcdnlkhjlgaaoaaDoor.clientBack
open Go.RowKit Go.ChangeShapes Go.WideShapes Go.ChangeAt Go.PlainAid
open Go.ChangeMaps (open_string shut_string)

set_option maxRecDepth 20000 in
set_option maxHeartbeats 2000000 in
theorem walk (E : EdD) (v : Value) (more : ByteArray) (w : World) (hV : VS w) (hr : RdEd w v E.p) (hF : E.Fit) (hm : more.size ≤ 140737488355328) :
    Calls Tryd.prog 7 #[.agg (E.fs v), .string more] w fun e w' => e = .returned (.bool true) ∧ Below w.heap.size w w' := by
  have hx := eb_new w E v
  have hA := alloc_b w (.cells (E.fs v) 26)
  have c1 := fun W (h : Below w.heap.size w W) => cencode_any E v W (hr.below h) (hV.below h) hF
  have cL := fun W h => live20_any W (hV.below h)
  rcases enc_cases (E := E) with ⟨hM, hl, he⟩ | ⟨h1, h2⟩
  · have hi : ∀ e ∈ E.p, ∀ o ∈ e.d, o.In := fun e he => (hF.pf e he).di
    have hp8 := ((may_iff E).1 hM).p8
    have c5 := fun W v1 (h1 : RdEd W v1 E.p) (h : Below w.heap.size w W) => rsame20_true E v1 v W h1 (hr.below h) (by omega) (fun e he => (hF.pf e he).dl)
    have hb0 := dec_back hM hi hl []
    rw [List.append_nil, if_pos rfl] at hb0
    have hb1 := dec_back hM hi hl more.data.toList
    have c2 := fun W (h : Below w.heap.size w W) => cdecode_any (mk (frmE E)) W (by rw [mk_size]; unfold maxLen; omega) (hV.below h)
    have c3 := fun W (h : Below w.heap.size w W) => cdecode_any (mk (frmE E ++ more.data.toList)) W (by rw [mk_size, List.length_append, data_len]; unfold maxLen; omega) (hV.below h)
    rw [he] at c1
    rw [hb0] at c2
    rw [hb1] at c3
    have hadd := fun W => pk.add_mk (frmE E) more.data.toList W (by rw [data_len]; omega)
    rw [mk_data] at hadd
    obtain ⟨X, HX⟩ : ∃ X : EdD × Int, Hid ((if more.data.toList = [] then (E, 0) else (zeroE, 200)) = X) := ⟨_, rfl⟩
    rw [HX.out] at c3
    have hmo : (more.toList.isEmpty = true) ∨ (more.toList.isEmpty = false ∧ X.2 = 200) := by
      by_cases hz : more.size = 0
      · exact .inl (empty_tt hz)
      · refine .inr ⟨empty_ff hz, ?_⟩
        rw [← HX.out, if_neg (fun e => hz (by rw [← data_len, e]; rfl))]
    generalize mk (frmE E ++ more.data.toList) = S2 at *
    generalize mk (frmE E) = S1 at *
    obtain ⟨av, kv, rfl⟩ := rded_len hr
    simp only [EdD.fs] at c1 c2 c3 c5 hx hA ⊢
    clear hV hr hF hb0 hb1 he hM hi hl HX hm
    go_enter Tryd.func7, Tryd.ntmps7
    go_wp2_with fail
    refine (c1 _ hA).mono ?_
    rintro e w1 ⟨rfl, hb1⟩
    have hx1 := hx.below hb1
    have hB1 := chain hA hb1
    clear c1 hx hA hb1
    go_wp2_with fail
    refine (c2 _ hB1).mono ?_
    rintro e w2 ⟨v2, us2, rfl, ho2, hb2⟩
    obtain ⟨a2, k2, rfl⟩ := own_form ho2.row
    have hn2 := eb_new w2 E (.slice a2 E.p.length k2)
    have hal2 := alloc_b w2 (.cells #[.int .i64 E.c, .int .i64 E.b, .int .i64 E.r, .string E.t, .int .i64 E.s, .slice a2 E.p.length k2] 26)
    have hx2 := (hx1.below hb2).below hal2
    have r2 := ho2.rd.below hal2
    have hB2 := chain hB1 (chain hb2 hal2)
    clear c2 ho2 hx1 hB1 hb2 hal2
    go_wp2_with fail
    refine (c3 _ hB2).mono ?_
    rintro e w3 ⟨v3, us3, rfl, ho3, hb3⟩
    obtain ⟨a3, k3, rfl⟩ := own_form ho3.row
    have hal3 := alloc_b w3 (.cells #[.int .i64 X.1.c, .int .i64 X.1.b, .int .i64 X.1.r, .string X.1.t, .int .i64 X.1.s, .slice a3 X.1.p.length k3] 26)
    have hb23 := chain hb3 hal3
    have hx3 := hx2.below hb23
    have hn3 := hn2.below hb23
    have r3 := r2.below hb23
    have hB3 := chain hB2 hb23
    clear c3 ho3 hx2 hn2 r2 hB2 hb3 hal3 hb23 hadd
    obtain ⟨x0, x1, x2, x3, x4, x5⟩ := cellsEB hx3
    obtain ⟨y0, y1, y2, y3, y4, y5⟩ := cellsEB hn3
    go_wp2_with fail
    refine (c5 _ _ r3 hB3).mono ?_
    rintro e w4 ⟨rfl, hb4⟩
    have hB4 := chain hB3 hb4
    clear x0 x1 x2 x3 x4 x5 y0 y1 y2 y3 y4 y5 c5 hx3 hn3 r3 hB3 hb4
    rcases hmo with h1 | ⟨h1, h2⟩
    · go_wp2_with fail
      refine (cL _ hB4).mono ?_
      rintro e w5 ⟨rfl, hb5⟩
      go_wp2_with fail
      go_ret
      exact ⟨rfl, chain hB4 hb5⟩
    · go_wp2_with fail
      refine (cL _ hB4).mono ?_
      rintro e w5 ⟨rfl, hb5⟩
      go_wp2_with fail
      go_ret
      exact ⟨rfl, chain hB4 hb5⟩
  · have n1 : ((encE E).2 != 0) = true := bne_iff_ne.2 h1
    rw [h2] at c1
    obtain ⟨av, kv, rfl⟩ := rded_len hr
    generalize (encE E).2 = f at *
    simp only [EdD.fs] at c1 hx hA ⊢
    clear hV hr hF h2
    go_enter Tryd.func7, Tryd.ntmps7
    go_wp2_with fail
    refine (c1 _ hA).mono ?_
    rintro e w1 ⟨rfl, hb1⟩
    have hB1 := chain hA hb1
    clear c1 hx hA hb1
    go_wp2_with fail
    refine (cL _ hB1).mono ?_
    rintro e w5 ⟨rfl, hb5⟩
    go_wp2_with fail
    go_ret
    exact ⟨rfl, chain hB1 hb5⟩

theorem own : ownKnob Tryd.prog.godebug = none := by kernel_rfl
theorem laidOut : laidOutB Tryd.prog = true := by kernel_rfl

set_option maxRecDepth 20000 in
theorem contract (H : Type) (enc : TypeId × Value → H) (W : World) (base : Nat) (args : Array Value) (ds gs : List (DataW H)) (before : List MemPlace)
    (hval : ∀ (j : Nat) t v, Tryd.f7.params[j]? = some t → args[j]? = some v → Value.okWide Tryd.prog W .any base t v)
    (hW : DataW.Whole enc Tryd.prog Tryd.f7.params.toList Rows.clientBackSpec.vars false W args.toList ds gs before) (hsz0 : (DataW.weightsEach Tryd.prog (Tryd.f7.params.toList ++ Rows.clientBackSpec.plain.varTypes Tryd.prog) (ds ++ gs)).all (· ≤ reachBytes) = true) (hL : laidMetH Tryd.prog Rows.clientBackRow.laid W) :
    Calls Tryd.prog 7 args W fun e W' => ∃ v, e = .returned v ∧ Rows.clientBackSpec.post enc Tryd.prog Tryd.f7 false true false false W args v W' := by
  have hW' := hW
  obtain ⟨p, q, hA0, hV, rfl, hfz, hnd⟩ := hW
  have hA : DataW.TrodAll enc Tryd.prog W 0 (fun _ => true) true Tryd.f7.params.toList args.toList ds p := hA0
  rw [Tryd.params7] at hA hval hsz0
  obtain ⟨v0, vs0, d0, ds0, p0, q0, hargs, rfl, rfl, h0, r0⟩ := trodAll_cons hA
  obtain ⟨v1, vs1, d1, ds1, p1, q1, rfl, rfl, rfl, h1, r1⟩ := trodAll_cons r0
  obtain ⟨rfl, rfl, rfl⟩ := trodAll_nil r1
  obtain rfl : args = #[v0, v1] := by cases args; simp_all
  obtain ⟨rfl, rfl⟩ := trodVars_none hV
  have k0 := h0
  have lt0 : ∀ x ∈ p0, x.block < W.heap.size := by obtain ⟨m, hm⟩ := k0; exact DataW.trod_lt m _ _ _ hm
  have k1 := h1
  have lt1 : ∀ x ∈ p1, x.block < W.heap.size := by obtain ⟨m, hm⟩ := k1; exact DataW.trod_lt m _ _ _ hm
  obtain ⟨fuel0, hf0⟩ := h0
  have z0 : ∀ n ∈ d0.weights Tryd.prog 26, n ≤ reachBytes := fun n hn => by simpa using List.all_eq_true.1 hsz0 n (DataW.weights_mem_each (j := 0) (t := 26) (d := d0) rfl rfl n hn)
  obtain ⟨E0, u0, hc0, rE0, fE0⟩ := open_edz hf0 z0
  obtain rfl := agg_val hc0
  obtain ⟨a1, rfl, rfl, rfl, w1⟩ := open_string Tryd.underlying9 (hval 1 9 v1 rfl rfl) h1
  have z1 := sized_string hsz0 (j := 1) (t := 9) rfl rfl
  clear hA0
  simp only [List.append_nil] at hW'
  refine (walk E0 u0 a1 W (vs_of (tabs_of hL)) rE0 fE0 (by have z2 : a1.size ≤ 140737488351232 := (by simpa [reachBytes] using z1); omega)).mono fun e W' ⟨he, bel⟩ => ?_
  subst he
  exact ⟨_, rfl, _, _, _, [], _, [], hW', trodAll_mk1 (shut_bool Tryd.underlying4 _), (trodAll_cons_mk (Below.trod laidOut (by kernel_rfl) (of_decide_eq_true (by kernel_rfl)) k0 bel lt0) (trodAll_cons_mk (Below.trod laidOut (by kernel_rfl) (of_decide_eq_true (by kernel_rfl)) k1 bel lt1) trodAll_mk0)), rfl, bel.frame _, fun h => by cases h⟩

set_option maxRecDepth 100000 in
theorem laid_met (os : Os) : laidMet Tryd.prog Rows.clientBackRow.laid ((laidWorld os).forCall (fun _ _ => 0) ⟨#[], #[.agg #[.int .i64 0, .int .i64 0, .int .i64 0, .string ⟨#[]⟩, .int .i64 0, .slice none 0 0], .string ⟨#[]⟩], []⟩).memory :=
  (LaidIn.of_run (l := Rows.clientBackRow.laid) [1, 0] 8 (by kernel_rfl) (by kernel_rfl) (by kernel_rfl) (by kernel_rfl)).met
theorem reads (os : Os) {H : Type} (enc : TypeId × Value → H) : ∃ places, DataW.whole enc Tryd.prog ((laidWorld os).forCall (fun _ _ => 0) ⟨#[], #[.agg #[.int .i64 0, .int .i64 0, .int .i64 0, .string ⟨#[]⟩, .int .i64 0, .slice none 0 0], .string ⟨#[]⟩], []⟩).memory Tryd.f7.params.toList Rows.clientBackSpec.vars false (#[.agg #[.int .i64 0, .int .i64 0, .int .i64 0, .string ⟨#[]⟩, .int .i64 0, .slice none 0 0], .string ⟨#[]⟩] : Array Value).toList 8 = some ([.agg [.lit (.int .i64 0), .lit (.int .i64 0), .lit (.int .i64 0), .lit (.string []), .lit (.int .i64 0), .nil], .lit (.string [])], [], places) :=
  ⟨[], by kernel_rfl⟩
set_option maxRecDepth 100000 in
theorem lifted (os : Os) (started : os.Started) (H : Type) (enc : TypeId × Value → H) (F : Stop.Interp) :
    ReturnsInHanded {} Tryd.checked os 7 .any ((OpenSpec.ofChange Rows.clientBackSpec).preRow enc Tryd.prog Tryd.f7 Rows.clientBackRow.domain false Rows.clientBackRow.laid) (((OpenSpec.ofChange Rows.clientBackSpec).at F).post enc Tryd.prog Tryd.f7 false true false false) := by
  obtain ⟨places, hx⟩ := reads os enc
  refine returnsInHanded_of_row (C := Tryd.checked) (s := OpenSpec.ofChange Rows.clientBackSpec) own started (by kernel_rfl) Tryd.func7
    (witness_row_atRef (enc := enc) (C := Tryd.checked) false (laidWorld os) #[.agg #[.int .i64 0, .int .i64 0, .int .i64 0, .string ⟨#[]⟩, .int .i64 0, .slice none 0 0], .string ⟨#[]⟩] rfl (by kernel_rfl) (by kernel_rfl) (by kernel_rfl)
      (OpenSpec.preRow_of_cond 8 hx (by kernel_rfl) (fun k hk => by cases hk) (by kernel_rfl) (laid_met os))) ?_
  intro W base args ds gs before hval hW _ _ hsz hL _ _
  exact contract H enc W base args ds gs before hval hW hsz hL

theorem holds : Rows.ClientBackSaid :=
  OpenClaim.holds_of_cond 7 Tryd.f7 rfl rfl rfl rfl rfl rfl rfl ⟨rfl, rfl, rfl, rfl, rfl⟩ rfl rfl rfl rfl rfl (by kernel_rfl) Tryd.func7 (by kernel_rfl)
    (of_decide_eq_true (by kernel_rfl)) (by unfold Func.isWrapper; first | (rw [if_pos (by decide +kernel)]; kernel_rfl) | (rw [if_neg (by decide +kernel)]; exact ⟨rfl, rfl⟩))
    (fun os started H enc _ F => by rw [OpenClaim.pre_eq_preRow]; exact lifted os started H enc F)
theorem plain (f : FuncId) (fn : Func) (hf : Tryd.pinned.checked.prog.funcNamed "oxbow/oxbowlaw20.ClientBack" = some f) (hfn : Tryd.pinned.checked.prog.funcs[f]? = some fn) :
    true = Tryd.pinned.checked.prog.looks [] ∧ ∀ (j : Nat) t, fn.params[j]? = some t → Tryd.pinned.checked.prog.wantsStandIn t = false := by
  obtain rfl : f = 7 := Option.some.inj ((show Tryd.prog.funcNamed "oxbow/oxbowlaw20.ClientBack" = some 7 by kernel_rfl).symm.trans hf) |>.symm
  obtain rfl : fn = Tryd.f7 := (Option.some.inj (Tryd.func7.symm.trans hfn)).symm
  refine ⟨by kernel_rfl, fun j t ht => ?_⟩
  rw [Tryd.params7] at ht
  have hm := Array.mem_of_getElem? ht
  have h2 : t = 26 ∨ t = 9 := by simpa using hm
  rcases h2 with rfl | rfl
  · exact (show Tryd.prog.wantsStandIn 26 = false by kernel_rfl)
  · exact (show Tryd.prog.wantsStandIn 9 = false by kernel_rfl)
theorem card : Rows.ClientBackCardSaid :=
  Claim7.holds_tied_plain_at .later [] _ _ _ _ holds (fun _ h => by cases h) (by kernel_rfl) (fun _ h => by cases h) clientBack_row_tie rfl ⟨rfl, rfl⟩ (by kernel_rfl) rfl plain (by kernel_rfl)
end Go.Proofs.YtcdnlkhjlgaaoaaDoor.clientBack
namespace Go.Proofs.YtcdnlkhjlgaaoaaDoor
theorem clientBack_holds : Rows.ClientBackCardSaid := clientBack.card
#print axioms clientBack_holds
end Go.Proofs.YtcdnlkhjlgaaoaaDoor