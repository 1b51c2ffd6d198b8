/-
  Proved: the beginning of any editor is the reference's (the law ClientBegins), where what comes in is of bulk at most 1048576.
-/
import Derived.Test.YtcdnlkhjlgaaoaaDoorCnA
namespace Go.Proofs.YtcdnlkhjlgaaoaaDoor.clientBegins
open Go.RowKit Go.ChangeShapes Go.WideShapes Go.ChangeAt Go.PlainAid

set_option maxRecDepth 20000 in
theorem open_start {H : Type} {enc : TypeId × Value → H} {w : World} {spare : Nat → Bool} {held : Bool} {n : Nat} {cs : List Value} {x : DataW H × List MemPlace} (h : DataW.trod enc Tryd.prog w 0 spare held n 23 cs = some x) (hz : Rows.uptoBulk x.1 ≤ 1048576) :
    ∃ (c b r : Int) (t : ByteArray), cs = [.int .i64 c, .int .i64 b, .int .i64 r, .string t] ∧ t.size ≤ 1048576 := by
  obtain ⟨xs, m, _, hx, hl, _, hf⟩ := DataW.trod_struct Tryd.underlying23 h
  have h4 : Tryd.prog.cellsOf 23 = 4 := by kernel_rfl
  have c3 : Tryd.prog.cellsOf 3 = 1 := by kernel_rfl
  have c9 : Tryd.prog.cellsOf 9 = 1 := by kernel_rfl
  rw [h4] at hl
  have hxl : xs.length = 4 := by assumption
  match xs, hxl, cs, hl with
  | [y0, y1, y2, y3], _, [v0, v1, v2, v3], _ =>
    have g0 := hf 0 _ rfl
    have g1 := hf 1 _ rfl
    have g2 := hf 2 _ rfl
    have g3 := hf 3 _ rfl
    simp [c3, c9] at g0 g1 g2 g3
    obtain ⟨a0, e0, -, -⟩ := DataW.trod_int Tryd.underlying3 g0
    obtain ⟨a1, e1, -, -⟩ := DataW.trod_int Tryd.underlying3 g1
    obtain ⟨a2, e2, -, -⟩ := DataW.trod_int Tryd.underlying3 g2
    obtain ⟨a3, e3, f3, -⟩ := DataW.trod_string Tryd.underlying9 g3
    simp at e0 e1 e2 e3
    refine ⟨a0, a1, a2, a3, by rw [e0, e1, e2, e3], ?_⟩
    rw [hx] at hz
    simp only [List.map, Rows.uptoBulk, Rows.uptoBulkAll] at hz
    rw [f3] at hz
    simp only [Rows.uptoBulk] at hz
    rw [← data_len]
    omega

set_option maxRecDepth 20000 in
set_option maxHeartbeats 1600000 in
theorem walk (c b r : Int) (t : ByteArray) (w : World) (hV : VS w) (ht : t.size ≤ 1048576) :
    Calls Tryd.prog 3 #[.agg #[.int .i64 c, .int .i64 b, .int .i64 r, .string t]] w fun e w' => e = .returned (.bool true) ∧ Below w.heap.size w w' := by
  have hA := alloc_b w (.cells #[.int .i64 c, .int .i64 b, .int .i64 r, .string t] 23)
  have c1 := fun W (h : Below w.heap.size w W) => begin_any c b r t W (hV.below h) (by omega)
  have c2 := fun W => rbegin_any c b r t W ht
  have hp := beg_p c b r t
  have c3 := fun W => rsame20_true (begE c b r t).1 (.slice none 0 0) (.slice none 0 0) W (by rw [hp]; exact RdEd.nil W) (by rw [hp]; exact RdEd.nil W) (by rw [hp]; simp) (by rw [hp]; simp)
  have cL := fun W h => live20_any W (hV.below h)
  have hn := heap_alloc_new w (.cells #[.int .i64 c, .int .i64 b, .int .i64 r, .string t] 23)
  have q := fun j => cell_of_row _ w.heap.size j _ _ (0, 0) hn
  have q0 := q 0
  have q1 := q 1
  have q2 := q 2
  have q3 := q 3
  simp only [List.getElem?_toArray, List.getElem?_cons_zero, List.getElem?_cons_succ] at q0 q1 q2 q3
  generalize begE c b r t = R at *
  unfold EdD.fs at c1 c2 c3
  clear q hn hp
  go_enter Tryd.func3, Tryd.ntmps3
  go_wp2_with fail
  go_quiet (fail)
  go_wp2_with fail
  have hB1 := chain hA (below_drewC _ nq)
  refine (c1 _ hB1).mono ?_
  rintro e w1 ⟨rfl, hb1⟩
  have hE1 := eb_new w1 R.1 (.slice none 0 0)
  have hB2 := chain hB1 (chain hb1 (alloc_b w1 (.cells (R.1.fs (.slice none 0 0)) 26)))
  clear q0 q1 q2 q3
  go_wp2_with fail
  refine (c2 _).mono ?_
  rintro e w2 ⟨rfl, hb2⟩
  have hE2 := (hE1.below hb2).below (alloc_b w2 (.cells (R.1.fs (.slice none 0 0)) 26))
  have hF2 := eb_new w2 R.1 (.slice none 0 0)
  have hB3 := chain hB2 (chain hb2 (alloc_b w2 (.cells (R.1.fs (.slice none 0 0)) 26)))
  obtain ⟨x0, x1, x2, x3, x4, x5⟩ := cellsEB hE2
  simp only [EdD.fs] at x0 x1 x2 x3 x4 x5
  go_wp2_with fail
  refine (c3 _).mono ?_
  rintro e w3 ⟨rfl, hb3⟩
  go_wp2_with fail
  refine (cL _ (chain hB3 hb3)).mono ?_
  rintro e w4 ⟨rfl, hb4⟩
  go_wp2_with fail
  go_ret
  exact ⟨rfl, chain hB3 (chain hb3 hb4)⟩

theorem own : ownKnob Tryd.prog.godebug = none := by kernel_rfl
theorem laidOut : laidOutB Tryd.prog = true := by kernel_rfl

set_option maxRecDepth 20000 in
theorem contract (H : Type) (enc : TypeId × Value → H) (W : World) (base : Nat) (args : Array Value) (ds gs : List (DataW H)) (before : List MemPlace)
    (hval : ∀ (j : Nat) t v, Tryd.f3.params[j]? = some t → args[j]? = some v → Value.okWide Tryd.prog W .any base t v)
    (hW : DataW.Whole enc Tryd.prog Tryd.f3.params.toList Rows.clientBeginsSpec.vars false W args.toList ds gs before) (hk : Rows.uptoSmall H (ds ++ gs) = true) (hL : laidMetH Tryd.prog Rows.clientBeginsUptoRow.laid W) :
    Calls Tryd.prog 3 args W fun e W' => ∃ v, e = .returned v ∧ Rows.clientBeginsSpec.post enc Tryd.prog Tryd.f3 false true false false W args v W' := by
  have hW' := hW
  obtain ⟨p, q, hA0, hV, rfl, hfz, hnd⟩ := hW
  have hA : DataW.TrodAll enc Tryd.prog W 0 (fun _ => true) true Tryd.f3.params.toList args.toList ds p := hA0
  rw [Tryd.params3] at hA hval
  obtain ⟨v0, vs0, d0, ds0, p0, q0, hargs, rfl, rfl, h0, r0⟩ := trodAll_cons hA
  obtain ⟨rfl, rfl, rfl⟩ := trodAll_nil r0
  obtain rfl : args = #[v0] := by cases args; simp_all
  obtain ⟨rfl, rfl⟩ := trodVars_none hV
  have k0 := h0
  have lt0 : ∀ x ∈ p0, x.block < W.heap.size := by obtain ⟨m, hm⟩ := k0; exact DataW.trod_lt m _ _ _ hm
  obtain ⟨fuel0, hf0⟩ := h0
  have b0 : Rows.uptoBulk d0 ≤ 1048576 := up_mem hk (by simp)
  obtain ⟨c0, n0, r0', t0, hc0, bt0⟩ := open_start hf0 b0
  obtain rfl := agg_val hc0
  clear hA0
  simp only [List.append_nil] at hW'
  refine (walk c0 n0 r0' t0 W (vs_of (tabs_of hL)) bt0).mono fun e W' ⟨he, bel⟩ => ?_
  subst he
  exact ⟨_, rfl, _, _, _, [], _, [], hW', trodAll_mk1 (shut_bool Tryd.underlying4 _), (trodAll_cons_mk (Below.trod laidOut (by kernel_rfl) (of_decide_eq_true (by kernel_rfl)) k0 bel lt0) trodAll_mk0), rfl, bel.frame _, fun h => by cases h⟩

set_option maxRecDepth 100000 in
theorem laid_met (os : Os) : laidMet Tryd.prog Rows.clientBeginsUptoRow.laid ((laidWorld os).forCall (fun _ _ => 0) ⟨#[], #[.agg #[.int .i64 0, .int .i64 0, .int .i64 0, .string ⟨#[]⟩]], []⟩).memory :=
  (LaidIn.of_run (l := Rows.clientBeginsUptoRow.laid) [1, 0] 8 (by kernel_rfl) (by kernel_rfl) (by kernel_rfl) (by kernel_rfl)).met
theorem reads (os : Os) {H : Type} (enc : TypeId × Value → H) : ∃ places, DataW.whole enc Tryd.prog ((laidWorld os).forCall (fun _ _ => 0) ⟨#[], #[.agg #[.int .i64 0, .int .i64 0, .int .i64 0, .string ⟨#[]⟩]], []⟩).memory Tryd.f3.params.toList Rows.clientBeginsSpec.vars false (#[.agg #[.int .i64 0, .int .i64 0, .int .i64 0, .string ⟨#[]⟩]] : Array Value).toList 8 = some ([.agg [.lit (.int .i64 0), .lit (.int .i64 0), .lit (.int .i64 0), .lit (.string [])]], [], places) :=
  ⟨[], by kernel_rfl⟩
set_option maxRecDepth 100000 in
theorem lifted (os : Os) (started : os.Started) (H : Type) (enc : TypeId × Value → H) (F : Stop.Interp) :
    ReturnsInHanded {} Tryd.checked os 3 .any ((Rows.OpenSpec.upto Rows.clientBeginsSpec).preRow enc Tryd.prog Tryd.f3 Rows.clientBeginsUptoRow.domain false Rows.clientBeginsUptoRow.laid) (((Rows.OpenSpec.upto Rows.clientBeginsSpec).at F).post enc Tryd.prog Tryd.f3 false true false false) := by
  obtain ⟨places, hx⟩ := reads os enc
  refine returnsInHanded_of_row (C := Tryd.checked) (s := Rows.OpenSpec.upto Rows.clientBeginsSpec) own started (by kernel_rfl) Tryd.func3
    (witness_row_atRef (enc := enc) (C := Tryd.checked) false (laidWorld os) #[.agg #[.int .i64 0, .int .i64 0, .int .i64 0, .string ⟨#[]⟩]] rfl (by kernel_rfl) (by kernel_rfl) (by kernel_rfl)
      (OpenSpec.preRow_of_cond 8 hx (by kernel_rfl) (fun k hk => by cases hk; kernel_rfl) (by kernel_rfl) (laid_met os))) ?_
  intro W base args ds gs before hval hW _ hcond _ hL _ _
  exact contract H enc W base args ds gs before hval hW (hcond _ rfl) hL

theorem holds : Rows.ClientBeginsUptoSaid :=
  OpenClaim.holds_of_cond 3 Tryd.f3 rfl rfl rfl rfl rfl rfl rfl ⟨rfl, rfl, rfl, rfl, rfl⟩ rfl rfl rfl rfl rfl (by kernel_rfl) Tryd.func3 (by kernel_rfl)
    (of_decide_eq_true (by kernel_rfl)) (by unfold Func.isWrapper; first | (rw [if_pos (by decide +kernel)]; kernel_rfl) | (rw [if_neg (by decide +kernel)]; exact ⟨rfl, rfl⟩))
    (fun os started H enc _ F => by rw [OpenClaim.pre_eq_preRow]; exact lifted os started H enc F)
theorem plain (f : FuncId) (fn : Func) (hf : Tryd.pinned.checked.prog.funcNamed "oxbow/oxbowlaw20.ClientBegins" = some f) (hfn : Tryd.pinned.checked.prog.funcs[f]? = some fn) :
    true = Tryd.pinned.checked.prog.looks [] ∧ ∀ (j : Nat) t, fn.params[j]? = some t → Tryd.pinned.checked.prog.wantsStandIn t = false := by
  obtain rfl : f = 3 := Option.some.inj ((show Tryd.prog.funcNamed "oxbow/oxbowlaw20.ClientBegins" = some 3 by kernel_rfl).symm.trans hf) |>.symm
  obtain rfl : fn = Tryd.f3 := (Option.some.inj (Tryd.func3.symm.trans hfn)).symm
  refine ⟨by kernel_rfl, fun j t ht => ?_⟩
  rw [Tryd.params3] at ht
  have hm := Array.mem_of_getElem? ht
  obtain rfl : t = 23 := by simpa using hm
  exact (show Tryd.prog.wantsStandIn 23 = false by kernel_rfl)
theorem card : Rows.ClientBeginsUptoCardSaid :=
  Claim7.holds_tied_plain_at .later [] _ _ _ _ holds (fun _ h => by cases h) (by kernel_rfl) (fun _ h => by cases h) clientBeginsUpto_row_tie rfl ⟨rfl, rfl⟩ (by kernel_rfl) rfl plain (by kernel_rfl)
end Go.Proofs.YtcdnlkhjlgaaoaaDoor.clientBegins
namespace Go.Proofs.YtcdnlkhjlgaaoaaDoor
theorem clientBegins_holds : Rows.ClientBeginsUptoCardSaid := clientBegins.card
#print axioms clientBegins_holds
end Go.Proofs.YtcdnlkhjlgaaoaaDoor
