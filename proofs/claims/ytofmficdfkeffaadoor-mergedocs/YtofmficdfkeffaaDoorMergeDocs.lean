/-
  Proved: any two documents merged over any third one are the reference's, atom by atom, and stay as they were (the law MergeDocs), where what comes in is of bulk at most 1048576.
-/
import Derived.Test.YtofmficdfkeffaaDoorMhCMhD
import Derived.Test.YtofmficdfkeffaaDoorDpH
import Derived.ChangeOld
namespace Go.Proofs.YtofmficdfkeffaaDoor.mergeDocs
open Go.RowKit Go.ChangeShapes Go.WideShapes Go.ChangeAt Go.PlainAid

theorem open_rnw {H : Type} {enc : TypeId × Value → H} {w : World} {spare : Nat → Bool} {held : Bool} {fuel : Nat} {v : Value} {x : DataW H × List MemPlace}
    (h : DataW.trod enc Tryd.prog w 0 spare held fuel 22 [v] = some x) (hz : Rows.uptoBulk x.1 ≤ 1048576) :
    ∃ l : List RunD, RdN w v l ∧ (l.length ≤ 1048576 ∧ (txB l).length ≤ 1048576) ∧ ∀ r ∈ l, r.Bd := by
  obtain ⟨ao, len, cap, rfl⟩ : ∃ ao len cap, v = .slice ao len cap := by
    rcases Go.Deep.open_slice Tryd.underlying22 h with ⟨hcs, _⟩ | ⟨a, l, c, m, n, D, Pl, hcs, _⟩
    · simp at hcs
      exact ⟨_, _, _, hcs⟩
    · simp at hcs
      exact ⟨_, _, _, hcs⟩
  exact open_rnu (ao := ao) (len := len) (cap := cap) h hz
set_option maxRecDepth 20000 in
theorem open_caseU {H : Type} {enc : TypeId × Value → H} {w : World} {spare : Nat → Bool} {held : Bool} {n : Nat} {cs : List Value} {x : DataW H × List MemPlace} (h : DataW.trod enc Tryd.prog w 0 spare held n 24 cs = some x) (hz : Rows.uptoBulk x.1 ≤ 1048576) :
    ∃ (vA vB vC : Value) (nx ny : Int) (A B C : List RunD), cs = [vA, vB, vC, .int .i64 nx, .int .i64 ny] ∧ RdN w vA A ∧ (A.length ≤ 1048576 ∧ (txB A).length ≤ 1048576) ∧ (∀ r ∈ A, r.Bd) ∧ RdN w vB B ∧ (B.length ≤ 1048576 ∧ (txB B).length ≤ 1048576) ∧ (∀ r ∈ B, r.Bd) ∧ RdN w vC C ∧ (C.length ≤ 1048576 ∧ (txB C).length ≤ 1048576) ∧ (∀ r ∈ C, r.Bd) := by
  obtain ⟨xs, m, _, hx, hl, _, hf⟩ := DataW.trod_struct Tryd.underlying24 h
  have h4 : Tryd.prog.cellsOf 24 = 5 := by kernel_rfl
  have c3 : Tryd.prog.cellsOf 3 = 1 := by kernel_rfl
  have c9 : Tryd.prog.cellsOf 22 = 1 := by kernel_rfl
  rw [h4] at hl
  have hxl : xs.length = 5 := by assumption
  match xs, hxl, cs, hl with
  | [y0, y1, y2, y3, y4], _, [v0, v1, v2, v3, v4], _ =>
    have g0 := hf 0 _ rfl
    have g1 := hf 1 _ rfl
    have g2 := hf 2 _ rfl
    have g3 := hf 3 _ rfl
    have g4 := hf 4 _ rfl
    simp [c3, c9] at g0 g1 g2 g3 g4
    rw [hx] at hz
    simp only [List.map, Rows.uptoBulk, Rows.uptoBulkAll] at hz
    obtain ⟨A, rA, mA, oA⟩ := open_rnw g0 (by omega)
    obtain ⟨B, rB, mB, oB⟩ := open_rnw g1 (by omega)
    obtain ⟨C, rC, mC, oC⟩ := open_rnw g2 (by omega)
    obtain ⟨a3, e3, -, -⟩ := DataW.trod_int Tryd.underlying3 g3
    obtain ⟨a4, e4, -, -⟩ := DataW.trod_int Tryd.underlying3 g4
    simp at e3 e4
    exact ⟨v0, v1, v2, a3, a4, A, B, C, by rw [e3, e4], rA, mA, oA, rB, mB, oB, rC, mC, oC⟩

set_option maxRecDepth 20000 in
set_option maxHeartbeats 1600000 in
theorem walk (vA vB vC : Value) (A B C : List RunD) (nx ny : Int) (w : World) (hV : VS w) (rA : RdN w vA A) (mA : A.length ≤ 1048576 ∧ (txB A).length ≤ 1048576) (oA : ∀ r ∈ A, r.Bd) (rB : RdN w vB B) (mB : B.length ≤ 1048576 ∧ (txB B).length ≤ 1048576) (oB : ∀ r ∈ B, r.Bd) (rC : RdN w vC C) (mC : C.length ≤ 1048576 ∧ (txB C).length ≤ 1048576) (oC : ∀ r ∈ C, r.Bd) :
    Calls Tryd.prog 3 #[.agg #[vA, vB, vC, .int .i64 nx, .int .i64 ny]] w fun e w' => e = .returned (.bool true) ∧ Below w.heap.size w w' := by
  have q0 : Below w.heap.size w (w.alloc (.cells #[vA, vB, vC, .int .i64 nx, .int .i64 ny] 24)) := (Below.refl _ w).alloc (Nat.le_refl _) _
  have b0 : CB (w.alloc (.cells #[vA, vB, vC, .int .i64 nx, .int .i64 ny] 24)) w.heap.size vA vB vC nx ny := heap_alloc_new w _
  have sA : ∀ r ∈ A, r.t.size ≤ 1048576 := fun r h => Nat.le_trans (txB_mem h) mA.2
  have sB : ∀ r ∈ B, r.t.size ≤ 1048576 := fun r h => Nat.le_trans (txB_mem h) mB.2
  have sC : ∀ r ∈ C, r.t.size ≤ 1048576 := fun r h => Nat.le_trans (txB_mem h) mC.2
  have h1 : ∀ l ∈ [A, B, C], l.length ≤ 1125899906842624 ∧ ∀ r ∈ l, r.In := by
    intro l hl
    simp only [List.mem_cons, List.not_mem_nil, or_false] at hl
    rcases hl with rfl | rfl | rfl
    · exact ⟨by omega, fun r hr => by have := sA r hr; show _ ≤ _; omega⟩
    · exact ⟨by omega, fun r hr => by have := sB r hr; show _ ≤ _; omega⟩
    · exact ⟨by omega, fun r hr => by have := sC r hr; show _ ≤ _; omega⟩
  have cA := fun W (h : Below w.heap.size w W) => copied12_any vA A W (rA.below h) (by omega)
  have cB := fun W (h : Below w.heap.size w W) => copied12_any vB B W (rB.below h) (by omega)
  have cC := fun W (h : Below w.heap.size w W) => copied12_any vC C W (rC.below h) (by omega)
  have cD := fun u1 u2 u3 W (hW : Below w.heap.size w W) h2 h3 h4 => docs_any u1 u2 u3 A B C nx ny W (hV.below hW) h2 h3 h4 h1
  have cR := fun W (hW : Below w.heap.size w W) => refDocs_any vA vB vC A B C nx ny W (rA.below hW) (rB.below hW) (rC.below hW) ⟨by omega, by omega, by omega⟩ (fun r h => ⟨oA r h, sA r h⟩) (fun r h => ⟨oB r h, sB r h⟩) (fun r h => ⟨oC r h, sC r h⟩)
  have cL := fun W h => live14_any W (hV.below h)
  have hml := mdL_len A B C nx ny
  have cS := fun u v W (hu : RdN W u (mdL A B C nx ny)) (hv : RdN W v (mdL A B C nx ny)) => docSame_true u v _ W (by omega) hu hv
  have cSA := fun u W (hW : Below w.heap.size w W) (hu : RdN W u A) => docSame_true u vA _ W (by omega) hu (rA.below hW)
  have cSB := fun u W (hW : Below w.heap.size w W) (hu : RdN W u B) => docSame_true u vB _ W (by omega) hu (rB.below hW)
  have cSC := fun u W (hW : Below w.heap.size w W) (hu : RdN W u C) => docSame_true u vC _ W (by omega) hu (rC.below hW)
  obtain ⟨a1, k1, e1, -⟩ := id rA
  subst e1
  obtain ⟨a2, k2, e2, -⟩ := id rB
  subst e2
  obtain ⟨a3, k3, e3, -⟩ := id rC
  subst e3
  clear rA rB rC h1 oA oB oC sA sB sC hml hV
  generalize mdE A B C nx ny = E at *
  generalize mdL A B C nx ny = L at *
  obtain ⟨d0, d1, d2, d3, d4⟩ := b0.cells
  go_enter Tryd.func3, Tryd.ntmps3
  go_wp2_with fail
  refine (cA _ q0).mono ?_
  rintro e w1 ⟨u1, rfl, o1, q1⟩
  have r1 := rdn_own o1
  obtain ⟨p1, s1, rfl⟩ := own_form o1
  have hB := chain q0 q1
  replace b0 := b0.below q1
  clear cA o1 q0 q1 d0 d1 d2 d3 d4
  obtain ⟨d0, d1, d2, d3, d4⟩ := b0.cells
  go_wp2_with fail
  refine (cB _ hB).mono ?_
  rintro e w2 ⟨u2, rfl, o2, q2⟩
  have r2 := rdn_own o2
  obtain ⟨p2, s2, rfl⟩ := own_form o2
  replace r1 := r1.below q2
  replace hB := chain hB q2
  replace b0 := b0.below q2
  clear cB o2 q2 d0 d1 d2 d3 d4
  obtain ⟨d0, d1, d2, d3, d4⟩ := b0.cells
  go_wp2_with fail
  refine (cC _ hB).mono ?_
  rintro e w3 ⟨u3, rfl, o3, q3⟩
  have r3 := rdn_own o3
  obtain ⟨p3, s3, rfl⟩ := own_form o3
  replace r1 := r1.below q3
  replace r2 := r2.below q3
  replace hB := chain hB q3
  replace b0 := b0.below q3
  clear cC o3 q3 d0 d1 d2 d3 d4
  obtain ⟨d0, d1, d2, d3, d4⟩ := b0.cells
  go_wp2_with fail
  refine (cD _ _ _ _ hB r1 r2 r3).mono ?_
  rintro e w4 ⟨u4, rfl, o4, q4⟩
  have r4 := rdn_own o4
  obtain ⟨p4, s4, rfl⟩ := own_form o4
  replace r1 := r1.below q4
  replace r2 := r2.below q4
  replace r3 := r3.below q4
  replace hB := chain hB q4
  replace b0 := b0.below q4
  clear cD o4 q4 d0 d1 d2 d3 d4
  obtain ⟨d0, d1, d2, d3, d4⟩ := b0.cells
  go_wp2_with fail
  refine (cR _ hB).mono ?_
  rintro e w5 ⟨u5, rfl, o5, q5⟩
  have r5 := rdn_own o5
  obtain ⟨p5, s5, rfl⟩ := own_form o5
  replace r1 := r1.below q5
  replace r2 := r2.below q5
  replace r3 := r3.below q5
  replace r4 := r4.below q5
  replace hB := chain hB q5
  replace b0 := b0.below q5
  clear cR o5 q5 d0 d1 d2 d3 d4
  go_wp2_with fail
  refine (cS _ _ _ r4 r5).mono ?_
  rintro e w6 ⟨rfl, q6⟩
  replace r1 := r1.below q6
  replace r2 := r2.below q6
  replace r3 := r3.below q6
  replace hB := chain hB q6
  replace b0 := b0.below q6
  clear cS q6 r4 r5
  obtain ⟨d0, d1, d2, -, -⟩ := b0.cells
  go_wp2_with fail
  refine (cSA _ _ hB r1).mono ?_
  rintro e w7 ⟨rfl, q7⟩
  replace r2 := r2.below q7
  replace r3 := r3.below q7
  replace hB := chain hB q7
  replace b0 := b0.below q7
  clear cSA q7 r1 d0 d1 d2
  obtain ⟨-, d1, d2, -, -⟩ := b0.cells
  go_wp2_with fail
  refine (cSB _ _ hB r2).mono ?_
  rintro e w8 ⟨rfl, q8⟩
  replace r3 := r3.below q8
  replace hB := chain hB q8
  replace b0 := b0.below q8
  clear cSB q8 r2 d1 d2
  obtain ⟨-, -, d2, -, -⟩ := b0.cells
  go_wp2_with fail
  refine (cSC _ _ hB r3).mono ?_
  rintro e w9 ⟨rfl, q9⟩
  replace hB := chain hB q9
  clear cSC q9 r3 d2
  go_wp2_with fail
  refine (cL _ hB).mono ?_
  rintro e w10 ⟨rfl, q10⟩
  go_wp2_with fail
  go_ret
  exact ⟨rfl, chain hB q10⟩

theorem own : ownKnob Tryd.prog.godebug = none := by kernel_rfl
theorem laidOut : laidOutB Tryd.prog = true := by kernel_rfl

set_option maxRecDepth 20000 in
theorem contract (H : Type) (enc : TypeId × Value → H) (W : World) (base : Nat) (args : Array Value) (ds gs : List (DataW H)) (before : List MemPlace)
    (hval : ∀ (j : Nat) t v, Tryd.f3.params[j]? = some t → args[j]? = some v → Value.okWide Tryd.prog W .any base t v)
    (hW : DataW.Whole enc Tryd.prog Tryd.f3.params.toList Rows.mergeDocsSpec.vars false W args.toList ds gs before) (hk : Rows.uptoSmall H (ds ++ gs) = true) (hL : laidMetH Tryd.prog Rows.mergeDocsUptoRow.laid W) :
    Calls Tryd.prog 3 args W fun e W' => ∃ v, e = .returned v ∧ Rows.mergeDocsSpec.post enc Tryd.prog Tryd.f3 false true false false W args v W' := by
  have hW' := hW
  obtain ⟨p, q, hA0, hV, rfl, hfz, hnd⟩ := hW
  have hA : DataW.TrodAll enc Tryd.prog W 0 (fun _ => true) true Tryd.f3.params.toList args.toList ds p := hA0
  rw [Tryd.params3] at hA hval
  obtain ⟨v0, vs0, d0, ds0, p0, q0, hargs, rfl, rfl, h0, r0⟩ := trodAll_cons hA
  obtain ⟨rfl, rfl, rfl⟩ := trodAll_nil r0
  obtain rfl : args = #[v0] := by cases args; simp_all
  obtain ⟨rfl, rfl⟩ := trodVars_none hV
  have k0 := h0
  have lt0 : ∀ x ∈ p0, x.block < W.heap.size := by obtain ⟨m, hm⟩ := k0; exact DataW.trod_lt m _ _ _ hm
  have b0 : Rows.uptoBulk d0 ≤ 1048576 := up_mem hk (by simp)
  obtain ⟨fuel0, hf0⟩ := h0
  obtain ⟨vA, vB, vC, nx, ny, A, B, C, hc0, rA, mA, oA, rB, mB, oB, rC, mC, oC⟩ := open_caseU hf0 b0
  obtain rfl := case_val hc0
  clear hA0
  simp only [List.append_nil] at hW'
  refine (walk vA vB vC A B C nx ny W (vs_of (tabs_of hL)) rA mA oA rB mB oB rC mC oC).mono fun e W' ⟨he, bel⟩ => ?_
  subst he
  exact ⟨_, rfl, _, _, _, [], _, [], hW', trodAll_mk1 (shut_bool Tryd.underlying4 _), (trodAll_cons_mk (Below.trod laidOut (by kernel_rfl) (of_decide_eq_true (by kernel_rfl)) k0 bel lt0) trodAll_mk0), rfl, bel.frame _, fun h => by cases h⟩

set_option maxRecDepth 100000 in
theorem laid_met (os : Os) : laidMet Tryd.prog Rows.mergeDocsUptoRow.laid ((laidWorld os).forCall (fun _ _ => 0) ⟨#[], #[.agg #[.slice none 0 0, .slice none 0 0, .slice none 0 0, .int .i64 0, .int .i64 0]], []⟩).memory :=
  (LaidIn.of_run (l := Rows.mergeDocsUptoRow.laid) [2, 1] 8 (by kernel_rfl) (by kernel_rfl) (by kernel_rfl) (by kernel_rfl)).met
theorem reads (os : Os) {H : Type} (enc : TypeId × Value → H) : ∃ places, DataW.whole enc Tryd.prog ((laidWorld os).forCall (fun _ _ => 0) ⟨#[], #[.agg #[.slice none 0 0, .slice none 0 0, .slice none 0 0, .int .i64 0, .int .i64 0]], []⟩).memory Tryd.f3.params.toList Rows.mergeDocsSpec.vars false (#[.agg #[.slice none 0 0, .slice none 0 0, .slice none 0 0, .int .i64 0, .int .i64 0]] : Array Value).toList 8 = some ([.agg [.nil, .nil, .nil, .lit (.int .i64 0), .lit (.int .i64 0)]], [], places) :=
  ⟨[], by kernel_rfl⟩
set_option maxRecDepth 100000 in
theorem lifted (os : Os) (started : os.Started) (H : Type) (enc : TypeId × Value → H) (F : Stop.Interp) :
    ReturnsInHanded {} Tryd.checked os 3 .any ((Rows.OpenSpec.upto Rows.mergeDocsSpec).preRow enc Tryd.prog Tryd.f3 Rows.mergeDocsUptoRow.domain false Rows.mergeDocsUptoRow.laid) (((Rows.OpenSpec.upto Rows.mergeDocsSpec).at F).post enc Tryd.prog Tryd.f3 false true false false) := by
  obtain ⟨places, hx⟩ := reads os enc
  refine returnsInHanded_of_row (C := Tryd.checked) (s := Rows.OpenSpec.upto Rows.mergeDocsSpec) own started (by kernel_rfl) Tryd.func3
    (witness_row_atRef (enc := enc) (C := Tryd.checked) false (laidWorld os) #[.agg #[.slice none 0 0, .slice none 0 0, .slice none 0 0, .int .i64 0, .int .i64 0]] rfl (by kernel_rfl) (by kernel_rfl) (by kernel_rfl)
      (OpenSpec.preRow_of_cond 8 hx (by kernel_rfl) (fun k hk => by cases hk; kernel_rfl) (by kernel_rfl) (laid_met os))) ?_
  intro W base args ds gs before hval hW _ hcond _ hL _ _
  exact contract H enc W base args ds gs before hval hW (hcond _ rfl) hL

theorem holds : Rows.MergeDocsUptoSaid :=
  OpenClaim.holds_of_cond 3 Tryd.f3 rfl rfl rfl rfl rfl rfl rfl ⟨rfl, rfl, rfl, rfl, rfl⟩ rfl rfl rfl rfl rfl (by kernel_rfl) Tryd.func3 (by kernel_rfl)
    (of_decide_eq_true (by kernel_rfl)) (by unfold Func.isWrapper; first | (rw [if_pos (by decide +kernel)]; kernel_rfl) | (rw [if_neg (by decide +kernel)]; exact ⟨rfl, rfl⟩))
    (fun os started H enc _ F => by rw [OpenClaim.pre_eq_preRow]; exact lifted os started H enc F)
theorem plain (f : FuncId) (fn : Func) (hf : Tryd.pinned.checked.prog.funcNamed "oxbow/oxbowlaw14.MergeDocs" = some f) (hfn : Tryd.pinned.checked.prog.funcs[f]? = some fn) :
    true = Tryd.pinned.checked.prog.looks [] ∧ ∀ (j : Nat) t, fn.params[j]? = some t → Tryd.pinned.checked.prog.wantsStandIn t = false := by
  obtain rfl : f = 3 := Option.some.inj ((show Tryd.prog.funcNamed "oxbow/oxbowlaw14.MergeDocs" = some 3 by kernel_rfl).symm.trans hf) |>.symm
  obtain rfl : fn = Tryd.f3 := (Option.some.inj (Tryd.func3.symm.trans hfn)).symm
  refine ⟨by kernel_rfl, fun j t ht => ?_⟩
  rw [Tryd.params3] at ht
  have hm := Array.mem_of_getElem? ht
  obtain rfl : t = 24 := by simpa using hm
  exact (show Tryd.prog.wantsStandIn 24 = false by kernel_rfl)
theorem card : Rows.MergeDocsUptoCardSaid :=
  Claim7.holds_tied_plain_at .later [] _ _ _ _ holds (fun _ h => by cases h) (by kernel_rfl) (fun _ h => by cases h) mergeDocsUpto_row_tie rfl ⟨rfl, rfl⟩ (by kernel_rfl) rfl plain (by kernel_rfl)
end Go.Proofs.YtofmficdfkeffaaDoor.mergeDocs
namespace Go.Proofs.YtofmficdfkeffaaDoor
theorem mergeDocs_holds : Rows.MergeDocsUptoCardSaid := mergeDocs.card
#print axioms mergeDocs_holds
end Go.Proofs.YtofmficdfkeffaaDoor
