/-
  Proved: the deltas from both sides lead to the merged document's text (the law MergeLeads), for every input.
-/
import Derived.Test.YtffbkgmagjkogaaDoorMgUMgW
import Derived.Test.YtffbkgmagjkogaaDoorDpH
import Derived.ChangeOld
namespace Go.Proofs.YtffbkgmagjkogaaDoor.mergeLeads
open Go.RowKit Go.ChangeShapes Go.WideShapes Go.ChangeAt Go.PlainAid

set_option maxRecDepth 20000 in
set_option maxHeartbeats 3200000 in
theorem walk (vA vB vC : Value) (A B C : List RunD) (nx ny : Int) (w : World) (hV : VS w) (rA : RdN w vA A) (mA : A.length ≤ 4398046511104) (oA : ∀ r ∈ A, r.Bd ∧ r.In) (rB : RdN w vB B) (mB : B.length ≤ 4398046511104) (oB : ∀ r ∈ B, r.Bd ∧ r.In) (rC : RdN w vC C) (mC : C.length ≤ 4398046511104) (oC : ∀ r ∈ C, r.Bd ∧ r.In) :
    Calls Tryd.prog 8 #[.agg #[vA, vB, vC, .int .i64 nx, .int .i64 ny]] w fun e w' => e = .returned (.bool true) ∧ Below w.heap.size w w' := by
  have q0 : Below w.heap.size w (w.alloc (.cells #[vA, vB, vC, .int .i64 nx, .int .i64 ny] 24)) := (Below.refl _ w).alloc (Nat.le_refl _) _
  have b0 : CB (w.alloc (.cells #[vA, vB, vC, .int .i64 nx, .int .i64 ny] 24)) w.heap.size vA vB vC nx ny := heap_alloc_new w _
  have h1 : ∀ l ∈ [A, B, C], l.length ≤ 1125899906842624 ∧ ∀ r ∈ l, r.In := by
    intro l hl
    simp only [List.mem_cons, List.not_mem_nil, or_false] at hl
    rcases hl with rfl | rfl | rfl
    · exact ⟨by omega, fun r hr => (oA r hr).2⟩
    · exact ⟨by omega, fun r hr => (oB r hr).2⟩
    · exact ⟨by omega, fun r hr => (oC r hr).2⟩
  have c1 := docs_any vA vB vC A B C nx ny _ (hV.below q0) (rA.below q0) (rB.below q0) (rC.below q0) h1
  have cL := fun W h => live14_any W (hV.below h)
  by_cases hE : mdE A B C nx ny = 0
  · obtain ⟨-, gB, gC, gM, hM⟩ := md_facts hE
    obtain ⟨x1, x2, x3, x4⟩ := leads gB gM (by rw [hM.fx]; exact List.filter_sublist)
    obtain ⟨y1, y2, y3, y4⟩ := leads gC gM (by rw [hM.fy]; exact List.filter_sublist)
    have bB := gB.bound
    have bC := gC.bound
    have bM := gM.bound
    have iM : ∀ r ∈ mdL A B C nx ny, r.In := fun r hr => by have h1 := txB_mem hr; unfold RunD.In; omega
    have cD1 := fun u W (hW : Below w.heap.size w W) (hu : RdN W u (mdL A B C nx ny)) => mdelta_any vB u B _ W (hV.below hW) (rB.below hW) hu (fun l hl => by
      simp only [List.mem_cons, List.not_mem_nil, or_false] at hl
      rcases hl with rfl | rfl
      · exact ⟨by omega, fun r hr => (oB r hr).2⟩
      · exact ⟨by omega, iM⟩)
    have cD2 := fun u W (hW : Below w.heap.size w W) (hu : RdN W u (mdL A B C nx ny)) => mdelta_any vC u C _ W (hV.below hW) (rC.below hW) hu (fun l hl => by
      simp only [List.mem_cons, List.not_mem_nil, or_false] at hl
      rcases hl with rfl | rfl
      · exact ⟨by omega, fun r hr => (oC r hr).2⟩
      · exact ⟨by omega, iM⟩)
    have cT1 := fun W (hW : Below w.heap.size w W) => docText_any vB B W (rB.below hW) (by omega) (by omega)
    have cT2 := fun W (hW : Below w.heap.size w W) => docText_any vC C W (rC.below hW) (by omega) (by omega)
    have cT3 := fun u W (hu : RdN W u (mdL A B C nx ny)) => docText_any u _ W hu (by omega) (by omega)
    have cP1 := fun u W (hu : RdD W u (ddL B (mdL A B C nx ny))) => apply_any (mk (txB B)) u _ W (by rw [mk_size]; unfold maxLen; omega) hu (by unfold maxLen; omega) x2
    have cP2 := fun u W (hu : RdD W u (ddL C (mdL A B C nx ny))) => apply_any (mk (txB C)) u _ W (by rw [mk_size]; unfold maxLen; omega) hu (by unfold maxLen; omega) y2
    rw [x4] at cP1
    rw [y4] at cP2
    rw [x1] at cD1
    rw [y1] at cD2
    rw [hE] at c1
    obtain ⟨a1, k1, e1, -⟩ := id rA
    subst e1
    obtain ⟨a2, k2, e2, -⟩ := id rB
    subst e2
    obtain ⟨a3, k3, e3, -⟩ := id rC
    subst e3
    clear rA rB rC h1 oA oB oC gB gC gM hM hE x1 x2 x3 x4 y1 y2 y3 y4 bB bC bM iM
    generalize mdL A B C nx ny = L at *
    generalize ddL B L = D1 at *
    generalize ddL C L = D2 at *
    generalize mk (txB L) = T at *
    generalize mk (txB B) = T1 at *
    generalize mk (txB C) = T2 at *
    go_enter Tryd.func8, Tryd.ntmps8
    go_wp2_with fail
    refine c1.mono ?_
    rintro e w1 ⟨u1, rfl, ho1, q1⟩
    have hB := chain q0 q1
    have b1 := b0.below q1
    have r1 := rdn_own ho1
    obtain ⟨p1, s1, rfl⟩ := own_form ho1
    obtain ⟨-, d1, -, -, -⟩ := b1.cells
    clear c1 ho1 q0 b0 q1
    go_wp2_with fail
    refine (cD1 _ _ hB r1).mono ?_
    rintro e w2 ⟨u2, rfl, ho2, q2⟩
    replace hB := chain hB q2
    replace b1 := b1.below q2
    replace r1 := r1.below q2
    have r2 := rdd_own ho2
    obtain ⟨p2, s2, rfl⟩ := own_form ho2
    clear ho2 q2 d1 cD1
    obtain ⟨-, -, d2, -, -⟩ := b1.cells
    go_wp2_with fail
    refine (cD2 _ _ hB r1).mono ?_
    rintro e w3 ⟨u3, rfl, ho3, q3⟩
    replace hB := chain hB q3
    replace b1 := b1.below q3
    replace r1 := r1.below q3
    replace r2 := r2.below q3
    have r3 := rdd_own ho3
    obtain ⟨p3, s3, rfl⟩ := own_form ho3
    clear ho3 q3 d2 cD2
    obtain ⟨-, d1, -, -, -⟩ := b1.cells
    go_wp2_with fail
    refine (cT1 _ hB).mono ?_
    rintro e w4 ⟨rfl, q4⟩
    replace hB := chain hB q4
    replace b1 := b1.below q4
    replace r1 := r1.below q4
    replace r2 := r2.below q4
    replace r3 := r3.below q4
    clear q4 d1 cT1
    go_wp2_with fail
    refine (cP1 _ _ r2).mono ?_
    rintro e w5 ⟨rfl, q5⟩
    replace hB := chain hB q5
    replace b1 := b1.below q5
    replace r1 := r1.below q5
    replace r3 := r3.below q5
    clear q5 cP1 r2
    obtain ⟨-, -, d2, -, -⟩ := b1.cells
    go_wp2_with fail
    refine (cT2 _ hB).mono ?_
    rintro e w6 ⟨rfl, q6⟩
    replace hB := chain hB q6
    replace r1 := r1.below q6
    replace r3 := r3.below q6
    clear q6 d2 cT2 b1
    go_wp2_with fail
    refine (cP2 _ _ r3).mono ?_
    rintro e w7 ⟨rfl, q7⟩
    replace hB := chain hB q7
    replace r1 := r1.below q7
    clear q7 cP2 r3
    go_wp2_with fail
    refine (cT3 _ _ r1).mono ?_
    rintro e w8 ⟨rfl, q8⟩
    replace hB := chain hB q8
    clear q8 cT3 r1
    go_wp2_with fail
    refine (cL _ hB).mono ?_
    rintro e w9 ⟨rfl, q9⟩
    go_wp2_with fail
    go_ret
    exact ⟨rfl, chain hB q9⟩
  · rw [mdL_no hE] at c1
    have hE' : (mdE A B C nx ny != 0) = true := by simpa using hE
    obtain ⟨a1, k1, e1, -⟩ := id rA
    subst e1
    obtain ⟨a2, k2, e2, -⟩ := id rB
    subst e2
    obtain ⟨a3, k3, e3, -⟩ := id rC
    subst e3
    clear rA rB rC h1 oA oB oC hE
    generalize mdE A B C nx ny = E at *
    go_enter Tryd.func8, Tryd.ntmps8
    go_wp2_with fail
    refine c1.mono ?_
    rintro e w1 ⟨u1, rfl, ho1, q1⟩
    have hB := chain q0 q1
    obtain ⟨p1, s1, rfl⟩ := own_form ho1
    clear c1 ho1 q0 b0 q1
    go_wp2_with fail
    refine (cL _ hB).mono ?_
    rintro e w2 ⟨rfl, q2⟩
    go_wp2_with fail
    go_ret
    exact ⟨rfl, chain hB q2⟩

theorem own : ownKnob Tryd.prog.godebug = none := by kernel_rfl
theorem laidOut : laidOutB Tryd.prog = true := by kernel_rfl

set_option maxRecDepth 20000 in
theorem contract (H : Type) (enc : TypeId × Value → H) (W : World) (base : Nat) (args : Array Value) (ds gs : List (DataW H)) (before : List MemPlace)
    (hval : ∀ (j : Nat) t v, Tryd.f8.params[j]? = some t → args[j]? = some v → Value.okWide Tryd.prog W .any base t v)
    (hW : DataW.Whole enc Tryd.prog Tryd.f8.params.toList Rows.mergeLeadsSpec.vars false W args.toList ds gs before) (hsz0 : (DataW.weightsEach Tryd.prog (Tryd.f8.params.toList ++ Rows.mergeLeadsSpec.plain.varTypes Tryd.prog) (ds ++ gs)).all (· ≤ reachBytes) = true) (hL : laidMetH Tryd.prog Rows.mergeLeadsRow.laid W) :
    Calls Tryd.prog 8 args W fun e W' => ∃ v, e = .returned v ∧ Rows.mergeLeadsSpec.post enc Tryd.prog Tryd.f8 false true false false W args v W' := by
  have hW' := hW
  obtain ⟨p, q, hA0, hV, rfl, hfz, hnd⟩ := hW
  have hA : DataW.TrodAll enc Tryd.prog W 0 (fun _ => true) true Tryd.f8.params.toList args.toList ds p := hA0
  rw [Tryd.params8] at hA hval hsz0
  obtain ⟨v0, vs0, d0, ds0, p0, q0, hargs, rfl, rfl, h0, r0⟩ := trodAll_cons hA
  obtain ⟨rfl, rfl, rfl⟩ := trodAll_nil r0
  obtain rfl : args = #[v0] := by cases args; simp_all
  obtain ⟨rfl, rfl⟩ := trodVars_none hV
  have k0 := h0
  have lt0 : ∀ x ∈ p0, x.block < W.heap.size := by obtain ⟨m, hm⟩ := k0; exact DataW.trod_lt m _ _ _ hm
  obtain ⟨fuel0, hf0⟩ := h0
  have z0 : ∀ n ∈ d0.weights Tryd.prog 24, n ≤ reachBytes := fun n hn => by simpa using List.all_eq_true.1 hsz0 n (DataW.weights_mem_each (j := 0) (t := 24) (d := d0) rfl rfl n hn)
  obtain ⟨vA, vB, vC, nx, ny, A, B, C, hc0, rA, mA, oA, rB, mB, oB, rC, mC, oC⟩ := open_case hf0 z0
  obtain rfl := case_val hc0
  clear hA0
  simp only [List.append_nil] at hW'
  refine (walk vA vB vC A B C nx ny W (vs_of (tabs_of hL)) rA mA oA rB mB oB rC mC oC).mono fun e W' ⟨he, bel⟩ => ?_
  subst he
  exact ⟨_, rfl, _, _, _, [], _, [], hW', trodAll_mk1 (shut_bool Tryd.underlying4 _), (trodAll_cons_mk (Below.trod laidOut (by kernel_rfl) (of_decide_eq_true (by kernel_rfl)) k0 bel lt0) trodAll_mk0), rfl, bel.frame _, fun h => by cases h⟩

set_option maxRecDepth 100000 in
theorem laid_met (os : Os) : laidMet Tryd.prog Rows.mergeLeadsRow.laid ((laidWorld os).forCall (fun _ _ => 0) ⟨#[], #[.agg #[.slice none 0 0, .slice none 0 0, .slice none 0 0, .int .i64 0, .int .i64 0]], []⟩).memory :=
  (LaidIn.of_run (l := Rows.mergeLeadsRow.laid) [2, 1] 8 (by kernel_rfl) (by kernel_rfl) (by kernel_rfl) (by kernel_rfl)).met
theorem reads (os : Os) {H : Type} (enc : TypeId × Value → H) : ∃ places, DataW.whole enc Tryd.prog ((laidWorld os).forCall (fun _ _ => 0) ⟨#[], #[.agg #[.slice none 0 0, .slice none 0 0, .slice none 0 0, .int .i64 0, .int .i64 0]], []⟩).memory Tryd.f8.params.toList Rows.mergeLeadsSpec.vars false (#[.agg #[.slice none 0 0, .slice none 0 0, .slice none 0 0, .int .i64 0, .int .i64 0]] : Array Value).toList 8 = some ([.agg [.nil, .nil, .nil, .lit (.int .i64 0), .lit (.int .i64 0)]], [], places) :=
  ⟨[], by kernel_rfl⟩
set_option maxRecDepth 100000 in
theorem lifted (os : Os) (started : os.Started) (H : Type) (enc : TypeId × Value → H) (F : Stop.Interp) :
    ReturnsInHanded {} Tryd.checked os 8 .any ((OpenSpec.ofChange Rows.mergeLeadsSpec).preRow enc Tryd.prog Tryd.f8 Rows.mergeLeadsRow.domain false Rows.mergeLeadsRow.laid) (((OpenSpec.ofChange Rows.mergeLeadsSpec).at F).post enc Tryd.prog Tryd.f8 false true false false) := by
  obtain ⟨places, hx⟩ := reads os enc
  refine returnsInHanded_of_row (C := Tryd.checked) (s := OpenSpec.ofChange Rows.mergeLeadsSpec) own started (by kernel_rfl) Tryd.func8
    (witness_row_atRef (enc := enc) (C := Tryd.checked) false (laidWorld os) #[.agg #[.slice none 0 0, .slice none 0 0, .slice none 0 0, .int .i64 0, .int .i64 0]] rfl (by kernel_rfl) (by kernel_rfl) (by kernel_rfl)
      (OpenSpec.preRow_of_cond 8 hx (by kernel_rfl) (fun k hk => by cases hk) (by kernel_rfl) (laid_met os))) ?_
  intro W base args ds gs before hval hW _ _ hsz hL _ _
  exact contract H enc W base args ds gs before hval hW hsz hL

theorem holds : Rows.MergeLeadsSaid :=
  OpenClaim.holds_of_cond 8 Tryd.f8 rfl rfl rfl rfl rfl rfl rfl ⟨rfl, rfl, rfl, rfl, rfl⟩ rfl rfl rfl rfl rfl (by kernel_rfl) Tryd.func8 (by kernel_rfl)
    (of_decide_eq_true (by kernel_rfl)) (by unfold Func.isWrapper; first | (rw [if_pos (by decide +kernel)]; kernel_rfl) | (rw [if_neg (by decide +kernel)]; exact ⟨rfl, rfl⟩))
    (fun os started H enc _ F => by rw [OpenClaim.pre_eq_preRow]; exact lifted os started H enc F)
theorem plain (f : FuncId) (fn : Func) (hf : Tryd.pinned.checked.prog.funcNamed "oxbow/oxbowlaw14.MergeLeads" = some f) (hfn : Tryd.pinned.checked.prog.funcs[f]? = some fn) :
    true = Tryd.pinned.checked.prog.looks [] ∧ ∀ (j : Nat) t, fn.params[j]? = some t → Tryd.pinned.checked.prog.wantsStandIn t = false := by
  obtain rfl : f = 8 := Option.some.inj ((show Tryd.prog.funcNamed "oxbow/oxbowlaw14.MergeLeads" = some 8 by kernel_rfl).symm.trans hf) |>.symm
  obtain rfl : fn = Tryd.f8 := (Option.some.inj (Tryd.func8.symm.trans hfn)).symm
  refine ⟨by kernel_rfl, fun j t ht => ?_⟩
  rw [Tryd.params8] at ht
  have hm := Array.mem_of_getElem? ht
  obtain rfl : t = 24 := by simpa using hm
  exact (show Tryd.prog.wantsStandIn 24 = false by kernel_rfl)
theorem card : Rows.MergeLeadsCardSaid :=
  Claim7.holds_tied_plain_at .later [] _ _ _ _ holds (fun _ h => by cases h) (by kernel_rfl) (fun _ h => by cases h) mergeLeads_row_tie rfl ⟨rfl, rfl⟩ (by kernel_rfl) rfl plain (by kernel_rfl)
end Go.Proofs.YtffbkgmagjkogaaDoor.mergeLeads
namespace Go.Proofs.YtffbkgmagjkogaaDoor
theorem mergeLeads_holds : Rows.MergeLeadsCardSaid := mergeLeads.card
#print axioms mergeLeads_holds
end Go.Proofs.YtffbkgmagjkogaaDoor
