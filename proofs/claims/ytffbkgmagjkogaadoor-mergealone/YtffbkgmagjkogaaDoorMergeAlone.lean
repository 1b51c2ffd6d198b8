/-
  Proved: a document merged with the one it came of is itself (the law MergeAlone), for every input.
-/
import Derived.Test.YtffbkgmagjkogaaDoorMgR
import Derived.Test.YtffbkgmagjkogaaDoorDpH
import Derived.ChangeOld
namespace Go.Proofs.YtffbkgmagjkogaaDoor.mergeAlone
open Go.RowKit Go.ChangeShapes Go.WideShapes Go.ChangeAt Go.PlainAid

set_option maxRecDepth 20000 in
set_option maxHeartbeats 1600000 in
theorem walk (vA vB vC : Value) (A B C : List RunD) (nx ny : Int) (w : World) (hV : VS w) (rA : RdN w vA A) (mA : A.length ≤ 4398046511104) (oA : ∀ r ∈ A, r.Bd ∧ r.In) (rB : RdN w vB B) (mB : B.length ≤ 4398046511104) (oB : ∀ r ∈ B, r.Bd ∧ r.In) (rC : RdN w vC C) (_ : C.length ≤ 4398046511104) (_ : ∀ r ∈ C, r.Bd ∧ r.In) :
    Calls Tryd.prog 6 #[.agg #[vA, vB, vC, .int .i64 nx, .int .i64 ny]] w fun e w' => e = .returned (.bool true) ∧ Below w.heap.size w w' := by
  have q0 : Below w.heap.size w (w.alloc (.cells #[vA, vB, vC, .int .i64 nx, .int .i64 ny] 24)) := (Below.refl _ w).alloc (Nat.le_refl _) _
  have b0 : CB (w.alloc (.cells #[vA, vB, vC, .int .i64 nx, .int .i64 ny] 24)) w.heap.size vA vB vC nx ny := heap_alloc_new w _
  have h1 : ∀ l ∈ [A, B, A], l.length ≤ 1125899906842624 ∧ ∀ r ∈ l, r.In := by
    intro l hl
    simp only [List.mem_cons, List.not_mem_nil, or_false] at hl
    rcases hl with rfl | rfl | rfl
    · exact ⟨by omega, fun r hr => (oA r hr).2⟩
    · exact ⟨by omega, fun r hr => (oB r hr).2⟩
    · exact ⟨by omega, fun r hr => (oA r hr).2⟩
  have h2 : ∀ l ∈ [A, A, B], l.length ≤ 1125899906842624 ∧ ∀ r ∈ l, r.In := by
    intro l hl
    apply h1
    simp only [List.mem_cons, List.not_mem_nil, or_false] at hl ⊢
    rcases hl with h | h | h <;> simp [h]
  have c1 := fun W (hW : Below w.heap.size w W) => docs_any vA vB vA A B A nx ny W (hV.below hW) (rA.below hW) (rB.below hW) (rA.below hW) h1
  have c2 := fun W (hW : Below w.heap.size w W) => docs_any vA vA vB A A B nx ny W (hV.below hW) (rA.below hW) (rA.below hW) (rB.below hW) h2
  have cL := fun W h => live14_any W (hV.below h)
  have hS : mdE A B A nx ny = 0 → mdL A B A nx ny = B ∧ mdL A A B nx ny = B := alone_L
  rw [alone_E A B nx ny] at c2
  have cS := fun u W (hW : Below w.heap.size w W) (hu : RdN W u B) => docSame_true u vB B W (by omega) hu (rB.below hW)
  obtain ⟨a1, k1, e1, -⟩ := id rA
  subst e1
  obtain ⟨a2, k2, e2, -⟩ := id rB
  subst e2
  obtain ⟨a3, k3, e3, -⟩ := id rC
  subst e3
  clear rA rB rC h1 h2 oA oB
  generalize mdE A B A nx ny = E at *
  generalize mdL A B A nx ny = L1 at *
  generalize mdL A A B nx ny = L2 at *
  go_enter Tryd.func6, Tryd.ntmps6
  go_upto_region 1 with fail
  generalize w.alloc (.cells #[.slice a1 A.length k1, .slice a2 B.length k2, .slice a3 C.length k3, .int .i64 nx, .int .i64 ny] 24) = w0 at *
  have d0 : ∀ s : Beh w0, s.it.cell? ⟨w.heap.size, 0, none⟩ = some (.slice a1 A.length k1) := fun s => (b0.below s.h).cells.1
  have d1 : ∀ s : Beh w0, s.it.cell? ⟨w.heap.size, 1, none⟩ = some (.slice a2 B.length k2) := fun s => (b0.below s.h).cells.2.1
  have d3 : ∀ s : Beh w0, s.it.cell? ⟨w.heap.size, 3, none⟩ = some (.int .i64 nx) := fun s => (b0.below s.h).cells.2.2.2.1
  have d4 : ∀ s : Beh w0, s.it.cell? ⟨w.heap.size, 4, none⟩ = some (.int .i64 ny) := fun s => (b0.below s.h).cells.2.2.2.2
  refine wp_region_beh (by kernel_rfl) (by kernel_rfl) ?_
  repeat (go_big_quiet_step (fail))
  refine wpQuiet_nil ?_
  intro wq hw'
  have hwq := Beh.out hw'
  have hB := chain q0 hwq
  clear hw' d0 d1 d3 d4 hwq q0 b0
  go_wp2_with fail
  refine (c1 _ hB).mono ?_
  rintro e w1 ⟨u1, rfl, ho1, q1⟩
  replace hB := chain hB q1
  have r1 := rdn_own ho1
  obtain ⟨p1, s1, rfl⟩ := own_form ho1
  clear c1 ho1 q1
  go_wp2_with fail
  refine (c2 _ hB).mono ?_
  rintro e w2 ⟨u2, rfl, ho2, q2⟩
  replace hB := chain hB q2
  have r2 := rdn_own ho2
  replace r1 := r1.below q2
  obtain ⟨p2, s2, rfl⟩ := own_form ho2
  clear c2 ho2 q2
  by_cases hE : E = 0
  · obtain ⟨h1, h2⟩ := hS hE
    subst hE
    subst h1
    subst h2
    have c3 := cS _ _ hB r1
    have c4 := fun W (hW : Below w2.heap.size w2 W) => cS _ W (chain hB hW) (r2.below hW)
    clear hS r1 r2 cS
    go_wp2_with fail
    refine c3.mono ?_
    rintro e w3 ⟨rfl, q3⟩
    replace hB := chain hB q3
    go_wp2_with fail
    refine (c4 _ q3).mono ?_
    rintro e w4 ⟨rfl, q4⟩
    replace hB := chain hB q4
    go_wp2_with fail
    refine (cL _ hB).mono ?_
    rintro e w5 ⟨rfl, q5⟩
    go_wp2_with fail
    go_ret
    exact ⟨rfl, chain hB q5⟩
  · have hE' : (E != 0) = true := by simpa using hE
    have hEE : (E == E) = true := by simp
    clear hS r1 r2 hE cS
    go_wp2_with fail
    refine (cL _ hB).mono ?_
    rintro e w3 ⟨rfl, q3⟩
    go_wp2_with fail
    go_ret
    exact ⟨rfl, chain hB q3⟩

theorem own : ownKnob Tryd.prog.godebug = none := by kernel_rfl
theorem laidOut : laidOutB Tryd.prog = true := by kernel_rfl

set_option maxRecDepth 20000 in
theorem contract (H : Type) (enc : TypeId × Value → H) (W : World) (base : Nat) (args : Array Value) (ds gs : List (DataW H)) (before : List MemPlace)
    (hval : ∀ (j : Nat) t v, Tryd.f6.params[j]? = some t → args[j]? = some v → Value.okWide Tryd.prog W .any base t v)
    (hW : DataW.Whole enc Tryd.prog Tryd.f6.params.toList Rows.mergeAloneSpec.vars false W args.toList ds gs before) (hsz0 : (DataW.weightsEach Tryd.prog (Tryd.f6.params.toList ++ Rows.mergeAloneSpec.plain.varTypes Tryd.prog) (ds ++ gs)).all (· ≤ reachBytes) = true) (hL : laidMetH Tryd.prog Rows.mergeAloneRow.laid W) :
    Calls Tryd.prog 6 args W fun e W' => ∃ v, e = .returned v ∧ Rows.mergeAloneSpec.post enc Tryd.prog Tryd.f6 false true false false W args v W' := by
  have hW' := hW
  obtain ⟨p, q, hA0, hV, rfl, hfz, hnd⟩ := hW
  have hA : DataW.TrodAll enc Tryd.prog W 0 (fun _ => true) true Tryd.f6.params.toList args.toList ds p := hA0
  rw [Tryd.params6] at hA hval hsz0
  obtain ⟨v0, vs0, d0, ds0, p0, q0, hargs, rfl, rfl, h0, r0⟩ := trodAll_cons hA
  obtain ⟨rfl, rfl, rfl⟩ := trodAll_nil r0
  obtain rfl : args = #[v0] := by cases args; simp_all
  obtain ⟨rfl, rfl⟩ := trodVars_none hV
  have k0 := h0
  have lt0 : ∀ x ∈ p0, x.block < W.heap.size := by obtain ⟨m, hm⟩ := k0; exact DataW.trod_lt m _ _ _ hm
  obtain ⟨fuel0, hf0⟩ := h0
  have z0 : ∀ n ∈ d0.weights Tryd.prog 24, n ≤ reachBytes := fun n hn => by simpa using List.all_eq_true.1 hsz0 n (DataW.weights_mem_each (j := 0) (t := 24) (d := d0) rfl rfl n hn)
  obtain ⟨vA, vB, vC, nx, ny, A, B, C, hc0, rA, mA, oA, rB, mB, oB, rC, mC, oC⟩ := open_case hf0 z0
  obtain rfl := case_val hc0
  clear hA0
  simp only [List.append_nil] at hW'
  refine (walk vA vB vC A B C nx ny W (vs_of (tabs_of hL)) rA mA oA rB mB oB rC mC oC).mono fun e W' ⟨he, bel⟩ => ?_
  subst he
  exact ⟨_, rfl, _, _, _, [], _, [], hW', trodAll_mk1 (shut_bool Tryd.underlying4 _), (trodAll_cons_mk (Below.trod laidOut (by kernel_rfl) (of_decide_eq_true (by kernel_rfl)) k0 bel lt0) trodAll_mk0), rfl, bel.frame _, fun h => by cases h⟩

set_option maxRecDepth 100000 in
theorem laid_met (os : Os) : laidMet Tryd.prog Rows.mergeAloneRow.laid ((laidWorld os).forCall (fun _ _ => 0) ⟨#[], #[.agg #[.slice none 0 0, .slice none 0 0, .slice none 0 0, .int .i64 0, .int .i64 0]], []⟩).memory :=
  (LaidIn.of_run (l := Rows.mergeAloneRow.laid) [2, 1] 8 (by kernel_rfl) (by kernel_rfl) (by kernel_rfl) (by kernel_rfl)).met
theorem reads (os : Os) {H : Type} (enc : TypeId × Value → H) : ∃ places, DataW.whole enc Tryd.prog ((laidWorld os).forCall (fun _ _ => 0) ⟨#[], #[.agg #[.slice none 0 0, .slice none 0 0, .slice none 0 0, .int .i64 0, .int .i64 0]], []⟩).memory Tryd.f6.params.toList Rows.mergeAloneSpec.vars false (#[.agg #[.slice none 0 0, .slice none 0 0, .slice none 0 0, .int .i64 0, .int .i64 0]] : Array Value).toList 8 = some ([.agg [.nil, .nil, .nil, .lit (.int .i64 0), .lit (.int .i64 0)]], [], places) :=
  ⟨[], by kernel_rfl⟩
set_option maxRecDepth 100000 in
theorem lifted (os : Os) (started : os.Started) (H : Type) (enc : TypeId × Value → H) (F : Stop.Interp) :
    ReturnsInHanded {} Tryd.checked os 6 .any ((OpenSpec.ofChange Rows.mergeAloneSpec).preRow enc Tryd.prog Tryd.f6 Rows.mergeAloneRow.domain false Rows.mergeAloneRow.laid) (((OpenSpec.ofChange Rows.mergeAloneSpec).at F).post enc Tryd.prog Tryd.f6 false true false false) := by
  obtain ⟨places, hx⟩ := reads os enc
  refine returnsInHanded_of_row (C := Tryd.checked) (s := OpenSpec.ofChange Rows.mergeAloneSpec) own started (by kernel_rfl) Tryd.func6
    (witness_row_atRef (enc := enc) (C := Tryd.checked) false (laidWorld os) #[.agg #[.slice none 0 0, .slice none 0 0, .slice none 0 0, .int .i64 0, .int .i64 0]] rfl (by kernel_rfl) (by kernel_rfl) (by kernel_rfl)
      (OpenSpec.preRow_of_cond 8 hx (by kernel_rfl) (fun k hk => by cases hk) (by kernel_rfl) (laid_met os))) ?_
  intro W base args ds gs before hval hW _ _ hsz hL _ _
  exact contract H enc W base args ds gs before hval hW hsz hL

theorem holds : Rows.MergeAloneSaid :=
  OpenClaim.holds_of_cond 6 Tryd.f6 rfl rfl rfl rfl rfl rfl rfl ⟨rfl, rfl, rfl, rfl, rfl⟩ rfl rfl rfl rfl rfl (by kernel_rfl) Tryd.func6 (by kernel_rfl)
    (of_decide_eq_true (by kernel_rfl)) (by unfold Func.isWrapper; first | (rw [if_pos (by decide +kernel)]; kernel_rfl) | (rw [if_neg (by decide +kernel)]; exact ⟨rfl, rfl⟩))
    (fun os started H enc _ F => by rw [OpenClaim.pre_eq_preRow]; exact lifted os started H enc F)
theorem plain (f : FuncId) (fn : Func) (hf : Tryd.pinned.checked.prog.funcNamed "oxbow/oxbowlaw14.MergeAlone" = some f) (hfn : Tryd.pinned.checked.prog.funcs[f]? = some fn) :
    true = Tryd.pinned.checked.prog.looks [] ∧ ∀ (j : Nat) t, fn.params[j]? = some t → Tryd.pinned.checked.prog.wantsStandIn t = false := by
  obtain rfl : f = 6 := Option.some.inj ((show Tryd.prog.funcNamed "oxbow/oxbowlaw14.MergeAlone" = some 6 by kernel_rfl).symm.trans hf) |>.symm
  obtain rfl : fn = Tryd.f6 := (Option.some.inj (Tryd.func6.symm.trans hfn)).symm
  refine ⟨by kernel_rfl, fun j t ht => ?_⟩
  rw [Tryd.params6] at ht
  have hm := Array.mem_of_getElem? ht
  obtain rfl : t = 24 := by simpa using hm
  exact (show Tryd.prog.wantsStandIn 24 = false by kernel_rfl)
theorem card : Rows.MergeAloneCardSaid :=
  Claim7.holds_tied_plain_at .later [] _ _ _ _ holds (fun _ h => by cases h) (by kernel_rfl) (fun _ h => by cases h) mergeAlone_row_tie rfl ⟨rfl, rfl⟩ (by kernel_rfl) rfl plain (by kernel_rfl)
end Go.Proofs.YtffbkgmagjkogaaDoor.mergeAlone
namespace Go.Proofs.YtffbkgmagjkogaaDoor
theorem mergeAlone_holds : Rows.MergeAloneCardSaid := mergeAlone.card
#print axioms mergeAlone_holds
end Go.Proofs.YtffbkgmagjkogaaDoor
