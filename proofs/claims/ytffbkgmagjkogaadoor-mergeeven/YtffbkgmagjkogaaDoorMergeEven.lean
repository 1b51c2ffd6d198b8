/-
  Proved: merged the other way round it is the same, atom by atom, or refused alike (the law MergeEven), for every input.
-/
import Derived.Test.YtffbkgmagjkogaaDoorMgP
import Derived.Test.YtffbkgmagjkogaaDoorDpH
import Derived.ChangeOld
namespace Go.Proofs.YtffbkgmagjkogaaDoor.mergeEven
open Go.RowKit Go.ChangeShapes Go.WideShapes Go.ChangeAt Go.PlainAid

set_option maxRecDepth 20000 in
set_option maxHeartbeats 1600000 in
theorem walk (vA vB vC : Value) (A B C : List RunD) (nx ny : Int) (w : World) (hV : VS w) (rA : RdN w vA A) (mA : A.length ≤ 4398046511104) (oA : ∀ r ∈ A, r.Bd ∧ r.In) (rB : RdN w vB B) (mB : B.length ≤ 4398046511104) (oB : ∀ r ∈ B, r.Bd ∧ r.In) (rC : RdN w vC C) (mC : C.length ≤ 4398046511104) (oC : ∀ r ∈ C, r.Bd ∧ r.In) :
    Calls Tryd.prog 5 #[.agg #[vA, vB, vC, .int .i64 nx, .int .i64 ny]] w fun e w' => e = .returned (.bool true) ∧ Below w.heap.size w w' := by
  have q0 : Below w.heap.size w (w.alloc (.cells #[vA, vB, vC, .int .i64 nx, .int .i64 ny] 24)) := (Below.refl _ w).alloc (Nat.le_refl _) _
  have b0 : CB (w.alloc (.cells #[vA, vB, vC, .int .i64 nx, .int .i64 ny] 24)) w.heap.size vA vB vC nx ny := heap_alloc_new w _
  have h1 : ∀ l ∈ [A, B, C], l.length ≤ 1125899906842624 ∧ ∀ r ∈ l, r.In := by
    intro l hl
    simp only [List.mem_cons, List.not_mem_nil, or_false] at hl
    rcases hl with rfl | rfl | rfl
    · exact ⟨by omega, fun r hr => (oA r hr).2⟩
    · exact ⟨by omega, fun r hr => (oB r hr).2⟩
    · exact ⟨by omega, fun r hr => (oC r hr).2⟩
  have h2 : ∀ l ∈ [A, C, B], l.length ≤ 1125899906842624 ∧ ∀ r ∈ l, r.In := by
    intro l hl
    apply h1
    simp only [List.mem_cons, List.not_mem_nil, or_false] at hl ⊢
    rcases hl with h | h | h <;> simp [h]
  have c1 := docs_any vA vB vC A B C nx ny _ (hV.below q0) (rA.below q0) (rB.below q0) (rC.below q0) h1
  have c2 := fun W (hW : Below w.heap.size w W) => docs_any vA vC vB A C B ny nx W (hV.below hW) (rA.below hW) (rC.below hW) (rB.below hW) h2
  have cL := fun W h => live14_any W (hV.below h)
  have hS : nx ≠ ny → ∀ u v W, RdN W u (mdL A B C nx ny) → RdN W v (mdL A C B ny nx) → Calls Tryd.prog 12 #[u, v] W fun e w' => e = .returned (.bool true) ∧ Below W.heap.size W w' := fun h u v W hu hv => by
    rw [mdL_swap A B C h] at hv
    exact docSame_true u v _ W (by have := mdL_len A B C nx ny; omega) hu hv
  rw [mdE_swap A B C nx ny] at c2
  obtain ⟨a1, k1, e1, -⟩ := id rA
  subst e1
  obtain ⟨a2, k2, e2, -⟩ := id rB
  subst e2
  obtain ⟨a3, k3, e3, -⟩ := id rC
  subst e3
  clear rA rB rC h1 h2 oA oB oC
  generalize mdE A B C nx ny = E at *
  generalize mdL A B C nx ny = L1 at *
  generalize mdL A C B ny nx = L2 at *
  go_enter Tryd.func5, Tryd.ntmps5
  go_wp2_with fail
  refine c1.mono ?_
  rintro e w1 ⟨u1, rfl, ho1, q1⟩
  have hB := chain q0 q1
  have b1 := b0.below q1
  have r1 := rdn_own ho1
  obtain ⟨p1, s1, rfl⟩ := own_form ho1
  obtain ⟨d0, d1, d2, d3, d4⟩ := b1.cells
  clear c1 ho1 q0 b0 q1
  go_wp2_with fail
  refine (c2 _ hB).mono ?_
  rintro e w2 ⟨u2, rfl, ho2, q2⟩
  replace hB := chain hB q2
  replace b1 := b1.below q2
  have r2 := rdn_own ho2
  replace r1 := r1.below q2
  obtain ⟨p2, s2, rfl⟩ := own_form ho2
  clear c2 ho2 q2 d0 d1 d2 d3 d4
  obtain ⟨-, -, -, d3, d4⟩ := b1.cells
  by_cases hn : nx = ny
  · have hn' : (nx == ny) = true := by simp [hn]
    clear hS r1 r2 hn
    go_wp2_with fail
    refine (cL _ hB).mono ?_
    rintro e w3 ⟨rfl, q3⟩
    go_wp2_with fail
    go_ret
    exact ⟨rfl, chain hB q3⟩
  · have hn' : (nx == ny) = false := by simp [hn]
    have cS := hS hn _ _ _ r1 r2
    clear hS r1 r2 hn
    go_wp2_with fail
    refine cS.mono ?_
    rintro e w3 ⟨rfl, q3⟩
    replace hB := chain hB q3
    go_wp2_with fail
    refine (cL _ hB).mono ?_
    rintro e w4 ⟨rfl, q4⟩
    go_wp2_with fail
    go_ret
    exact ⟨rfl, chain hB q4⟩

theorem own : ownKnob Tryd.prog.godebug = none := by kernel_rfl
theorem laidOut : laidOutB Tryd.prog = true := by kernel_rfl

set_option maxRecDepth 20000 in
theorem contract (H : Type) (enc : TypeId × Value → H) (W : World) (base : Nat) (args : Array Value) (ds gs : List (DataW H)) (before : List MemPlace)
    (hval : ∀ (j : Nat) t v, Tryd.f5.params[j]? = some t → args[j]? = some v → Value.okWide Tryd.prog W .any base t v)
    (hW : DataW.Whole enc Tryd.prog Tryd.f5.params.toList Rows.mergeEvenSpec.vars false W args.toList ds gs before) (hsz0 : (DataW.weightsEach Tryd.prog (Tryd.f5.params.toList ++ Rows.mergeEvenSpec.plain.varTypes Tryd.prog) (ds ++ gs)).all (· ≤ reachBytes) = true) (hL : laidMetH Tryd.prog Rows.mergeEvenRow.laid W) :
    Calls Tryd.prog 5 args W fun e W' => ∃ v, e = .returned v ∧ Rows.mergeEvenSpec.post enc Tryd.prog Tryd.f5 false true false false W args v W' := by
  have hW' := hW
  obtain ⟨p, q, hA0, hV, rfl, hfz, hnd⟩ := hW
  have hA : DataW.TrodAll enc Tryd.prog W 0 (fun _ => true) true Tryd.f5.params.toList args.toList ds p := hA0
  rw [Tryd.params5] at hA hval hsz0
  obtain ⟨v0, vs0, d0, ds0, p0, q0, hargs, rfl, rfl, h0, r0⟩ := trodAll_cons hA
  obtain ⟨rfl, rfl, rfl⟩ := trodAll_nil r0
  obtain rfl : args = #[v0] := by cases args; simp_all
  obtain ⟨rfl, rfl⟩ := trodVars_none hV
  have k0 := h0
  have lt0 : ∀ x ∈ p0, x.block < W.heap.size := by obtain ⟨m, hm⟩ := k0; exact DataW.trod_lt m _ _ _ hm
  obtain ⟨fuel0, hf0⟩ := h0
  have z0 : ∀ n ∈ d0.weights Tryd.prog 24, n ≤ reachBytes := fun n hn => by simpa using List.all_eq_true.1 hsz0 n (DataW.weights_mem_each (j := 0) (t := 24) (d := d0) rfl rfl n hn)
  obtain ⟨vA, vB, vC, nx, ny, A, B, C, hc0, rA, mA, oA, rB, mB, oB, rC, mC, oC⟩ := open_case hf0 z0
  obtain rfl := case_val hc0
  clear hA0
  simp only [List.append_nil] at hW'
  refine (walk vA vB vC A B C nx ny W (vs_of (tabs_of hL)) rA mA oA rB mB oB rC mC oC).mono fun e W' ⟨he, bel⟩ => ?_
  subst he
  exact ⟨_, rfl, _, _, _, [], _, [], hW', trodAll_mk1 (shut_bool Tryd.underlying4 _), (trodAll_cons_mk (Below.trod laidOut (by kernel_rfl) (of_decide_eq_true (by kernel_rfl)) k0 bel lt0) trodAll_mk0), rfl, bel.frame _, fun h => by cases h⟩

set_option maxRecDepth 100000 in
theorem laid_met (os : Os) : laidMet Tryd.prog Rows.mergeEvenRow.laid ((laidWorld os).forCall (fun _ _ => 0) ⟨#[], #[.agg #[.slice none 0 0, .slice none 0 0, .slice none 0 0, .int .i64 0, .int .i64 0]], []⟩).memory :=
  (LaidIn.of_run (l := Rows.mergeEvenRow.laid) [2, 1] 8 (by kernel_rfl) (by kernel_rfl) (by kernel_rfl) (by kernel_rfl)).met
theorem reads (os : Os) {H : Type} (enc : TypeId × Value → H) : ∃ places, DataW.whole enc Tryd.prog ((laidWorld os).forCall (fun _ _ => 0) ⟨#[], #[.agg #[.slice none 0 0, .slice none 0 0, .slice none 0 0, .int .i64 0, .int .i64 0]], []⟩).memory Tryd.f5.params.toList Rows.mergeEvenSpec.vars false (#[.agg #[.slice none 0 0, .slice none 0 0, .slice none 0 0, .int .i64 0, .int .i64 0]] : Array Value).toList 8 = some ([.agg [.nil, .nil, .nil, .lit (.int .i64 0), .lit (.int .i64 0)]], [], places) :=
  ⟨[], by kernel_rfl⟩
set_option maxRecDepth 100000 in
theorem lifted (os : Os) (started : os.Started) (H : Type) (enc : TypeId × Value → H) (F : Stop.Interp) :
    ReturnsInHanded {} Tryd.checked os 5 .any ((OpenSpec.ofChange Rows.mergeEvenSpec).preRow enc Tryd.prog Tryd.f5 Rows.mergeEvenRow.domain false Rows.mergeEvenRow.laid) (((OpenSpec.ofChange Rows.mergeEvenSpec).at F).post enc Tryd.prog Tryd.f5 false true false false) := by
  obtain ⟨places, hx⟩ := reads os enc
  refine returnsInHanded_of_row (C := Tryd.checked) (s := OpenSpec.ofChange Rows.mergeEvenSpec) own started (by kernel_rfl) Tryd.func5
    (witness_row_atRef (enc := enc) (C := Tryd.checked) false (laidWorld os) #[.agg #[.slice none 0 0, .slice none 0 0, .slice none 0 0, .int .i64 0, .int .i64 0]] rfl (by kernel_rfl) (by kernel_rfl) (by kernel_rfl)
      (OpenSpec.preRow_of_cond 8 hx (by kernel_rfl) (fun k hk => by cases hk) (by kernel_rfl) (laid_met os))) ?_
  intro W base args ds gs before hval hW _ _ hsz hL _ _
  exact contract H enc W base args ds gs before hval hW hsz hL

theorem holds : Rows.MergeEvenSaid :=
  OpenClaim.holds_of_cond 5 Tryd.f5 rfl rfl rfl rfl rfl rfl rfl ⟨rfl, rfl, rfl, rfl, rfl⟩ rfl rfl rfl rfl rfl (by kernel_rfl) Tryd.func5 (by kernel_rfl)
    (of_decide_eq_true (by kernel_rfl)) (by unfold Func.isWrapper; first | (rw [if_pos (by decide +kernel)]; kernel_rfl) | (rw [if_neg (by decide +kernel)]; exact ⟨rfl, rfl⟩))
    (fun os started H enc _ F => by rw [OpenClaim.pre_eq_preRow]; exact lifted os started H enc F)
theorem plain (f : FuncId) (fn : Func) (hf : Tryd.pinned.checked.prog.funcNamed "oxbow/oxbowlaw14.MergeEven" = some f) (hfn : Tryd.pinned.checked.prog.funcs[f]? = some fn) :
    true = Tryd.pinned.checked.prog.looks [] ∧ ∀ (j : Nat) t, fn.params[j]? = some t → Tryd.pinned.checked.prog.wantsStandIn t = false := by
  obtain rfl : f = 5 := Option.some.inj ((show Tryd.prog.funcNamed "oxbow/oxbowlaw14.MergeEven" = some 5 by kernel_rfl).symm.trans hf) |>.symm
  obtain rfl : fn = Tryd.f5 := (Option.some.inj (Tryd.func5.symm.trans hfn)).symm
  refine ⟨by kernel_rfl, fun j t ht => ?_⟩
  rw [Tryd.params5] at ht
  have hm := Array.mem_of_getElem? ht
  obtain rfl : t = 24 := by simpa using hm
  exact (show Tryd.prog.wantsStandIn 24 = false by kernel_rfl)
theorem card : Rows.MergeEvenCardSaid :=
  Claim7.holds_tied_plain_at .later [] _ _ _ _ holds (fun _ h => by cases h) (by kernel_rfl) (fun _ h => by cases h) mergeEven_row_tie rfl ⟨rfl, rfl⟩ (by kernel_rfl) rfl plain (by kernel_rfl)
end Go.Proofs.YtffbkgmagjkogaaDoor.mergeEven
namespace Go.Proofs.YtffbkgmagjkogaaDoor
theorem mergeEven_holds : Rows.MergeEvenCardSaid := mergeEven.card
#print axioms mergeEven_holds
end Go.Proofs.YtffbkgmagjkogaaDoor
