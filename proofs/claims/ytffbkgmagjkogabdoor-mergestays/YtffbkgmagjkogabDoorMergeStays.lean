/-
  Proved: from a document to itself all is kept (the law MergeStays), for every input.
-/
import Derived.Test.YtffbkgmagjkogabDoorMgS
import Derived.Test.YtffbkgmagjkogabDoorDpH
import Derived.ChangeOld
namespace Go.Proofs.YtffbkgmagjkogabDoor.mergeStays
open Go.RowKit Go.ChangeShapes Go.WideShapes Go.ChangeAt Go.PlainAid

set_option maxRecDepth 20000 in
set_option maxHeartbeats 1600000 in
theorem walk (v : Value) (l : List RunD) (w : World) (hV : VS w) (hr : RdN w v l) (hm : l.length ≤ 4398046511104) (hi : ∀ r ∈ l, r.Bd ∧ r.In) :
    Calls Tryd.prog 3 #[v] w fun e w' => e = .returned (.bool true) ∧ Below w.heap.size w w' := by
  have c1 := mdelta_any v v l l w hV hr hr (fun x hx => by
    simp only [List.mem_cons, List.not_mem_nil, or_false, or_self] at hx
    subst hx
    exact ⟨by omega, fun r h => (hi r h).2⟩)
  have cL := fun W h => live14_any W (hV.below h)
  rcases stay_E (l := l) with ⟨h0, hg⟩ | h0
  · have hbd := hg.bound
    have c2 := fun W (hb : Below w.heap.size w W) => docLen_any v l W (hV.below hb) (hr.below hb) (by omega) (by omega)
    rw [h0, stays hg] at c1
    rw [stay_N hg] at c2
    obtain ⟨ao, cp, e1, -⟩ := id hr
    subst e1
    clear hr hi hm h0 hg hbd
    generalize (ats l).length = N at *
    by_cases hN : N = 0
    · subst hN
      rw [show kpN 0 = [] from rfl] at c1
      go_enter Tryd.func3, Tryd.ntmps3
      go_wp2_with fail
      refine c1.mono ?_
      rintro e w1 ⟨u1, rfl, ho1, q1⟩
      obtain ⟨p1, s1, rfl⟩ := own_form ho1
      clear c1 ho1
      go_wp2_with fail
      refine (c2 _ q1).mono ?_
      rintro e w2 ⟨rfl, q2⟩
      have hB := chain q1 q2
      go_wp2_with fail
      refine (cL _ hB).mono ?_
      rintro e w3 ⟨rfl, q3⟩
      go_wp2_with fail
      go_ret
      exact ⟨rfl, chain hB q3⟩
    · have hN' : ((N : Int) == 0) = false := by simpa using hN
      rw [show kpN N = [⟨1, (N : Int), ⟨#[]⟩⟩] from if_neg hN] at c1
      go_enter Tryd.func3, Tryd.ntmps3
      go_wp2_with fail
      refine c1.mono ?_
      rintro e w1 ⟨u1, rfl, ho1, q1⟩
      have r1 := rdd_own ho1
      clear c1 ho1
      obtain ⟨ao1, cp1, rfl, -, hc⟩ := r1
      obtain ⟨b, off, rfl, hb, d0, d1, d2⟩ := hc 0 _ rfl
      simp only [Nat.zero_mul, Nat.add_zero] at d0 d1 d2
      clear hc
      go_wp2_with fail
      refine (c2 _ q1).mono ?_
      rintro e w2 ⟨rfl, q2⟩
      have hB := chain q1 q2
      have g0 := (q2.cell (p := ⟨b, off, none⟩) hb).trans d0
      have g1 := (q2.cell (p := ⟨b, off + 1, none⟩) hb).trans d1
      have g2 := (q2.cell (p := ⟨b, off + 2, none⟩) hb).trans d2
      clear d0 d1 d2 c2
      go_wp2_with fail
      refine (cL _ hB).mono ?_
      rintro e w3 ⟨rfl, q3⟩
      go_wp2_with fail
      go_ret
      exact ⟨rfl, chain hB q3⟩
  · rw [h0] at c1
    obtain ⟨ao, cp, e1, -⟩ := id hr
    subst e1
    clear hr hi hm
    go_enter Tryd.func3, Tryd.ntmps3
    go_wp2_with fail
    refine c1.mono ?_
    rintro e w1 ⟨u1, rfl, ho1, q1⟩
    obtain ⟨p1, s1, rfl⟩ := own_form ho1
    clear c1 ho1
    go_wp2_with fail
    refine (cL _ q1).mono ?_
    rintro e w2 ⟨rfl, q2⟩
    go_wp2_with fail
    go_ret
    exact ⟨rfl, chain q1 q2⟩

theorem own : ownKnob Tryd.prog.godebug = none := by kernel_rfl
theorem laidOut : laidOutB Tryd.prog = true := by kernel_rfl

set_option maxRecDepth 20000 in
theorem contract (H : Type) (enc : TypeId × Value → H) (W : World) (base : Nat) (args : Array Value) (ds gs : List (DataW H)) (before : List MemPlace)
    (hval : ∀ (j : Nat) t v, Tryd.f3.params[j]? = some t → args[j]? = some v → Value.okWide Tryd.prog W .any base t v)
    (hW : DataW.Whole enc Tryd.prog Tryd.f3.params.toList Rows.mergeStaysSpec.vars false W args.toList ds gs before) (hsz0 : (DataW.weightsEach Tryd.prog (Tryd.f3.params.toList ++ Rows.mergeStaysSpec.plain.varTypes Tryd.prog) (ds ++ gs)).all (· ≤ reachBytes) = true) (hL : laidMetH Tryd.prog Rows.mergeStaysRow.laid W) :
    Calls Tryd.prog 3 args W fun e W' => ∃ v, e = .returned v ∧ Rows.mergeStaysSpec.post enc Tryd.prog Tryd.f3 false true false false W args v W' := by
  have hW' := hW
  obtain ⟨p, q, hA0, hV, rfl, hfz, hnd⟩ := hW
  have hA : DataW.TrodAll enc Tryd.prog W 0 (fun _ => true) true Tryd.f3.params.toList args.toList ds p := hA0
  rw [Tryd.params3] at hA hval hsz0
  obtain ⟨v0, vs0, d0, ds0, p0, q0, hargs, rfl, rfl, h0, r0⟩ := trodAll_cons hA
  obtain ⟨rfl, rfl, rfl⟩ := trodAll_nil r0
  obtain rfl : args = #[v0] := by cases args; simp_all
  obtain ⟨rfl, rfl⟩ := trodVars_none hV
  have k0 := h0
  have lt0 : ∀ x ∈ p0, x.block < W.heap.size := by obtain ⟨m, hm⟩ := k0; exact DataW.trod_lt m _ _ _ hm
  obtain ⟨a0, len0, cap0, rfl⟩ := okWide_slice Tryd.underlying22 (hval 0 22 v0 rfl rfl)
  obtain ⟨fuel0, hf0⟩ := h0
  have z0 : ∀ n ∈ d0.weights Tryd.prog 22, n ≤ reachBytes := fun n hn => by simpa using List.all_eq_true.1 hsz0 n (DataW.weights_mem_each (j := 0) (t := 22) (d := d0) rfl rfl n hn)
  obtain ⟨l0, rd0, ln0, ok0⟩ := open_rnz hf0 z0
  clear hA0
  simp only [List.append_nil] at hW'
  refine (walk (.slice a0 len0 cap0) l0 W (vs_of (tabs_of hL)) rd0 ln0 ok0).mono fun e W' ⟨he, bel⟩ => ?_
  subst he
  exact ⟨_, rfl, _, _, _, [], _, [], hW', trodAll_mk1 (shut_bool Tryd.underlying4 _), (trodAll_cons_mk (Below.trod laidOut (by kernel_rfl) (of_decide_eq_true (by kernel_rfl)) k0 bel lt0) trodAll_mk0), rfl, bel.frame _, fun h => by cases h⟩

set_option maxRecDepth 100000 in
theorem laid_met (os : Os) : laidMet Tryd.prog Rows.mergeStaysRow.laid ((laidWorld os).forCall (fun _ _ => 0) ⟨#[], #[.slice none 0 0], []⟩).memory :=
  (LaidIn.of_run (l := Rows.mergeStaysRow.laid) [1, 0] 8 (by kernel_rfl) (by kernel_rfl) (by kernel_rfl) (by kernel_rfl)).met
theorem reads (os : Os) {H : Type} (enc : TypeId × Value → H) : ∃ places, DataW.whole enc Tryd.prog ((laidWorld os).forCall (fun _ _ => 0) ⟨#[], #[.slice none 0 0], []⟩).memory Tryd.f3.params.toList Rows.mergeStaysSpec.vars false (#[.slice none 0 0] : Array Value).toList 8 = some ([.nil], [], places) :=
  ⟨[], by kernel_rfl⟩
set_option maxRecDepth 100000 in
theorem lifted (os : Os) (started : os.Started) (H : Type) (enc : TypeId × Value → H) (F : Stop.Interp) :
    ReturnsInHanded {} Tryd.checked os 3 .any ((OpenSpec.ofChange Rows.mergeStaysSpec).preRow enc Tryd.prog Tryd.f3 Rows.mergeStaysRow.domain false Rows.mergeStaysRow.laid) (((OpenSpec.ofChange Rows.mergeStaysSpec).at F).post enc Tryd.prog Tryd.f3 false true false false) := by
  obtain ⟨places, hx⟩ := reads os enc
  refine returnsInHanded_of_row (C := Tryd.checked) (s := OpenSpec.ofChange Rows.mergeStaysSpec) own started (by kernel_rfl) Tryd.func3
    (witness_row_atRef (enc := enc) (C := Tryd.checked) false (laidWorld os) #[.slice none 0 0] rfl (by kernel_rfl) (by kernel_rfl) (by kernel_rfl)
      (OpenSpec.preRow_of_cond 8 hx (by kernel_rfl) (fun k hk => by cases hk) (by kernel_rfl) (laid_met os))) ?_
  intro W base args ds gs before hval hW _ _ hsz hL _ _
  exact contract H enc W base args ds gs before hval hW hsz hL

theorem holds : Rows.MergeStaysSaid :=
  OpenClaim.holds_of_cond 3 Tryd.f3 rfl rfl rfl rfl rfl rfl rfl ⟨rfl, rfl, rfl, rfl, rfl⟩ rfl rfl rfl rfl rfl (by kernel_rfl) Tryd.func3 (by kernel_rfl)
    (of_decide_eq_true (by kernel_rfl)) (by unfold Func.isWrapper; first | (rw [if_pos (by decide +kernel)]; kernel_rfl) | (rw [if_neg (by decide +kernel)]; exact ⟨rfl, rfl⟩))
    (fun os started H enc _ F => by rw [OpenClaim.pre_eq_preRow]; exact lifted os started H enc F)
theorem plain (f : FuncId) (fn : Func) (hf : Tryd.pinned.checked.prog.funcNamed "oxbow/oxbowlaw14.MergeStays" = some f) (hfn : Tryd.pinned.checked.prog.funcs[f]? = some fn) :
    false = Tryd.pinned.checked.prog.looks [] ∧ ∀ (j : Nat) t, fn.params[j]? = some t → Tryd.pinned.checked.prog.wantsStandIn t = false := by
  obtain rfl : f = 3 := Option.some.inj ((show Tryd.prog.funcNamed "oxbow/oxbowlaw14.MergeStays" = some 3 by kernel_rfl).symm.trans hf) |>.symm
  obtain rfl : fn = Tryd.f3 := (Option.some.inj (Tryd.func3.symm.trans hfn)).symm
  refine ⟨by kernel_rfl, fun j t ht => ?_⟩
  rw [Tryd.params3] at ht
  have hm := Array.mem_of_getElem? ht
  obtain rfl : t = 22 := by simpa using hm
  exact (show Tryd.prog.wantsStandIn 22 = false by kernel_rfl)
theorem card : Rows.MergeStaysCardSaid :=
  Claim7.holds_tied_plain_at .later [] _ _ _ _ holds (fun _ h => by cases h) (by kernel_rfl) (fun _ h => by cases h) mergeStays_row_tie rfl ⟨rfl, rfl⟩ (by kernel_rfl) rfl plain (by kernel_rfl)
end Go.Proofs.YtffbkgmagjkogabDoor.mergeStays
namespace Go.Proofs.YtffbkgmagjkogabDoor
theorem mergeStays_holds : Rows.MergeStaysCardSaid := mergeStays.card
#print axioms mergeStays_holds
end Go.Proofs.YtffbkgmagjkogabDoor
