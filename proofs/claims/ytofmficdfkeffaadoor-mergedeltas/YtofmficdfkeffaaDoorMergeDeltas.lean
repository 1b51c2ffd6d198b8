/-
  Proved: the delta from any document to any other one is the reference's (the law MergeDeltas), where what comes in is of bulk at most 1048576.
-/
import Derived.Test.YtofmficdfkeffaaDoorMhAMhB
import Derived.Test.YtofmficdfkeffaaDoorDpH
import Derived.ChangeOld
namespace Go.Proofs.YtofmficdfkeffaaDoor.mergeDeltas
open Go.RowKit Go.ChangeShapes Go.WideShapes Go.ChangeAt Go.PlainAid

set_option maxRecDepth 20000 in
set_option maxHeartbeats 1600000 in
theorem walk (v : Value) (l : List RunD) (v' : Value) (t : List RunD) (w : World) (hV : VS w) (hr : RdN w v l) (hm : l.length ≤ 1048576 ∧ (txB l).length ≤ 1048576) (hi : ∀ r ∈ l, r.Bd) (hr' : RdN w v' t) (hm' : t.length ≤ 1048576 ∧ (txB t).length ≤ 1048576) (hi' : ∀ r ∈ t, r.Bd) :
    Calls Tryd.prog 4 #[v, v'] w fun e w' => e = .returned (.bool true) ∧ Below w.heap.size w w' := by
  have hsz : ∀ r ∈ l, r.t.size ≤ 1048576 := fun r h => Nat.le_trans (txB_mem h) hm.2
  have hsz' : ∀ r ∈ t, r.t.size ≤ 1048576 := fun r h => Nat.le_trans (txB_mem h) hm'.2
  have hin : ∀ r ∈ l, r.In := fun r h => by have := hsz r h; show _ ≤ _; omega
  have hin' : ∀ r ∈ t, r.In := fun r h => by have := hsz' r h; show _ ≤ _; omega
  have cC1 := copied12_any v l w hr (by omega)
  have cC2 := fun W (hb : Below w.heap.size w W) => copied12_any v' t W (hr'.below hb) (by omega)
  have cD := fun u u' W (hb : Below w.heap.size w W) (hu : RdN W u l) (hu' : RdN W u' t) => mdelta_any u u' l t W (hV.below hb) hu hu' (fun x hx => by
      simp only [List.mem_cons, List.not_mem_nil, or_false] at hx
      rcases hx with rfl | rfl
      · exact ⟨by omega, hin⟩
      · exact ⟨by omega, hin'⟩)
  have cR := fun W (hb : Below w.heap.size w W) => refDelta_any v v' l t W (hr.below hb) (hr'.below hb) (by omega) (by omega) hi hi' hsz hsz'
  have hdl := ddL_len l t
  have cS := fun u u' W (hu : RdD W u (ddL l t)) (hu' : RdD W u' (ddL l t)) => same_true u u' (ddL l t) W (by unfold maxLen; omega) hu hu'
  have cL := fun W h => live14_any W (hV.below h)
  obtain ⟨ao, cp, hv, -⟩ := id hr
  subst hv
  obtain ⟨ao', cp', hv', -⟩ := id hr'
  subst hv'
  clear hr hi hsz hin hr' hi' hsz' hin' hV hdl
  generalize ddL l t = D at *
  generalize ddE l t = E at *
  go_enter Tryd.func4, Tryd.ntmps4
  go_wp2_with fail
  refine cC1.mono ?_
  rintro e w1 ⟨u1, rfl, ho1, hb⟩
  have r1 := rdn_own ho1
  obtain ⟨a1, k1, rfl⟩ := own_form ho1
  clear cC1 ho1
  go_wp2_with fail
  refine (cC2 _ hb).mono ?_
  rintro e w2 ⟨u2, rfl, ho2, q2⟩
  have r2 := rdn_own ho2
  obtain ⟨a2, k2, rfl⟩ := own_form ho2
  replace r1 := r1.below q2
  replace hb := chain hb q2
  clear cC2 q2 ho2
  go_wp2_with fail
  refine (cD _ _ _ hb r1 r2).mono ?_
  rintro e w3 ⟨u3, rfl, ho3, q3⟩
  have r3 := rdd_own ho3
  obtain ⟨a3, k3, rfl⟩ := own_form ho3
  replace hb := chain hb q3
  clear cD q3 ho3 r1 r2
  go_wp2_with fail
  refine (cR _ hb).mono ?_
  rintro e w4 ⟨u4, rfl, ho4, q4⟩
  have r4 := rdd_own ho4
  obtain ⟨a4, k4, rfl⟩ := own_form ho4
  replace r3 := r3.below q4
  replace hb := chain hb q4
  clear cR q4 ho4
  go_wp2_with fail
  refine (cS _ _ _ r3 r4).mono ?_
  rintro e w5 ⟨rfl, q5⟩
  replace hb := chain hb q5
  clear cS q5 r3 r4
  go_wp2_with fail
  refine (cL _ hb).mono ?_
  rintro e w6 ⟨rfl, q6⟩
  go_wp2_with fail
  go_ret
  exact ⟨rfl, chain hb q6⟩

theorem own : ownKnob Tryd.prog.godebug = none := by kernel_rfl
theorem laidOut : laidOutB Tryd.prog = true := by kernel_rfl

set_option maxRecDepth 20000 in
theorem contract (H : Type) (enc : TypeId × Value → H) (W : World) (base : Nat) (args : Array Value) (ds gs : List (DataW H)) (before : List MemPlace)
    (hval : ∀ (j : Nat) t v, Tryd.f4.params[j]? = some t → args[j]? = some v → Value.okWide Tryd.prog W .any base t v)
    (hW : DataW.Whole enc Tryd.prog Tryd.f4.params.toList Rows.mergeDeltasSpec.vars false W args.toList ds gs before) (hk : Rows.uptoSmall H (ds ++ gs) = true) (hL : laidMetH Tryd.prog Rows.mergeDeltasUptoRow.laid W) :
    Calls Tryd.prog 4 args W fun e W' => ∃ v, e = .returned v ∧ Rows.mergeDeltasSpec.post enc Tryd.prog Tryd.f4 false true false false W args v W' := by
  have hW' := hW
  obtain ⟨p, q, hA0, hV, rfl, hfz, hnd⟩ := hW
  have hA : DataW.TrodAll enc Tryd.prog W 0 (fun _ => true) true Tryd.f4.params.toList args.toList ds p := hA0
  rw [Tryd.params4] at hA hval
  obtain ⟨v0, vs0, d0, ds0, p0, q0, hargs, rfl, rfl, h0, r0⟩ := trodAll_cons hA
  obtain ⟨v1, vs1, d1, ds1, p1, q1, rfl, rfl, rfl, h1, r1⟩ := trodAll_cons r0
  obtain ⟨rfl, rfl, rfl⟩ := trodAll_nil r1
  obtain rfl : args = #[v0, v1] := by cases args; simp_all
  obtain ⟨rfl, rfl⟩ := trodVars_none hV
  have k0 := h0
  have lt0 : ∀ x ∈ p0, x.block < W.heap.size := by obtain ⟨m, hm⟩ := k0; exact DataW.trod_lt m _ _ _ hm
  have k1 := h1
  have lt1 : ∀ x ∈ p1, x.block < W.heap.size := by obtain ⟨m, hm⟩ := k1; exact DataW.trod_lt m _ _ _ hm
  have b0 : Rows.uptoBulk d0 ≤ 1048576 := up_mem hk (by simp)
  have b1 : Rows.uptoBulk d1 ≤ 1048576 := up_mem hk (by simp)
  obtain ⟨a0, len0, cap0, rfl⟩ := okWide_slice Tryd.underlying22 (hval 0 22 v0 rfl rfl)
  obtain ⟨fuel0, hf0⟩ := h0
  obtain ⟨l0, rd0, ln0, ok0⟩ := open_rnu hf0 b0
  obtain ⟨a1, len1, cap1, rfl⟩ := okWide_slice Tryd.underlying22 (hval 1 22 v1 rfl rfl)
  obtain ⟨fuel1, hf1⟩ := h1
  obtain ⟨l1, rd1, ln1, ok1⟩ := open_rnu hf1 b1
  clear hA0
  simp only [List.append_nil] at hW'
  refine (walk (.slice a0 len0 cap0) l0 (.slice a1 len1 cap1) l1 W (vs_of (tabs_of hL)) rd0 ln0 ok0 rd1 ln1 ok1).mono fun e W' ⟨he, bel⟩ => ?_
  subst he
  exact ⟨_, rfl, _, _, _, [], _, [], hW', trodAll_mk1 (shut_bool Tryd.underlying4 _), (trodAll_cons_mk (Below.trod laidOut (by kernel_rfl) (of_decide_eq_true (by kernel_rfl)) k0 bel lt0) (trodAll_cons_mk (Below.trod laidOut (by kernel_rfl) (of_decide_eq_true (by kernel_rfl)) k1 bel lt1) trodAll_mk0)), rfl, bel.frame _, fun h => by cases h⟩

set_option maxRecDepth 100000 in
theorem laid_met (os : Os) : laidMet Tryd.prog Rows.mergeDeltasUptoRow.laid ((laidWorld os).forCall (fun _ _ => 0) ⟨#[], #[.slice none 0 0, .slice none 0 0], []⟩).memory :=
  (LaidIn.of_run (l := Rows.mergeDeltasUptoRow.laid) [2, 1] 8 (by kernel_rfl) (by kernel_rfl) (by kernel_rfl) (by kernel_rfl)).met
theorem reads (os : Os) {H : Type} (enc : TypeId × Value → H) : ∃ places, DataW.whole enc Tryd.prog ((laidWorld os).forCall (fun _ _ => 0) ⟨#[], #[.slice none 0 0, .slice none 0 0], []⟩).memory Tryd.f4.params.toList Rows.mergeDeltasSpec.vars false (#[.slice none 0 0, .slice none 0 0] : Array Value).toList 8 = some ([.nil, .nil], [], places) :=
  ⟨[], by kernel_rfl⟩
set_option maxRecDepth 100000 in
theorem lifted (os : Os) (started : os.Started) (H : Type) (enc : TypeId × Value → H) (F : Stop.Interp) :
    ReturnsInHanded {} Tryd.checked os 4 .any ((Rows.OpenSpec.upto Rows.mergeDeltasSpec).preRow enc Tryd.prog Tryd.f4 Rows.mergeDeltasUptoRow.domain false Rows.mergeDeltasUptoRow.laid) (((Rows.OpenSpec.upto Rows.mergeDeltasSpec).at F).post enc Tryd.prog Tryd.f4 false true false false) := by
  obtain ⟨places, hx⟩ := reads os enc
  refine returnsInHanded_of_row (C := Tryd.checked) (s := Rows.OpenSpec.upto Rows.mergeDeltasSpec) own started (by kernel_rfl) Tryd.func4
    (witness_row_atRef (enc := enc) (C := Tryd.checked) false (laidWorld os) #[.slice none 0 0, .slice none 0 0] rfl (by kernel_rfl) (by kernel_rfl) (by kernel_rfl)
      (OpenSpec.preRow_of_cond 8 hx (by kernel_rfl) (fun k hk => by cases hk; kernel_rfl) (by kernel_rfl) (laid_met os))) ?_
  intro W base args ds gs before hval hW _ hcond _ hL _ _
  exact contract H enc W base args ds gs before hval hW (hcond _ rfl) hL

theorem holds : Rows.MergeDeltasUptoSaid :=
  OpenClaim.holds_of_cond 4 Tryd.f4 rfl rfl rfl rfl rfl rfl rfl ⟨rfl, rfl, rfl, rfl, rfl⟩ rfl rfl rfl rfl rfl (by kernel_rfl) Tryd.func4 (by kernel_rfl)
    (of_decide_eq_true (by kernel_rfl)) (by unfold Func.isWrapper; first | (rw [if_pos (by decide +kernel)]; kernel_rfl) | (rw [if_neg (by decide +kernel)]; exact ⟨rfl, rfl⟩))
    (fun os started H enc _ F => by rw [OpenClaim.pre_eq_preRow]; exact lifted os started H enc F)
theorem plain (f : FuncId) (fn : Func) (hf : Tryd.pinned.checked.prog.funcNamed "oxbow/oxbowlaw14.MergeDeltas" = some f) (hfn : Tryd.pinned.checked.prog.funcs[f]? = some fn) :
    true = Tryd.pinned.checked.prog.looks [] ∧ ∀ (j : Nat) t, fn.params[j]? = some t → Tryd.pinned.checked.prog.wantsStandIn t = false := by
  obtain rfl : f = 4 := Option.some.inj ((show Tryd.prog.funcNamed "oxbow/oxbowlaw14.MergeDeltas" = some 4 by kernel_rfl).symm.trans hf) |>.symm
  obtain rfl : fn = Tryd.f4 := (Option.some.inj (Tryd.func4.symm.trans hfn)).symm
  refine ⟨by kernel_rfl, fun j t ht => ?_⟩
  rw [Tryd.params4] at ht
  have hm := Array.mem_of_getElem? ht
  obtain rfl : t = 22 := by simpa using hm
  exact (show Tryd.prog.wantsStandIn 22 = false by kernel_rfl)
theorem card : Rows.MergeDeltasUptoCardSaid :=
  Claim7.holds_tied_plain_at .later [] _ _ _ _ holds (fun _ h => by cases h) (by kernel_rfl) (fun _ h => by cases h) mergeDeltasUpto_row_tie rfl ⟨rfl, rfl⟩ (by kernel_rfl) rfl plain (by kernel_rfl)
end Go.Proofs.YtofmficdfkeffaaDoor.mergeDeltas
namespace Go.Proofs.YtofmficdfkeffaaDoor
theorem mergeDeltas_holds : Rows.MergeDeltasUptoCardSaid := mergeDeltas.card
#print axioms mergeDeltas_holds
end Go.Proofs.YtofmficdfkeffaaDoor
