/-
  Proved: Check, Text, Len and At of any document are the reference's; what is handed in is as it was (the law DocChecks), where what comes in is of bulk at most 1048576.
-/
import Derived.Test.YtnfnacjadmhclaaDoorDpI
import Derived.Test.YtnfnacjadmhclaaDoorDqH
import Derived.ChangeOld
namespace Go.Proofs.YtnfnacjadmhclaaDoor.docChecks
open Go.RowKit Go.ChangeShapes Go.WideShapes Go.ChangeAt Go.PlainAid

set_option maxRecDepth 20000 in
set_option maxHeartbeats 1600000 in
theorem walk (v : Value) (l : List RunD) (i : Int) (w : World) (hV : VS w) (hr : RdN w v l) (hm : l.length ≤ 1048576 ∧ (txB l).length ≤ 1048576) (hi : ∀ r ∈ l, r.Bd) (_ : -9223372036854775808 ≤ i) (b1 : i ≤ 9223372036854775807) :
    Calls Tryd.prog 3 #[v, .int .i64 i] w fun e w' => e = .returned (.bool true) ∧ Below w.heap.size w w' := by
  have hsz : ∀ r ∈ l, r.t.size ≤ 1048576 := fun r h => Nat.le_trans (txB_mem h) hm.2
  have hin : ∀ r ∈ l, r.In := fun r h => by have := hsz r h; show _ ≤ _; omega
  have cC := copied12_any v l w hr (by omega)
  have c1 := fun u W (hb : Below w.heap.size w W) (hu : RdN W u l) => check_any u l W (hV.below hb) hu (by omega) hin
  have c2 := fun u W (hu : RdN W u l) => docText_any u l W hu (by omega) (by omega)
  have c3 := fun u W (hb : Below w.heap.size w W) (hu : RdN W u l) => docLen_any u l W (hV.below hb) hu (by omega) (by omega)
  have c4 := fun u W (hb : Below w.heap.size w W) (hu : RdN W u l) => at_any u l i W (hV.below hb) hu (by omega) hin b1
  have d1 := fun W (hb : Below w.heap.size w W) => rcheck_any v l W (hr.below hb) (by omega) hi hsz
  have d2 := fun W (hb : Below w.heap.size w W) => rtext_any v l W (hr.below hb) (by omega) (by omega)
  have d3 := fun W (hb : Below w.heap.size w W) => rlen_any v l W (hr.below hb) (by omega) (by omega)
  have d4 := fun W (hb : Below w.heap.size w W) => rat_any v l i W (hr.below hb) (by omega) hi hsz b1
  have c5 := fun u W (hb : Below w.heap.size w W) (hu : RdN W u l) => docSame_true u v l W (by omega) hu (hr.below hb)
  have cL := fun W h => live12_any W (hV.below h)
  obtain ⟨ao, cp, hv, -⟩ := id hr
  subst hv
  clear hr hi hsz hin hV
  generalize atR l i = R at *
  obtain ⟨rc, rq, rn, rb⟩ := R
  unfold atA at c4 d4
  generalize ckR l = E at *
  generalize mk (txB l) = T at *
  generalize cpl T = N at *
  go_enter Tryd.func3, Tryd.ntmps3
  go_wp2_with fail
  refine cC.mono ?_
  rintro e w1 ⟨u1, rfl, ho1, hb⟩
  have r1 := rdn_own ho1
  obtain ⟨a1, k1, rfl⟩ := own_form ho1
  clear cC ho1
  go_wp2_with fail
  refine (c1 _ _ hb r1).mono ?_
  rintro e w2 ⟨rfl, q2⟩
  replace r1 := r1.below q2
  replace hb := chain hb q2
  clear c1 q2
  go_wp2_with fail
  refine (c2 _ _ r1).mono ?_
  rintro e w3 ⟨rfl, q3⟩
  replace r1 := r1.below q3
  replace hb := chain hb q3
  clear c2 q3
  go_wp2_with fail
  refine (c3 _ _ hb r1).mono ?_
  rintro e w4 ⟨rfl, q4⟩
  replace r1 := r1.below q4
  replace hb := chain hb q4
  clear c3 q4
  go_wp2_with fail
  refine (c4 _ _ hb r1).mono ?_
  rintro e w5 ⟨rfl, q5⟩
  replace r1 := r1.below q5
  replace hb := chain hb q5
  clear c4 q5
  have hS5 : OB (w5.alloc (.cells #[.int .i64 rc, .int .i64 rq] 29)) w5.heap.size rc rq := heap_alloc_new w5 _
  have q6 : Below w5.heap.size w5 (w5.alloc (.cells #[.int .i64 rc, .int .i64 rq] 29)) := (Below.refl _ w5).alloc (Nat.le_refl _) _
  go_wp2_with fail
  replace r1 := r1.below q6
  replace hb := chain hb q6
  refine (d4 _ hb).mono ?_
  rintro e w7 ⟨rfl, q7⟩
  replace hS5 := hS5.below q7
  replace r1 := r1.below q7
  replace hb := chain hb q7
  clear d4 q7 q6
  have hS7 : OB (w7.alloc (.cells #[.int .i64 rc, .int .i64 rq] 29)) w7.heap.size rc rq := heap_alloc_new w7 _
  have q8 : Below w7.heap.size w7 (w7.alloc (.cells #[.int .i64 rc, .int .i64 rq] 29)) := (Below.refl _ w7).alloc (Nat.le_refl _) _
  go_wp2_with fail
  replace r1 := r1.below q8
  replace hb := chain hb q8
  replace hS5 := hS5.below q8
  refine (d1 _ hb).mono ?_
  rintro e w9 ⟨rfl, q9⟩
  replace r1 := r1.below q9
  replace hb := chain hb q9
  replace hS5 := hS5.below q9
  replace hS7 := hS7.below q9
  clear d1 q9 q8
  go_wp2_with fail
  refine (d2 _ hb).mono ?_
  rintro e w10 ⟨rfl, q9⟩
  replace r1 := r1.below q9
  replace hb := chain hb q9
  replace hS5 := hS5.below q9
  replace hS7 := hS7.below q9
  clear d2 q9
  go_wp2_with fail
  refine (d3 _ hb).mono ?_
  rintro e w11 ⟨rfl, q9⟩
  replace r1 := r1.below q9
  replace hb := chain hb q9
  replace hS5 := hS5.below q9
  replace hS7 := hS7.below q9
  clear d3 q9
  obtain ⟨x0, x1, -, -⟩ := hS5.facts
  obtain ⟨y0, y1, -, -⟩ := hS7.facts
  go_wp2_with fail
  clear x0 x1 y0 y1 hS5 hS7
  refine (c5 _ _ hb r1).mono ?_
  rintro e w12 ⟨rfl, q9⟩
  replace hb := chain hb q9
  clear c5 q9 r1
  go_wp2_with fail
  refine (cL _ hb).mono ?_
  rintro e w13 ⟨rfl, q9⟩
  go_wp2_with fail
  go_ret
  exact ⟨rfl, chain hb q9⟩

theorem own : ownKnob Tryd.prog.godebug = none := by kernel_rfl
theorem laidOut : laidOutB Tryd.prog = true := by kernel_rfl

set_option maxRecDepth 20000 in
theorem contract (H : Type) (enc : TypeId × Value → H) (W : World) (base : Nat) (args : Array Value) (ds gs : List (DataW H)) (before : List MemPlace)
    (hval : ∀ (j : Nat) t v, Tryd.f3.params[j]? = some t → args[j]? = some v → Value.okWide Tryd.prog W .any base t v)
    (hW : DataW.Whole enc Tryd.prog Tryd.f3.params.toList Rows.docChecksSpec.vars false W args.toList ds gs before) (hk : Rows.uptoSmall H (ds ++ gs) = true) (hL : laidMetH Tryd.prog Rows.docChecksUptoRow.laid W) :
    Calls Tryd.prog 3 args W fun e W' => ∃ v, e = .returned v ∧ Rows.docChecksSpec.post enc Tryd.prog Tryd.f3 false true false false W args v W' := by
  have hW' := hW
  obtain ⟨p, q, hA0, hV, rfl, hfz, hnd⟩ := hW
  have hA : DataW.TrodAll enc Tryd.prog W 0 (fun _ => true) true Tryd.f3.params.toList args.toList ds p := hA0
  rw [Tryd.params3] at hA hval
  obtain ⟨v0, vs0, d0, ds0, p0, q0, hargs, rfl, rfl, h0, r0⟩ := trodAll_cons hA
  obtain ⟨v1, vs1, d1, ds1, p1, q1, rfl, rfl, rfl, h1, r1⟩ := trodAll_cons r0
  obtain ⟨rfl, rfl, rfl⟩ := trodAll_nil r1
  obtain rfl : args = #[v0, v1] := by cases args; simp_all
  obtain ⟨rfl, rfl⟩ := trodVars_none hV
  have k0 := h0
  have lt0 : ∀ x ∈ p0, x.block < W.heap.size := by obtain ⟨m, hm⟩ := k0; exact DataW.trod_lt m _ _ _ hm
  have k1 := h1
  have lt1 : ∀ x ∈ p1, x.block < W.heap.size := by obtain ⟨m, hm⟩ := k1; exact DataW.trod_lt m _ _ _ hm
  have b0 : Rows.uptoBulk d0 ≤ 1048576 := up_mem hk (by simp)
  obtain ⟨a0, len0, cap0, rfl⟩ := okWide_slice Tryd.underlying22 (hval 0 22 v0 rfl rfl)
  obtain ⟨fuel0, hf0⟩ := h0
  obtain ⟨l0, rd0, ln0, ok0⟩ := open_rnu hf0 b0
  obtain ⟨a1, rfl, rfl, rfl, w1⟩ := open_int Tryd.underlying3 (hval 1 3 v1 rfl rfl) h1
  clear hA0
  simp only [List.append_nil] at hW'
  refine (walk (.slice a0 len0 cap0) l0 a1 W (vs_of (tabs_of hL)) rd0 ln0 ok0 (wf_bd w1).1 (wf_bd w1).2).mono fun e W' ⟨he, bel⟩ => ?_
  subst he
  exact ⟨_, rfl, _, _, _, [], _, [], hW', trodAll_mk1 (shut_bool Tryd.underlying4 _), (trodAll_cons_mk (Below.trod laidOut (by kernel_rfl) (of_decide_eq_true (by kernel_rfl)) k0 bel lt0) (trodAll_cons_mk (Below.trod laidOut (by kernel_rfl) (of_decide_eq_true (by kernel_rfl)) k1 bel lt1) trodAll_mk0)), rfl, bel.frame _, fun h => by cases h⟩

set_option maxRecDepth 100000 in
theorem laid_met (os : Os) : laidMet Tryd.prog Rows.docChecksUptoRow.laid ((laidWorld os).forCall (fun _ _ => 0) ⟨#[], #[.slice none 0 0, .int .i64 0], []⟩).memory :=
  (LaidIn.of_run (l := Rows.docChecksUptoRow.laid) [1, 0] 8 (by kernel_rfl) (by kernel_rfl) (by kernel_rfl) (by kernel_rfl)).met
theorem reads (os : Os) {H : Type} (enc : TypeId × Value → H) : ∃ places, DataW.whole enc Tryd.prog ((laidWorld os).forCall (fun _ _ => 0) ⟨#[], #[.slice none 0 0, .int .i64 0], []⟩).memory Tryd.f3.params.toList Rows.docChecksSpec.vars false (#[.slice none 0 0, .int .i64 0] : Array Value).toList 8 = some ([.nil, .lit (.int .i64 0)], [], places) :=
  ⟨[], by kernel_rfl⟩
set_option maxRecDepth 100000 in
theorem lifted (os : Os) (started : os.Started) (H : Type) (enc : TypeId × Value → H) (F : Stop.Interp) :
    ReturnsInHanded {} Tryd.checked os 3 .any ((Rows.OpenSpec.upto Rows.docChecksSpec).preRow enc Tryd.prog Tryd.f3 Rows.docChecksUptoRow.domain false Rows.docChecksUptoRow.laid) (((Rows.OpenSpec.upto Rows.docChecksSpec).at F).post enc Tryd.prog Tryd.f3 false true false false) := by
  obtain ⟨places, hx⟩ := reads os enc
  refine returnsInHanded_of_row (C := Tryd.checked) (s := Rows.OpenSpec.upto Rows.docChecksSpec) own started (by kernel_rfl) Tryd.func3
    (witness_row_atRef (enc := enc) (C := Tryd.checked) false (laidWorld os) #[.slice none 0 0, .int .i64 0] rfl (by kernel_rfl) (by kernel_rfl) (by kernel_rfl)
      (OpenSpec.preRow_of_cond 8 hx (by kernel_rfl) (fun k hk => by cases hk; kernel_rfl) (by kernel_rfl) (laid_met os))) ?_
  intro W base args ds gs before hval hW _ hcond _ hL _ _
  exact contract H enc W base args ds gs before hval hW (hcond _ rfl) hL

theorem holds : Rows.DocChecksUptoSaid :=
  OpenClaim.holds_of_cond 3 Tryd.f3 rfl rfl rfl rfl rfl rfl rfl ⟨rfl, rfl, rfl, rfl, rfl⟩ rfl rfl rfl rfl rfl (by kernel_rfl) Tryd.func3 (by kernel_rfl)
    (of_decide_eq_true (by kernel_rfl)) (by unfold Func.isWrapper; first | (rw [if_pos (by decide +kernel)]; kernel_rfl) | (rw [if_neg (by decide +kernel)]; exact ⟨rfl, rfl⟩))
    (fun os started H enc _ F => by rw [OpenClaim.pre_eq_preRow]; exact lifted os started H enc F)
theorem plain (f : FuncId) (fn : Func) (hf : Tryd.pinned.checked.prog.funcNamed "oxbow/oxbowlaw12.DocChecks" = some f) (hfn : Tryd.pinned.checked.prog.funcs[f]? = some fn) :
    true = Tryd.pinned.checked.prog.looks [] ∧ ∀ (j : Nat) t, fn.params[j]? = some t → Tryd.pinned.checked.prog.wantsStandIn t = false := by
  obtain rfl : f = 3 := Option.some.inj ((show Tryd.prog.funcNamed "oxbow/oxbowlaw12.DocChecks" = some 3 by kernel_rfl).symm.trans hf) |>.symm
  obtain rfl : fn = Tryd.f3 := (Option.some.inj (Tryd.func3.symm.trans hfn)).symm
  refine ⟨by kernel_rfl, fun j t ht => ?_⟩
  rw [Tryd.params3] at ht
  have hm := Array.mem_of_getElem? ht
  have h2 : t = 22 ∨ t = 3 := by simpa using hm
  rcases h2 with rfl | rfl
  · exact (show Tryd.prog.wantsStandIn 22 = false by kernel_rfl)
  · exact (show Tryd.prog.wantsStandIn 3 = false by kernel_rfl)
theorem card : Rows.DocChecksUptoCardSaid :=
  Claim7.holds_tied_plain_at .later [] _ _ _ _ holds (fun _ h => by cases h) (by kernel_rfl) (fun _ h => by cases h) docChecksUpto_row_tie rfl ⟨rfl, rfl⟩ (by kernel_rfl) rfl plain (by kernel_rfl)
end Go.Proofs.YtnfnacjadmhclaaDoor.docChecks
namespace Go.Proofs.YtnfnacjadmhclaaDoor
theorem docChecks_holds : Rows.DocChecksUptoCardSaid := docChecks.card
#print axioms docChecks_holds
end Go.Proofs.YtnfnacjadmhclaaDoor
