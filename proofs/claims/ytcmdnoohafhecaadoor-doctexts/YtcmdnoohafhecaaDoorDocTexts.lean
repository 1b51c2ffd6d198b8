/-
  Proved: the text of a document behind a delta is what the delta makes of its text, and it may be (the law DocTexts), for every input.
-/
import Derived.Test.YtcmdnoohafhecaaDoorDpI
import Derived.Test.YtcmdnoohafhecaaDoorDpJ
import Derived.ChangeOld
namespace Go.Proofs.YtcmdnoohafhecaaDoor.docTexts
open Go.RowKit Go.ChangeShapes Go.WideShapes Go.ChangeAt Go.PlainAid

set_option maxRecDepth 20000 in
set_option maxHeartbeats 1000000 in
theorem walk (v : Value) (l : List RunD) (vd : Value) (ds : List OpD) (c q : Int) (w : World) (hV : VS w) (hr : RdN w v l) (hm : l.length ≤ 4398046511104) (hi : ∀ r ∈ l, r.Bd ∧ r.In) (hd : RdD w vd ds) (hm2 : ds.length ≤ 4398046511104) (hi2 : ∀ o ∈ ds, o.In ∧ o.Ok)
    (_ : -9223372036854775808 ≤ c ∧ c ≤ 9223372036854775807) (_ : -9223372036854775808 ≤ q ∧ q ≤ 9223372036854775807) :
    Calls Tryd.prog 7 #[v, vd, .agg #[.int .i64 c, .int .i64 q]] w fun e w' => e = .returned (.bool true) ∧ Below w.heap.size w w' := by
  have hiR : ∀ r ∈ l, r.In := fun r h => (hi r h).2
  have hiO : ∀ o ∈ ds, o.In := fun o h => (hi2 o h).1
  have hA0 : Below w.heap.size w (w.alloc (.cells #[.int .i64 c, .int .i64 q] 29)) := (Below.refl _ w).alloc (Nat.le_refl _) _
  obtain ⟨p0, p1, -, -⟩ := OB.facts (W := w.alloc (.cells #[.int .i64 c, .int .i64 q] 29)) (b := w.heap.size) (c := c) (q := q) (heap_alloc_new w _)
  have c1 := docApply_any v vd l ds c q _ (hV.below hA0) (hr.below hA0) (by omega) hiR (hd.below hA0) (by unfold maxLen; omega) hiO
  have cL := fun W h => live12_any W (hV.below h)
  obtain ⟨ao, cp, hv, -⟩ := id hr
  subst hv
  obtain ⟨ao2, cp2, hv2, -⟩ := id hd
  subst hv2
  by_cases h : dcE l ds c q = 0
  · obtain ⟨-, hGM, hap⟩ := dc_facts hiO h
    obtain ⟨hG, -⟩ := dc_ok h
    have hbd := hG.bound
    have hbM := hGM.bound
    have c2 : ∀ W, Below w.heap.size w W → _ := fun W hb => docText_any (.slice ao l.length cp) l W (hr.below hb) (by omega) (by omega)
    have c3 : ∀ W, Below w.heap.size w W → _ := fun W hb => apply_any (mk (txB l)) (.slice ao2 ds.length cp2) ds W (by rw [mk_size]; unfold maxLen; omega) (hd.below hb) (by unfold maxLen; omega) hiO
    have c4 := fun u W (hu : RdN W u (dcL l ds c q)) => docText_any u (dcL l ds c q) W hu (by omega) (by omega)
    have c5 := fun u W (hb : Below w.heap.size w W) (hu : RdN W u (dcL l ds c q)) => check_any u (dcL l ds c q) W (hV.below hb) hu (by omega) (fun r hr => (hGM.fit r hr).sz)
    rw [hap] at c3
    rw [h] at c1
    rw [ckR_zero.2 hGM] at c5
    clear h hap hGM hG hr hd hi hiR hiO hi2
    generalize dcL l ds c q = M at *
    generalize mk (txB M) = T at *
    generalize mk (txB l) = T0 at *
    go_enter Tryd.func7, Tryd.ntmps7
    go_wp2_with fail
    refine c1.mono ?_
    rintro e w1 ⟨u1, rfl, ho1, hb⟩
    have r1 := rdn_own ho1
    obtain ⟨a1, k1, rfl⟩ := own_form ho1
    have hb := chain hA0 hb
    clear c1 ho1 hA0
    go_wp2_with fail
    refine (c2 _ hb).mono ?_
    rintro e w2 ⟨rfl, q2⟩
    have r1 := r1.below q2
    have hb := chain hb q2
    clear c2 q2
    go_wp2_with fail
    refine (c3 _ hb).mono ?_
    rintro e w3 ⟨rfl, q3⟩
    have r1 := r1.below q3
    have hb := chain hb q3
    clear c3 q3
    go_wp2_with fail
    refine (c4 _ _ r1).mono ?_
    rintro e w4 ⟨rfl, q4⟩
    have r1 := r1.below q4
    have hb := chain hb q4
    clear c4 q4
    go_wp2_with fail
    refine (c5 _ _ hb r1).mono ?_
    rintro e w5 ⟨rfl, q5⟩
    have hb := chain hb q5
    clear c5 q5 r1
    go_wp2_with fail
    refine (cL _ hb).mono ?_
    rintro e w7 ⟨rfl, q7⟩
    go_wp2_with fail
    go_ret
    exact ⟨rfl, chain hb q7⟩
  · rw [dc_no h] at c1
    have h' : (dcE l ds c q != 0) = true := by simpa using h
    clear hr hd hi hiR hiO hi2 h
    generalize dcE l ds c q = E at *
    go_enter Tryd.func7, Tryd.ntmps7
    go_wp2_with fail
    refine c1.mono ?_
    rintro e w1 ⟨u1, rfl, ho1, hb⟩
    obtain ⟨a1, k1, hu1⟩ := own_form ho1
    obtain rfl : u1 = .slice a1 0 k1 := hu1
    have hb := chain hA0 hb
    clear c1 ho1 hA0
    go_wp2_with fail
    refine (cL _ hb).mono ?_
    rintro e w7 ⟨rfl, q7⟩
    go_wp2_with fail
    go_ret
    exact ⟨rfl, chain hb q7⟩

theorem own : ownKnob Tryd.prog.godebug = none := by kernel_rfl
theorem laidOut : laidOutB Tryd.prog = true := by kernel_rfl

set_option maxRecDepth 20000 in
theorem contract (H : Type) (enc : TypeId × Value → H) (W : World) (base : Nat) (args : Array Value) (ds gs : List (DataW H)) (before : List MemPlace)
    (hval : ∀ (j : Nat) t v, Tryd.f7.params[j]? = some t → args[j]? = some v → Value.okWide Tryd.prog W .any base t v)
    (hW : DataW.Whole enc Tryd.prog Tryd.f7.params.toList Rows.docTextsSpec.vars false W args.toList ds gs before) (hsz0 : (DataW.weightsEach Tryd.prog (Tryd.f7.params.toList ++ Rows.docTextsSpec.plain.varTypes Tryd.prog) (ds ++ gs)).all (· ≤ reachBytes) = true) (hL : laidMetH Tryd.prog Rows.docTextsRow.laid W) :
    Calls Tryd.prog 7 args W fun e W' => ∃ v, e = .returned v ∧ Rows.docTextsSpec.post enc Tryd.prog Tryd.f7 false true false false W args v W' := by
  have hW' := hW
  obtain ⟨p, q, hA0, hV, rfl, hfz, hnd⟩ := hW
  have hA : DataW.TrodAll enc Tryd.prog W 0 (fun _ => true) true Tryd.f7.params.toList args.toList ds p := hA0
  rw [Tryd.params7] at hA hval hsz0
  obtain ⟨v0, vs0, d0, ds0, p0, q0, hargs, rfl, rfl, h0, r0⟩ := trodAll_cons hA
  obtain ⟨v1, vs1, d1, ds1, p1, q1, rfl, rfl, rfl, h1, r1⟩ := trodAll_cons r0
  obtain ⟨v2, vs2, d2, ds2, p2, q2, rfl, rfl, rfl, h2, r2⟩ := trodAll_cons r1
  obtain ⟨rfl, rfl, rfl⟩ := trodAll_nil r2
  obtain rfl : args = #[v0, v1, v2] := by cases args; simp_all
  obtain ⟨rfl, rfl⟩ := trodVars_none hV
  have k0 := h0
  have lt0 : ∀ x ∈ p0, x.block < W.heap.size := by obtain ⟨m, hm⟩ := k0; exact DataW.trod_lt m _ _ _ hm
  have k1 := h1
  have lt1 : ∀ x ∈ p1, x.block < W.heap.size := by obtain ⟨m, hm⟩ := k1; exact DataW.trod_lt m _ _ _ hm
  have k2 := h2
  have lt2 : ∀ x ∈ p2, x.block < W.heap.size := by obtain ⟨m, hm⟩ := k2; exact DataW.trod_lt m _ _ _ hm
  obtain ⟨a0, len0, cap0, rfl⟩ := okWide_slice Tryd.underlying22 (hval 0 22 v0 rfl rfl)
  obtain ⟨fuel0, hf0⟩ := h0
  have z0 : ∀ n ∈ d0.weights Tryd.prog 22, n ≤ reachBytes := fun n hn => by simpa using List.all_eq_true.1 hsz0 n (DataW.weights_mem_each (j := 0) (t := 22) (d := d0) rfl rfl n hn)
  obtain ⟨l0, rd0, ln0, ok0⟩ := open_rnz hf0 z0
  obtain ⟨a1, len1, cap1, rfl⟩ := okWide_slice Tryd.underlying35 (hval 1 35 v1 rfl rfl)
  obtain ⟨fuel1, hf1⟩ := h1
  have z1 : ∀ n ∈ d1.weights Tryd.prog 35, n ≤ reachBytes := fun n hn => by simpa using List.all_eq_true.1 hsz0 n (DataW.weights_mem_each (j := 1) (t := 35) (d := d1) rfl rfl n hn)
  obtain ⟨l1, rd1, ln1, ok1⟩ := open_dlz hf1 z1
  obtain ⟨fuel2, hf2⟩ := h2
  obtain ⟨c2, s2, hc2, bc2, bs2⟩ := open_or hf2
  obtain rfl := or_val hc2
  clear hA0
  simp only [List.append_nil] at hW'
  refine (walk (.slice a0 len0 cap0) l0 (.slice a1 len1 cap1) l1 c2 s2 W (vs_of (tabs_of hL)) rd0 ln0 ok0 rd1 ln1 ok1 bc2 bs2).mono fun e W' ⟨he, bel⟩ => ?_
  subst he
  exact ⟨_, rfl, _, _, _, [], _, [], hW', trodAll_mk1 (shut_bool Tryd.underlying4 _), (trodAll_cons_mk (Below.trod laidOut (by kernel_rfl) (of_decide_eq_true (by kernel_rfl)) k0 bel lt0) (trodAll_cons_mk (Below.trod laidOut (by kernel_rfl) (of_decide_eq_true (by kernel_rfl)) k1 bel lt1) (trodAll_cons_mk (Below.trod laidOut (by kernel_rfl) (of_decide_eq_true (by kernel_rfl)) k2 bel lt2) trodAll_mk0))), rfl, bel.frame _, fun h => by cases h⟩

set_option maxRecDepth 100000 in
theorem laid_met (os : Os) : laidMet Tryd.prog Rows.docTextsRow.laid ((laidWorld os).forCall (fun _ _ => 0) ⟨#[], #[.slice none 0 0, .slice none 0 0, .agg #[.int .i64 0, .int .i64 0]], []⟩).memory :=
  (LaidIn.of_run (l := Rows.docTextsRow.laid) [1, 0] 8 (by kernel_rfl) (by kernel_rfl) (by kernel_rfl) (by kernel_rfl)).met
theorem reads (os : Os) {H : Type} (enc : TypeId × Value → H) : ∃ places, DataW.whole enc Tryd.prog ((laidWorld os).forCall (fun _ _ => 0) ⟨#[], #[.slice none 0 0, .slice none 0 0, .agg #[.int .i64 0, .int .i64 0]], []⟩).memory Tryd.f7.params.toList Rows.docTextsSpec.vars false (#[.slice none 0 0, .slice none 0 0, .agg #[.int .i64 0, .int .i64 0]] : Array Value).toList 8 = some ([.nil, .nil, .agg [.lit (.int .i64 0), .lit (.int .i64 0)]], [], places) :=
  ⟨[], by kernel_rfl⟩
set_option maxRecDepth 100000 in
theorem lifted (os : Os) (started : os.Started) (H : Type) (enc : TypeId × Value → H) (F : Stop.Interp) :
    ReturnsInHanded {} Tryd.checked os 7 .any ((OpenSpec.ofChange Rows.docTextsSpec).preRow enc Tryd.prog Tryd.f7 Rows.docTextsRow.domain false Rows.docTextsRow.laid) (((OpenSpec.ofChange Rows.docTextsSpec).at F).post enc Tryd.prog Tryd.f7 false true false false) := by
  obtain ⟨places, hx⟩ := reads os enc
  refine returnsInHanded_of_row (C := Tryd.checked) (s := OpenSpec.ofChange Rows.docTextsSpec) own started (by kernel_rfl) Tryd.func7
    (witness_row_atRef (enc := enc) (C := Tryd.checked) false (laidWorld os) #[.slice none 0 0, .slice none 0 0, .agg #[.int .i64 0, .int .i64 0]] rfl (by kernel_rfl) (by kernel_rfl) (by kernel_rfl)
      (OpenSpec.preRow_of_cond 8 hx (by kernel_rfl) (fun k hk => by cases hk) (by kernel_rfl) (laid_met os))) ?_
  intro W base args ds gs before hval hW _ _ hsz hL _ _
  exact contract H enc W base args ds gs before hval hW hsz hL

theorem holds : Rows.DocTextsSaid :=
  OpenClaim.holds_of_cond 7 Tryd.f7 rfl rfl rfl rfl rfl rfl rfl ⟨rfl, rfl, rfl, rfl, rfl⟩ rfl rfl rfl rfl rfl (by kernel_rfl) Tryd.func7 (by kernel_rfl)
    (of_decide_eq_true (by kernel_rfl)) (by unfold Func.isWrapper; first | (rw [if_pos (by decide +kernel)]; kernel_rfl) | (rw [if_neg (by decide +kernel)]; exact ⟨rfl, rfl⟩))
    (fun os started H enc _ F => by rw [OpenClaim.pre_eq_preRow]; exact lifted os started H enc F)
theorem plain (f : FuncId) (fn : Func) (hf : Tryd.pinned.checked.prog.funcNamed "oxbow/oxbowlaw12.DocTexts" = some f) (hfn : Tryd.pinned.checked.prog.funcs[f]? = some fn) :
    true = Tryd.pinned.checked.prog.looks [] ∧ ∀ (j : Nat) t, fn.params[j]? = some t → Tryd.pinned.checked.prog.wantsStandIn t = false := by
  obtain rfl : f = 7 := Option.some.inj ((show Tryd.prog.funcNamed "oxbow/oxbowlaw12.DocTexts" = some 7 by kernel_rfl).symm.trans hf) |>.symm
  obtain rfl : fn = Tryd.f7 := (Option.some.inj (Tryd.func7.symm.trans hfn)).symm
  refine ⟨by kernel_rfl, fun j t ht => ?_⟩
  rw [Tryd.params7] at ht
  have hm := Array.mem_of_getElem? ht
  have h2 : t = 22 ∨ t = 35 ∨ t = 29 := by simpa using hm
  rcases h2 with rfl | rfl | rfl
  · exact (show Tryd.prog.wantsStandIn 22 = false by kernel_rfl)
  · exact (show Tryd.prog.wantsStandIn 35 = false by kernel_rfl)
  · exact (show Tryd.prog.wantsStandIn 29 = false by kernel_rfl)
theorem card : Rows.DocTextsCardSaid :=
  Claim7.holds_tied_plain_at .later [] _ _ _ _ holds (fun _ h => by cases h) (by kernel_rfl) (fun _ h => by cases h) docTexts_row_tie rfl ⟨rfl, rfl⟩ (by kernel_rfl) rfl plain (by kernel_rfl)
end Go.Proofs.YtcmdnoohafhecaaDoor.docTexts
namespace Go.Proofs.YtcmdnoohafhecaaDoor
theorem docTexts_holds : Rows.DocTextsCardSaid := docTexts.card
#print axioms docTexts_holds
end Go.Proofs.YtcmdnoohafhecaaDoor
