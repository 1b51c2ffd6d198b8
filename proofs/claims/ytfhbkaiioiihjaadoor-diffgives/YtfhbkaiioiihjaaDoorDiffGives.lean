/-
  Proved: the delta gives just the other text, and keeps just as much as both have in common (the law DiffGives), for every input.
-/
import Derived.Test.YtfhbkaiioiihjaaDoorDiW
import Derived.Test.YtfhbkaiioiihjaaDoorDiG
import Derived.ChangeOld
import Derived.ShutString
namespace Go.Proofs.YtfhbkaiioiihjaaDoor.diffGives
open Go.RowKit Go.ChangeShapes Go.WideShapes Go.ChangeAt Go.PlainAid
open Go.ChangeMaps (open_string shut_string)

set_option maxRecDepth 20000 in
set_option maxHeartbeats 1000000 in
theorem walk (a b : ByteArray) (w : World) (hV : VS w) (ha0 : a.size ≤ maxLen) (ha1 : a.size ≤ 140737488351232) (_ : b.size ≤ maxLen) (hb1 : b.size ≤ 140737488351232) :
    Calls Tryd.prog 4 #[.string a, .string b] w fun e w' => e = .returned (.bool true) ∧ Below w.heap.size w w' := by
  have c1 := diff_any a b w hV (by omega) (by omega)
  have cL := fun W h => live11_any W (hV.below h)
  by_cases h : ptE a b = 0
  · obtain ⟨g1, g2, g3, g4, g5, g6, g7⟩ := gives h
    have kk := (kp_chk g4 g2).2
    have c2 := fun v W q => apply_any a v (diR a b).1 W ha0 q (by unfold maxLen; omega) g4
    have c3 := fun W q => common_any a b W (hV.below q) (by omega) (by omega)
    have c4 := fun W q => common_any b a W (hV.below q) (by omega) (by omega)
    have c5 := fun v W q => normal_any v (diR a b).1 W q (by unfold maxLen; omega) g4
    have c6 := fun v W q => kept_any v (diR a b).1 W q (by omega) kk
    have c7 := fun u v W q1 q2 => same_true u v (diR a b).1 W (by unfold maxLen; omega) q1 q2
    rw [g1] at c1
    rw [g6] at c2
    rw [if_pos h, h] at c3
    rw [if_pos (ptE_comm h), ptE_comm h, lc_comm] at c4
    rw [g2, g3] at c5
    rw [g7] at c6
    have hle := lc_le (pts a) (pts b)
    clear g1 g2 g3 g4 g6 g7 kk h
    generalize lc (pts a) (pts b) = n at *
    generalize (diR a b).1 = D at *
    go_enter Tryd.func4, Tryd.ntmps4
    go_wp2_with fail
    refine c1.mono ?_
    rintro e w1 ⟨u1, rfl, ho1, hb⟩
    have r1 := rdd_own ho1
    clear c1 ho1
    go_wp2_with fail
    refine (c2 _ _ r1).mono ?_
    rintro e w2 ⟨rfl, q2⟩
    have r1 := r1.below q2
    have hb := chain hb q2
    clear c2 q2
    go_wp2_with fail
    refine (c3 _ hb).mono ?_
    rintro e w3 ⟨rfl, q3⟩
    have r1 := r1.below q3
    have hb := chain hb q3
    clear c3 q3
    go_wp2_with fail
    refine (c4 _ hb).mono ?_
    rintro e w4 ⟨rfl, q4⟩
    have r1 := r1.below q4
    have hb := chain hb q4
    clear c4 q4
    go_wp2_with fail
    refine (c5 _ _ r1).mono ?_
    rintro e w5 ⟨u5, rfl, ho5, q5⟩
    have r5 := rdd_own ho5
    have r1 := r1.below q5
    have hb := chain hb q5
    clear c5 q5 ho5
    go_wp2_with fail
    refine (c6 _ _ r1).mono ?_
    rintro e w6 ⟨rfl, rfl⟩
    clear c6
    go_wp2_with fail
    refine (c7 _ _ _ r5 r1).mono ?_
    rintro e w7 ⟨rfl, q7⟩
    have hb := chain hb q7
    clear c7 q7 r5 r1
    go_wp2_with fail
    refine (cL _ hb).mono ?_
    rintro e w9 ⟨rfl, hb9⟩
    go_wp2_with fail
    go_ret
    exact ⟨rfl, chain hb hb9⟩
  · rw [diR_no h] at c1
    have h' : (ptE a b != 0) = true := by simpa using h
    generalize ptE a b = x at *
    go_enter Tryd.func4, Tryd.ntmps4
    go_wp2_with fail
    refine c1.mono ?_
    rintro e w1 ⟨u1, rfl, ho1, hb⟩
    obtain ⟨ao, cp, rfl⟩ := own_form ho1
    clear c1 ho1
    go_wp2_with fail
    refine (cL _ hb).mono ?_
    rintro e w9 ⟨rfl, hb9⟩
    go_wp2_with fail
    go_ret
    exact ⟨rfl, chain hb hb9⟩

theorem own : ownKnob Tryd.prog.godebug = none := by kernel_rfl
theorem laidOut : laidOutB Tryd.prog = true := by kernel_rfl

set_option maxRecDepth 20000 in
theorem contract (H : Type) (enc : TypeId × Value → H) (W : World) (base : Nat) (args : Array Value) (ds gs : List (DataW H)) (before : List MemPlace)
    (hval : ∀ (j : Nat) t v, Tryd.f4.params[j]? = some t → args[j]? = some v → Value.okWide Tryd.prog W .any base t v)
    (hW : DataW.Whole enc Tryd.prog Tryd.f4.params.toList Rows.diffGivesSpec.vars false W args.toList ds gs before) (hsz0 : (DataW.weightsEach Tryd.prog (Tryd.f4.params.toList ++ Rows.diffGivesSpec.plain.varTypes Tryd.prog) (ds ++ gs)).all (· ≤ reachBytes) = true) (hL : laidMetH Tryd.prog Rows.diffGivesRow.laid W) :
    Calls Tryd.prog 4 args W fun e W' => ∃ v, e = .returned v ∧ Rows.diffGivesSpec.post enc Tryd.prog Tryd.f4 false true false false W args v W' := by
  have hW' := hW
  obtain ⟨p, q, hA0, hV, rfl, hfz, hnd⟩ := hW
  have hA : DataW.TrodAll enc Tryd.prog W 0 (fun _ => true) true Tryd.f4.params.toList args.toList ds p := hA0
  rw [Tryd.params4] at hA hval hsz0
  obtain ⟨v0, vs0, d0, ds0, p0, q0, hargs, rfl, rfl, h0, r0⟩ := trodAll_cons hA
  obtain ⟨v1, vs1, d1, ds1, p1, q1, rfl, rfl, rfl, h1, r1⟩ := trodAll_cons r0
  obtain ⟨rfl, rfl, rfl⟩ := trodAll_nil r1
  obtain rfl : args = #[v0, v1] := by cases args; simp_all
  obtain ⟨rfl, rfl⟩ := trodVars_none hV
  have k0 := h0
  have lt0 : ∀ x ∈ p0, x.block < W.heap.size := by obtain ⟨m, hm⟩ := k0; exact DataW.trod_lt m _ _ _ hm
  have k1 := h1
  have lt1 : ∀ x ∈ p1, x.block < W.heap.size := by obtain ⟨m, hm⟩ := k1; exact DataW.trod_lt m _ _ _ hm
  obtain ⟨a0, rfl, rfl, rfl, w0⟩ := open_string Tryd.underlying9 (hval 0 9 v0 rfl rfl) h0
  have z0 := sized_string hsz0 (j := 0) (t := 9) rfl rfl
  obtain ⟨a1, rfl, rfl, rfl, w1⟩ := open_string Tryd.underlying9 (hval 1 9 v1 rfl rfl) h1
  have z1 := sized_string hsz0 (j := 1) (t := 9) rfl rfl
  clear hA0
  simp only [List.append_nil] at hW'
  refine (walk a0 a1 W (vs_of (tabs_of hL)) w0 (by simpa [reachBytes] using z0) w1 (by simpa [reachBytes] using z1)).mono fun e W' ⟨he, bel⟩ => ?_
  subst he
  exact ⟨_, rfl, _, _, _, [], _, [], hW', trodAll_mk1 (shut_bool Tryd.underlying4 _), (trodAll_cons_mk (Below.trod laidOut (by kernel_rfl) (of_decide_eq_true (by kernel_rfl)) k0 bel lt0) (trodAll_cons_mk (Below.trod laidOut (by kernel_rfl) (of_decide_eq_true (by kernel_rfl)) k1 bel lt1) trodAll_mk0)), rfl, bel.frame _, fun h => by cases h⟩

set_option maxRecDepth 100000 in
theorem laid_met (os : Os) : laidMet Tryd.prog Rows.diffGivesRow.laid ((laidWorld os).forCall (fun _ _ => 0) ⟨#[], #[.string ⟨#[]⟩, .string ⟨#[]⟩], []⟩).memory :=
  (LaidIn.of_run (l := Rows.diffGivesRow.laid) [1, 0] 8 (by kernel_rfl) (by kernel_rfl) (by kernel_rfl) (by kernel_rfl)).met
theorem reads (os : Os) {H : Type} (enc : TypeId × Value → H) : ∃ places, DataW.whole enc Tryd.prog ((laidWorld os).forCall (fun _ _ => 0) ⟨#[], #[.string ⟨#[]⟩, .string ⟨#[]⟩], []⟩).memory Tryd.f4.params.toList Rows.diffGivesSpec.vars false (#[.string ⟨#[]⟩, .string ⟨#[]⟩] : Array Value).toList 8 = some ([.lit (.string []), .lit (.string [])], [], places) :=
  ⟨[], by kernel_rfl⟩
set_option maxRecDepth 100000 in
theorem lifted (os : Os) (started : os.Started) (H : Type) (enc : TypeId × Value → H) (F : Stop.Interp) :
    ReturnsInHanded {} Tryd.checked os 4 .any ((OpenSpec.ofChange Rows.diffGivesSpec).preRow enc Tryd.prog Tryd.f4 Rows.diffGivesRow.domain false Rows.diffGivesRow.laid) (((OpenSpec.ofChange Rows.diffGivesSpec).at F).post enc Tryd.prog Tryd.f4 false true false false) := by
  obtain ⟨places, hx⟩ := reads os enc
  refine returnsInHanded_of_row (C := Tryd.checked) (s := OpenSpec.ofChange Rows.diffGivesSpec) own started (by kernel_rfl) Tryd.func4
    (witness_row_atRef (enc := enc) (C := Tryd.checked) false (laidWorld os) #[.string ⟨#[]⟩, .string ⟨#[]⟩] rfl (by kernel_rfl) (by kernel_rfl) (by kernel_rfl)
      (OpenSpec.preRow_of_cond 8 hx (by kernel_rfl) (fun k hk => by cases hk) (by kernel_rfl) (laid_met os))) ?_
  intro W base args ds gs before hval hW _ _ hsz hL _ _
  exact contract H enc W base args ds gs before hval hW hsz hL

theorem holds : Rows.DiffGivesSaid :=
  OpenClaim.holds_of_cond 4 Tryd.f4 rfl rfl rfl rfl rfl rfl rfl ⟨rfl, rfl, rfl, rfl, rfl⟩ rfl rfl rfl rfl rfl (by kernel_rfl) Tryd.func4 (by kernel_rfl)
    (of_decide_eq_true (by kernel_rfl)) (by unfold Func.isWrapper; first | (rw [if_pos (by decide +kernel)]; kernel_rfl) | (rw [if_neg (by decide +kernel)]; exact ⟨rfl, rfl⟩))
    (fun os started H enc _ F => by rw [OpenClaim.pre_eq_preRow]; exact lifted os started H enc F)
theorem plain (f : FuncId) (fn : Func) (hf : Tryd.pinned.checked.prog.funcNamed "oxbow/oxbowlaw11.DiffGives" = some f) (hfn : Tryd.pinned.checked.prog.funcs[f]? = some fn) :
    true = Tryd.pinned.checked.prog.looks [] ∧ ∀ (j : Nat) t, fn.params[j]? = some t → Tryd.pinned.checked.prog.wantsStandIn t = false := by
  obtain rfl : f = 4 := Option.some.inj ((show Tryd.prog.funcNamed "oxbow/oxbowlaw11.DiffGives" = some 4 by kernel_rfl).symm.trans hf) |>.symm
  obtain rfl : fn = Tryd.f4 := (Option.some.inj (Tryd.func4.symm.trans hfn)).symm
  refine ⟨by kernel_rfl, fun j t ht => ?_⟩
  rw [Tryd.params4] at ht
  have hm := Array.mem_of_getElem? ht
  obtain rfl : t = 9 := by simpa using hm
  exact (show Tryd.prog.wantsStandIn 9 = false by kernel_rfl)
theorem card : Rows.DiffGivesCardSaid :=
  Claim7.holds_tied_plain_at .later [] _ _ _ _ holds (fun _ h => by cases h) (by kernel_rfl) (fun _ h => by cases h) diffGives_row_tie rfl ⟨rfl, rfl⟩ (by kernel_rfl) rfl plain (by kernel_rfl)
end Go.Proofs.YtfhbkaiioiihjaaDoor.diffGives
namespace Go.Proofs.YtfhbkaiioiihjaaDoor
theorem diffGives_holds : Rows.DiffGivesCardSaid := diffGives.card
#print axioms diffGives_holds
end Go.Proofs.YtfhbkaiioiihjaaDoor
