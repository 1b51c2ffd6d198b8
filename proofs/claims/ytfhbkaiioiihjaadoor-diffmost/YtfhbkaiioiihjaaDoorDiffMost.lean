/-
  Proved: no delta from the one text to the other one keeps more than Diff's (the law DiffMost), for every input.
-/
import Derived.Test.YtfhbkaiioiihjaaDoorDiW
import Derived.Test.YtfhbkaiioiihjaaDoorDiG
import Derived.Test.YtfhbkaiioiihjaaDoorDlL
import Derived.ChangeOld
import Derived.ShutString
namespace Go.Proofs.YtfhbkaiioiihjaaDoor.diffMost
open Go.RowKit Go.ChangeShapes Go.WideShapes Go.ChangeAt Go.PlainAid
open Go.ChangeMaps (open_string shut_string)

theorem most {a : ByteArray} {D : List OpD} (hi : ∀ o ∈ D, o.In) (h : (apR a D).2 = 0) :
    ptE a (apR a D).1 = 0 ∧ 0 ≤ cpl (apR a D).1 ∧ cpl (apR a D).1 ≤ 1000 ∧ chk D = 0 ∧ D.length ≤ 3000 ∧ kpL D ≤ (lc (pts a) (pts (apR a D).1) : Int) ∧ 0 ≤ kpL D ∧ a.size ≤ 4000 := by
  rcases apR_cases hi (s := a) with ⟨g, _⟩ | ⟨_, c, hb, ht, _, hp⟩
  · exact absurd h g
  · have bd := stR_bd D
    have hk := (kp_chk hi c).1
    have hl := pts_len (t := a) (by omega)
    obtain ⟨q, q1, q2, q3⟩ := kU_le (pts a) (uw (stR D)) 0 (by rw [base_uw]; omega)
    have em := apRun_marks (stR D) (pts a) 0 (by omega)
    rw [← em, List.drop_zero] at q2
    rw [List.drop_zero] at q1
    rw [← hp] at q2
    have := lc_max _ _ q q1 q2
    refine ⟨by rw [ptE, if_pos ⟨by omega, by omega⟩, if_pos ⟨by omega, by omega⟩], by omega, by omega, c, (chk_any c).2, by rw [hk]; omega, by rw [hk]; omega, size_smallL (by omega) (by omega)⟩

set_option maxRecDepth 20000 in
set_option maxHeartbeats 1000000 in
theorem walk (a : ByteArray) (v : Value) (D : List OpD) (w : World) (hV : VS w) (ha0 : a.size ≤ maxLen) (_ : a.size ≤ 140737488351232) (hr : RdD w v D) (mD : D.length ≤ 4398046511104) (oD : ∀ o ∈ D, o.In ∧ o.Ok) :
    Calls Tryd.prog 5 #[.string a, v] w fun e w' => e = .returned (.bool true) ∧ Below w.heap.size w w' := by
  have hi : ∀ o ∈ D, o.In := fun o ho => (oD o ho).1
  have c1 := apply_any a v D w ha0 hr (by unfold maxLen; omega) hi
  have cL := fun W h => live11_any W (hV.below h)
  by_cases h : (apR a D).2 = 0
  · obtain ⟨m1, m2, m3, m4, m5, m6, m7, m8⟩ := most hi h
    have kk := (kp_chk hi m4).2
    obtain ⟨g1, g2, g3, g4, g5, g6, g7⟩ := gives m1
    have kg := (kp_chk g4 g2).2
    have sb := size_smallL m2 m3
    have c2 := fun W => refLen_any (apR a D).1 W (by omega)
    have c3 := fun W q => diff_any a (apR a D).1 W (hV.below q) (by omega) (by omega)
    have c4 := fun u W q => kept_any u (diR a (apR a D).1).1 W q (by omega) kg
    have c5 := fun W q => kept_any v D W q m5 kk
    rw [g1] at c3
    rw [g7] at c4
    rw [h] at c1
    clear g1 g2 g3 g4 g6 g7 kk kg h m1 m4 m5 m8 sb oD hi mD ha0
    generalize lc (pts a) (pts (apR a D).1) = n at *
    generalize (diR a (apR a D).1).1 = X at *
    generalize cpl (apR a D).1 = y at *
    generalize (apR a D).1 = b at *
    generalize kpL D = z at *
    have n1 : ¬ (1000 < y) := by omega
    go_enter Tryd.func5, Tryd.ntmps5
    go_wp2_with fail
    refine c1.mono ?_
    rintro e w1 ⟨rfl, hb⟩
    have hr := hr.below hb
    clear c1
    go_wp2_with fail
    refine (c2 _).mono ?_
    rintro e w2 ⟨rfl, q2⟩
    have hr := hr.below q2
    have hb := chain hb q2
    clear c2 q2
    go_wp2_with fail
    refine (c3 _ hb).mono ?_
    rintro e w3 ⟨u3, rfl, ho3, q3⟩
    have hr := hr.below q3
    have r3 := rdd_own ho3
    have hb := chain hb q3
    clear c3 q3 ho3
    go_wp2_with fail
    refine (c4 _ _ r3).mono ?_
    rintro e w4 ⟨rfl, rfl⟩
    clear c4
    go_wp2_with fail
    refine (c5 _ hr).mono ?_
    rintro e w5 ⟨rfl, rfl⟩
    clear c5 r3 hr
    go_wp2_with fail
    refine (cL _ hb).mono ?_
    rintro e w9 ⟨rfl, hb9⟩
    go_wp2_with fail
    go_ret
    exact ⟨rfl, chain hb hb9⟩
  · have h' : ((apR a D).2 != 0) = true := by simpa using h
    generalize apR a D = q at *
    clear oD hi mD ha0
    go_enter Tryd.func5, Tryd.ntmps5
    go_wp2_with fail
    refine c1.mono ?_
    rintro e w1 ⟨rfl, hb⟩
    clear c1
    go_wp2_with fail
    refine (cL _ hb).mono ?_
    rintro e w9 ⟨rfl, hb9⟩
    go_wp2_with fail
    go_ret
    exact ⟨rfl, chain hb hb9⟩

theorem own : ownKnob Tryd.prog.godebug = none := by kernel_rfl
theorem laidOut : laidOutB Tryd.prog = true := by kernel_rfl

set_option maxRecDepth 20000 in
theorem contract (H : Type) (enc : TypeId × Value → H) (W : World) (base : Nat) (args : Array Value) (ds gs : List (DataW H)) (before : List MemPlace)
    (hval : ∀ (j : Nat) t v, Tryd.f5.params[j]? = some t → args[j]? = some v → Value.okWide Tryd.prog W .any base t v)
    (hW : DataW.Whole enc Tryd.prog Tryd.f5.params.toList Rows.diffMostSpec.vars false W args.toList ds gs before) (hsz0 : (DataW.weightsEach Tryd.prog (Tryd.f5.params.toList ++ Rows.diffMostSpec.plain.varTypes Tryd.prog) (ds ++ gs)).all (· ≤ reachBytes) = true) (hL : laidMetH Tryd.prog Rows.diffMostRow.laid W) :
    Calls Tryd.prog 5 args W fun e W' => ∃ v, e = .returned v ∧ Rows.diffMostSpec.post enc Tryd.prog Tryd.f5 false true false false W args v W' := by
  have hW' := hW
  obtain ⟨p, q, hA0, hV, rfl, hfz, hnd⟩ := hW
  have hA : DataW.TrodAll enc Tryd.prog W 0 (fun _ => true) true Tryd.f5.params.toList args.toList ds p := hA0
  rw [Tryd.params5] at hA hval hsz0
  obtain ⟨v0, vs0, d0, ds0, p0, q0, hargs, rfl, rfl, h0, r0⟩ := trodAll_cons hA
  obtain ⟨v1, vs1, d1, ds1, p1, q1, rfl, rfl, rfl, h1, r1⟩ := trodAll_cons r0
  obtain ⟨rfl, rfl, rfl⟩ := trodAll_nil r1
  obtain rfl : args = #[v0, v1] := by cases args; simp_all
  obtain ⟨rfl, rfl⟩ := trodVars_none hV
  have k0 := h0
  have lt0 : ∀ x ∈ p0, x.block < W.heap.size := by obtain ⟨m, hm⟩ := k0; exact DataW.trod_lt m _ _ _ hm
  have k1 := h1
  have lt1 : ∀ x ∈ p1, x.block < W.heap.size := by obtain ⟨m, hm⟩ := k1; exact DataW.trod_lt m _ _ _ hm
  obtain ⟨a0, rfl, rfl, rfl, w0⟩ := open_string Tryd.underlying9 (hval 0 9 v0 rfl rfl) h0
  have z0 := sized_string hsz0 (j := 0) (t := 9) rfl rfl
  obtain ⟨a1, len1, cap1, rfl⟩ := okWide_slice Tryd.underlying22 (hval 1 22 v1 rfl rfl)
  obtain ⟨fuel1, hf1⟩ := h1
  have z1 : ∀ n ∈ d1.weights Tryd.prog 22, n ≤ reachBytes := fun n hn => by simpa using List.all_eq_true.1 hsz0 n (DataW.weights_mem_each (j := 1) (t := 22) (d := d1) rfl rfl n hn)
  obtain ⟨l1, rd1, ln1, ok1⟩ := open_dlz hf1 z1
  clear hA0
  simp only [List.append_nil] at hW'
  refine (walk a0 (.slice a1 len1 cap1) l1 W (vs_of (tabs_of hL)) w0 (by simpa [reachBytes] using z0) rd1 ln1 ok1).mono fun e W' ⟨he, bel⟩ => ?_
  subst he
  exact ⟨_, rfl, _, _, _, [], _, [], hW', trodAll_mk1 (shut_bool Tryd.underlying4 _), (trodAll_cons_mk (Below.trod laidOut (by kernel_rfl) (of_decide_eq_true (by kernel_rfl)) k0 bel lt0) (trodAll_cons_mk (Below.trod laidOut (by kernel_rfl) (of_decide_eq_true (by kernel_rfl)) k1 bel lt1) trodAll_mk0)), rfl, bel.frame _, fun h => by cases h⟩

set_option maxRecDepth 100000 in
theorem laid_met (os : Os) : laidMet Tryd.prog Rows.diffMostRow.laid ((laidWorld os).forCall (fun _ _ => 0) ⟨#[], #[.string ⟨#[]⟩, .slice none 0 0], []⟩).memory :=
  (LaidIn.of_run (l := Rows.diffMostRow.laid) [1, 0] 8 (by kernel_rfl) (by kernel_rfl) (by kernel_rfl) (by kernel_rfl)).met
theorem reads (os : Os) {H : Type} (enc : TypeId × Value → H) : ∃ places, DataW.whole enc Tryd.prog ((laidWorld os).forCall (fun _ _ => 0) ⟨#[], #[.string ⟨#[]⟩, .slice none 0 0], []⟩).memory Tryd.f5.params.toList Rows.diffMostSpec.vars false (#[.string ⟨#[]⟩, .slice none 0 0] : Array Value).toList 8 = some ([.lit (.string []), .nil], [], places) :=
  ⟨[], by kernel_rfl⟩
set_option maxRecDepth 100000 in
theorem lifted (os : Os) (started : os.Started) (H : Type) (enc : TypeId × Value → H) (F : Stop.Interp) :
    ReturnsInHanded {} Tryd.checked os 5 .any ((OpenSpec.ofChange Rows.diffMostSpec).preRow enc Tryd.prog Tryd.f5 Rows.diffMostRow.domain false Rows.diffMostRow.laid) (((OpenSpec.ofChange Rows.diffMostSpec).at F).post enc Tryd.prog Tryd.f5 false true false false) := by
  obtain ⟨places, hx⟩ := reads os enc
  refine returnsInHanded_of_row (C := Tryd.checked) (s := OpenSpec.ofChange Rows.diffMostSpec) own started (by kernel_rfl) Tryd.func5
    (witness_row_atRef (enc := enc) (C := Tryd.checked) false (laidWorld os) #[.string ⟨#[]⟩, .slice none 0 0] rfl (by kernel_rfl) (by kernel_rfl) (by kernel_rfl)
      (OpenSpec.preRow_of_cond 8 hx (by kernel_rfl) (fun k hk => by cases hk) (by kernel_rfl) (laid_met os))) ?_
  intro W base args ds gs before hval hW _ _ hsz hL _ _
  exact contract H enc W base args ds gs before hval hW hsz hL

theorem holds : Rows.DiffMostSaid :=
  OpenClaim.holds_of_cond 5 Tryd.f5 rfl rfl rfl rfl rfl rfl rfl ⟨rfl, rfl, rfl, rfl, rfl⟩ rfl rfl rfl rfl rfl (by kernel_rfl) Tryd.func5 (by kernel_rfl)
    (of_decide_eq_true (by kernel_rfl)) (by unfold Func.isWrapper; first | (rw [if_pos (by decide +kernel)]; kernel_rfl) | (rw [if_neg (by decide +kernel)]; exact ⟨rfl, rfl⟩))
    (fun os started H enc _ F => by rw [OpenClaim.pre_eq_preRow]; exact lifted os started H enc F)
theorem plain (f : FuncId) (fn : Func) (hf : Tryd.pinned.checked.prog.funcNamed "oxbow/oxbowlaw11.DiffMost" = some f) (hfn : Tryd.pinned.checked.prog.funcs[f]? = some fn) :
    true = Tryd.pinned.checked.prog.looks [] ∧ ∀ (j : Nat) t, fn.params[j]? = some t → Tryd.pinned.checked.prog.wantsStandIn t = false := by
  obtain rfl : f = 5 := Option.some.inj ((show Tryd.prog.funcNamed "oxbow/oxbowlaw11.DiffMost" = some 5 by kernel_rfl).symm.trans hf) |>.symm
  obtain rfl : fn = Tryd.f5 := (Option.some.inj (Tryd.func5.symm.trans hfn)).symm
  refine ⟨by kernel_rfl, fun j t ht => ?_⟩
  rw [Tryd.params5] at ht
  have hm := Array.mem_of_getElem? ht
  have h2 : t = 9 ∨ t = 22 := by simpa using hm
  rcases h2 with rfl | rfl
  · exact (show Tryd.prog.wantsStandIn 9 = false by kernel_rfl)
  · exact (show Tryd.prog.wantsStandIn 22 = false by kernel_rfl)
theorem card : Rows.DiffMostCardSaid :=
  Claim7.holds_tied_plain_at .later [] _ _ _ _ holds (fun _ h => by cases h) (by kernel_rfl) (fun _ h => by cases h) diffMost_row_tie rfl ⟨rfl, rfl⟩ (by kernel_rfl) rfl plain (by kernel_rfl)
end Go.Proofs.YtfhbkaiioiihjaaDoor.diffMost
namespace Go.Proofs.YtfhbkaiioiihjaaDoor
theorem diffMost_holds : Rows.DiffMostCardSaid := diffMost.card
#print axioms diffMost_holds
end Go.Proofs.YtfhbkaiioiihjaaDoor
