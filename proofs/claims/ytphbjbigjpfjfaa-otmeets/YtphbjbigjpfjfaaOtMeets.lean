/-
  Proved: two deltas of one text, each transformed behind the other, come to the same delta, whichever goes first (the law OtMeets), for every input.
-/
import Derived.Test.YtphbjbigjpfjfaaOtL
import Derived.Test.YtphbjbigjpfjfaaOtYb
import Derived.ChangeOld
import Derived.ShutString
namespace Go.Proofs.Ytphbjbigjpfjfaa.otMeets
open Go.RowKit Go.ChangeShapes Go.WideShapes Go.ChangeAt Go.PlainAid

set_option maxRecDepth 20000 in
set_option maxHeartbeats 4000000 in
theorem walk (vA : Value) (A : List OpD) (vB : Value) (B : List OpD) (f : Bool) (w : World) (hA : RdD w vA A) (mA : A.length ≤ 4398046511104) (oA : ∀ o ∈ A, o.In ∧ o.Ok) (hB : RdD w vB B) (mB : B.length ≤ 4398046511104) (oB : ∀ o ∈ B, o.In ∧ o.Ok) :
    Calls Try.prog 6 #[vA, vB, .bool f] w fun e w' => e = .returned (.bool true) ∧ Below w.heap.size w w' := by
  have mA' : A.length ≤ maxLen := by unfold maxLen; omega
  have mB' : B.length ≤ maxLen := by unfold maxLen; omega
  have iA : ∀ o ∈ A, o.In := fun o ho => (oA o ho).1
  have iB : ∀ o ∈ B, o.In := fun o ho => (oB o ho).1
  have c1 := transform_any vA vB f A B w hA hB mA' mB' iA iB
  have c2 := fun W h1 h2 => transform_any vB vA (!f) B A W h1 h2 mB' mA' iB iA
  by_cases hz : (trR f A B).2 = 0 ∧ (trR (!f) B A).2 = 0
  · obtain ⟨z1, z2⟩ := hz
    obtain ⟨x0, x1, _⟩ := tr_good iA iB z1
    obtain ⟨y0, y1, _⟩ := tr_good iB iA z2
    obtain ⟨j1, j2, j3⟩ := meets iA iB z1 z2
    have lx : (trR f A B).1.length ≤ maxLen := by have := (kchk_any x1).2; unfold maxLen; omega
    have ly : (trR (!f) B A).1.length ≤ maxLen := by have := (kchk_any y1).2; unfold maxLen; omega
    have c3 := fun u W h1 h2 => compose_any vA u A (trR (!f) B A).1 W h1 h2 mA' ly iA y0
    have c4 := fun u W h1 h2 => compose_any vB u B (trR f A B).1 W h1 h2 mB' lx iB x0
    have l0 : (coR A (trR (!f) B A).1).1.length ≤ maxLen := by
      have := co_facts iA y0 j1
      have := (kchk_any this.2.1).2
      unfold maxLen; omega
    rw [z1] at c1
    rw [z2] at c2
    rw [j1] at c3
    rw [j2, ← j3] at c4
    have cS := fun a b W h1 h2 => same_true a b (coR A (trR (!f) B A).1).1 W l0 h1 h2
    clear x0 x1 y0 y1 j1 j2 j3 z1 z2 l0
    generalize (coR A (trR (!f) B A).1).1 = R at *
    generalize (trR f A B).1 = X at *
    generalize (trR (!f) B A).1 = Y at *
    go_enter Try.func6, Try.ntmps6
    go_wp2_with fail
    refine c1.mono ?_
    rintro e w1 ⟨u1, rfl, ho1, hb1⟩
    clear c1
    go_wp2_with fail
    refine (c2 _ (hB.below hb1) (hA.below hb1)).mono ?_
    rintro e w2 ⟨u2, rfl, ho2, hb2⟩
    clear c2
    have r1 := (rdd_own ho1).below hb2
    have r2 := rdd_own ho2
    go_wp2_with fail
    refine (c3 _ _ ((hA.below hb1).below hb2) r2).mono ?_
    rintro e w3 ⟨u3, rfl, ho3, hb3⟩
    clear c3
    go_wp2_with fail
    refine (c4 _ _ (((hB.below hb1).below hb2).below hb3) (r1.below hb3)).mono ?_
    rintro e w4 ⟨u4, rfl, ho4, hb4⟩
    clear c4
    have r3 := (rdd_own ho3).below hb4
    have r4 := rdd_own ho4
    go_wp2_with (first | (go_at_call 12; refine (cS _ _ _ r3 r4).mono ?_; rintro e w5 ⟨rfl, hb5⟩) | (go_at_call 13; refine (live10_any _).mono ?_; rintro e w6 ⟨rfl, hb6⟩))
    go_ret
    exact ⟨rfl, chain (chain (chain (chain (chain hb1 hb2) hb3) hb4) hb5) hb6⟩
  · generalize trR f A B = q1 at *
    generalize trR (!f) B A = q2 at *
    obtain ⟨X, e1⟩ := q1
    obtain ⟨Y, e2⟩ := q2
    simp only at hz c1 c2
    by_cases z1 : e1 = 0
    · have z2 : (e2 != 0) = true := by simp; exact fun h => hz ⟨z1, h⟩
      subst z1
      clear hz
      go_enter Try.func6, Try.ntmps6
      go_wp2_with fail
      refine c1.mono ?_
      rintro e w1 ⟨u1, rfl, ho1, hb1⟩
      clear c1
      go_wp2_with fail
      refine (c2 _ (hB.below hb1) (hA.below hb1)).mono ?_
      rintro e w2 ⟨u2, rfl, ho2, hb2⟩
      clear c2
      go_wp2_with (go_at_call 13; refine (live10_any _).mono ?_; rintro e w6 ⟨rfl, hb6⟩)
      go_ret
      exact ⟨rfl, chain (chain hb1 hb2) hb6⟩
    · have z2 : (e1 != 0) = true := by simpa using z1
      clear hz z1
      go_enter Try.func6, Try.ntmps6
      go_wp2_with fail
      refine c1.mono ?_
      rintro e w1 ⟨u1, rfl, ho1, hb1⟩
      clear c1
      go_wp2_with fail
      refine (c2 _ (hB.below hb1) (hA.below hb1)).mono ?_
      rintro e w2 ⟨u2, rfl, ho2, hb2⟩
      clear c2
      go_wp2_with (go_at_call 13; refine (live10_any _).mono ?_; rintro e w6 ⟨rfl, hb6⟩)
      go_ret
      exact ⟨rfl, chain (chain hb1 hb2) hb6⟩

theorem own : ownKnob Try.prog.godebug = none := by kernel_rfl
theorem laidOut : laidOutB Try.prog = true := by kernel_rfl

set_option maxRecDepth 20000 in
theorem contract (H : Type) (enc : TypeId × Value → H) (W : World) (base : Nat) (args : Array Value) (ds gs : List (DataW H)) (before : List MemPlace)
    (hval : ∀ (j : Nat) t v, Try.f6.params[j]? = some t → args[j]? = some v → Value.okWide Try.prog W .any base t v)
    (hW : DataW.Whole enc Try.prog Try.f6.params.toList Rows.otMeetsSpec.vars false W args.toList ds gs before) (hsz0 : (DataW.weightsEach Try.prog (Try.f6.params.toList ++ Rows.otMeetsSpec.plain.varTypes Try.prog) (ds ++ gs)).all (· ≤ reachBytes) = true) :
    Calls Try.prog 6 args W fun e W' => ∃ v, e = .returned v ∧ Rows.otMeetsSpec.post enc Try.prog Try.f6 false true false false W args v W' := by
  have hW' := hW
  obtain ⟨p, q, hA0, hV, rfl, hfz, hnd⟩ := hW
  have hA : DataW.TrodAll enc Try.prog W 0 (fun _ => true) true Try.f6.params.toList args.toList ds p := hA0
  rw [Try.params6] at hA hval hsz0
  obtain ⟨v0, vs0, d0, ds0, p0, q0, hargs, rfl, rfl, h0, r0⟩ := trodAll_cons hA
  obtain ⟨v1, vs1, d1, ds1, p1, q1, rfl, rfl, rfl, h1, r1⟩ := trodAll_cons r0
  obtain ⟨v2, vs2, d2, ds2, p2, q2, rfl, rfl, rfl, h2, r2⟩ := trodAll_cons r1
  obtain ⟨rfl, rfl, rfl⟩ := trodAll_nil r2
  obtain rfl : args = #[v0, v1, v2] := by cases args; simp_all
  obtain ⟨rfl, rfl⟩ := trodVars_none hV
  have k0 := h0
  have lt0 : ∀ x ∈ p0, x.block < W.heap.size := by obtain ⟨m, hm⟩ := k0; exact DataW.trod_lt m _ _ _ hm
  have k1 := h1
  have lt1 : ∀ x ∈ p1, x.block < W.heap.size := by obtain ⟨m, hm⟩ := k1; exact DataW.trod_lt m _ _ _ hm
  have k2 := h2
  have lt2 : ∀ x ∈ p2, x.block < W.heap.size := by obtain ⟨m, hm⟩ := k2; exact DataW.trod_lt m _ _ _ hm
  obtain ⟨a0, len0, cap0, rfl⟩ := okWide_slice Try.underlying22 (hval 0 22 v0 rfl rfl)
  obtain ⟨fuel0, hf0⟩ := h0
  have z0 : ∀ n ∈ d0.weights Try.prog 22, n ≤ reachBytes := fun n hn => by simpa using List.all_eq_true.1 hsz0 n (DataW.weights_mem_each (j := 0) (t := 22) (d := d0) rfl rfl n hn)
  obtain ⟨l0, rd0, ln0, ok0⟩ := open_dlz hf0 z0
  obtain ⟨a1, len1, cap1, rfl⟩ := okWide_slice Try.underlying22 (hval 1 22 v1 rfl rfl)
  obtain ⟨fuel1, hf1⟩ := h1
  have z1 : ∀ n ∈ d1.weights Try.prog 22, n ≤ reachBytes := fun n hn => by simpa using List.all_eq_true.1 hsz0 n (DataW.weights_mem_each (j := 1) (t := 22) (d := d1) rfl rfl n hn)
  obtain ⟨l1, rd1, ln1, ok1⟩ := open_dlz hf1 z1
  obtain ⟨a2, rfl, rfl, rfl⟩ := open_bool Try.underlying4 (hval 2 4 v2 rfl rfl) h2
  clear hA0
  simp only [List.append_nil] at hW'
  refine (walk (.slice a0 len0 cap0) l0 (.slice a1 len1 cap1) l1 a2 W rd0 ln0 ok0 rd1 ln1 ok1).mono fun e W' ⟨he, bel⟩ => ?_
  subst he
  exact ⟨_, rfl, _, _, _, [], _, [], hW', trodAll_mk1 (shut_bool Try.underlying4 _), (trodAll_cons_mk (Below.trod laidOut (by kernel_rfl) (of_decide_eq_true (by kernel_rfl)) k0 bel lt0) (trodAll_cons_mk (Below.trod laidOut (by kernel_rfl) (of_decide_eq_true (by kernel_rfl)) k1 bel lt1) (trodAll_cons_mk (Below.trod laidOut (by kernel_rfl) (of_decide_eq_true (by kernel_rfl)) k2 bel lt2) trodAll_mk0))), rfl, bel.frame _, fun h => by cases h⟩

set_option maxRecDepth 100000 in
theorem lifted (os : Os) (started : os.Started) (H : Type) (enc : TypeId × Value → H) :
    ReturnsInHanded {} Try.checked os 6 .any (Rows.otMeetsSpec.pre6 enc Try.prog Try.f6 Rows.otMeetsRow.domain false) (Rows.otMeetsSpec.post enc Try.prog Try.f6 false true false false) := by
  refine returnsInHanded_of_change_sized (C := Try.checked) own started (by kernel_rfl) Try.func6
    (ChangeSpec.witness6 (enc := enc) (C := Try.checked) false ⟨#[], #[.slice none 0 0, .slice none 0 0, .bool false], []⟩ 8 (by kernel_rfl) (by kernel_rfl) (by kernel_rfl) (by kernel_rfl)) ?_
  intro W base args ds gs before hval hW _ hsz _
  exact contract H enc W base args ds gs before hval hW hsz

theorem holds : Rows.OtMeetsSaid :=
  OpenClaim.holds_of_wide 6 Try.f6 rfl rfl rfl rfl rfl rfl rfl ⟨rfl, rfl, rfl, rfl, rfl⟩ rfl rfl rfl rfl rfl (by kernel_rfl) Try.func6 (by kernel_rfl)
    (of_decide_eq_true (by kernel_rfl)) (by unfold Func.isWrapper; first | (rw [if_pos (by decide +kernel)]; kernel_rfl) | (rw [if_neg (by decide +kernel)]; exact ⟨rfl, rfl⟩))
    (fun os started H enc _ => lifted os started H enc)
end Go.Proofs.Ytphbjbigjpfjfaa.otMeets
namespace Go.Proofs.Ytphbjbigjpfjfaa
theorem otMeets_holds : Rows.OtMeetsSaid := otMeets.holds
#print axioms otMeets_holds
end Go.Proofs.Ytphbjbigjpfjfaa
