/-
  Proved: behind a delta that keeps all, a delta is its normal form, transformed as composed (the law OtStays), for every input.
-/
import Derived.Test.YtphbjbigjpfjfabOtL
import Derived.Test.YtphbjbigjpfjfabOtKp
import Derived.ChangeOld
import Derived.ShutString
namespace Go.Proofs.Ytphbjbigjpfjfab.otStays
open Go.RowKit Go.ChangeShapes Go.WideShapes Go.ChangeAt Go.PlainAid

set_option maxRecDepth 20000 in
set_option maxHeartbeats 4000000 in
theorem walk (v : Value) (A : List OpD) (f : Bool) (w : World) (hA : RdD w v A) (mA : A.length ≤ 4398046511104) (oA : ∀ o ∈ A, o.In ∧ o.Ok) :
    Calls Try.prog 4 #[v, .bool f] w fun e w' => e = .returned (.bool true) ∧ Below w.heap.size w w' := by
  obtain ⟨i0, hin, hz0, hz1, hz2⟩ := info_parts Try.infoOp
  have mA' : A.length ≤ maxLen := by unfold maxLen; omega
  have iA : ∀ o ∈ A, o.In := fun o ho => (oA o ho).1
  have c1 := base_any v A w hA mA' iA
  by_cases z1 : chk A = 0
  · obtain ⟨d1, d2⟩ := stays iA z1 f
    have bd := stR_bd A
    have la : ∀ n, (allO n).length ≤ maxLen := fun n => by unfold allO maxLen; split <;> simp
    have c2 := fun u W h1 h2 => transform_any v u f A (allO (bsum (stR A))) W h1 h2 mA' (la _) iA (all_in _)
    have c3 := fun W h => normal_any v A W h mA' iA
    have c4 := fun u W h1 h2 => compose_any u v (allO (bsum (stR A))) A W h1 h2 (la _) mA' (all_in _) iA
    have l0 : (jn (stR A)).length ≤ maxLen := by have := (jn_in (stR_ok iA) bd.1 bd.2).1; unfold maxLen; omega
    have cS := fun a b W h1 h2 => same_true a b (jn (stR A)) W l0 h1 h2
    have bn := bd.1
    rw [z1] at c1 c3
    rw [d1] at c2
    rw [d2] at c4
    clear d1 d2 z1 l0 bd la
    generalize jn (stR A) = N at *
    generalize bsum (stR A) = n at *
    simp only at c2 c4
    by_cases hn : 0 < n
    · have hn' : (0 : Int) < (n : Int) := by omega
      have ea : allO n = [⟨1, n, ⟨#[]⟩⟩] := by rw [allO, if_pos hn]
      rw [ea] at c2 c4
      clear ea
      go_enter Try.func4, Try.ntmps4
      go_wp2_with fail
      refine c1.mono ?_
      rintro e w1 ⟨rfl, hb1⟩
      clear c1
      have r1 := hA.below hb1
      go_wp2_with fail
      refine (lkeep_any _ _).mono ?_
      rintro e w2 ⟨rfl, hb2⟩
      have r2 := r1.below hb2
      go_wp2_with (at_builtin; refine wpList_append_lies _ rfl (.tmp 24) (.tmp 27) 22 rfl w2.heap.size 35 i0 (.agg #[.int .i64 0, .int .i64 0, .string ⟨#[]⟩]) 3 32 Try.underlying22 hin hz0 hz1 hz2 rfl (by decide) (.slice none 0 0) 0 [] rfl (World.ownsRow_nil _ _ _ _) ⟨_, 0, none⟩ 1 1 [.int .i64 1, .int .i64 n, .string ⟨#[]⟩] rfl rfl (many_new _ _ _) (three_one _ _ _) (by decide) (by decide) (by decide) (by simp) _ rfl ?_; intro g9 c9 w9 ho9 hg9 hl9 _)
      have hb3 : Below w2.heap.size w2 w9 := by
        have ho : Only [] w2 w9 := (Only.alloc _ _ _).trans (Only.of_grown hg9 (by intro k hk; cases hk))
        exact ho.below (Nat.le_refl _) (by simp)
      have hall := rdd_own (own_op (o := ⟨1, n, ⟨#[]⟩⟩) (L := []) ho9 rfl)
      have r3 := r2.below hb3
      refine (c2 _ _ r3 hall).mono ?_
      rintro e w4 ⟨u4, rfl, ho4, hb4⟩
      clear c2
      have r4 := r3.below hb4
      go_wp2_with fail
      refine (c3 _ r4).mono ?_
      rintro e w5 ⟨u5, rfl, ho5, hb5⟩
      clear c3
      go_wp2_with fail
      refine (c4 _ _ ((hall.below hb4).below hb5) (r4.below hb5)).mono ?_
      rintro e w6 ⟨u6, rfl, ho6, hb6⟩
      clear c4
      have q4 := ((rdd_own ho4).below hb5).below hb6
      have q5 := (rdd_own ho5).below hb6
      have q6 := rdd_own ho6
      go_wp2_with fail
      refine (cS _ _ _ q4 q5).mono ?_
      rintro e w7 ⟨rfl, hb7⟩
      go_wp2_with fail
      refine (cS _ _ _ (q6.below hb7) (q5.below hb7)).mono ?_
      rintro e w8 ⟨rfl, hb8⟩
      go_wp2_with (go_at_call 8; refine (live10_any _).mono ?_; rintro e w10 ⟨rfl, hb10⟩)
      go_ret
      exact ⟨rfl, chain (chain (chain (chain (chain (chain (chain (chain hb1 hb2) hb3) hb4) hb5) hb6) hb7) hb8) hb10⟩
    · have hn0 : n = 0 := by omega
      subst hn0
      have ea : allO 0 = [] := rfl
      rw [ea] at c2 c4
      clear ea hn
      go_enter Try.func4, Try.ntmps4
      go_wp2_with fail
      refine c1.mono ?_
      rintro e w1 ⟨rfl, hb1⟩
      clear c1
      have r1 := hA.below hb1
      go_wp2_with fail
      refine (c2 _ _ r1 (RdD.nil _)).mono ?_
      rintro e w4 ⟨u4, rfl, ho4, hb4⟩
      clear c2
      have r4 := r1.below hb4
      go_wp2_with fail
      refine (c3 _ r4).mono ?_
      rintro e w5 ⟨u5, rfl, ho5, hb5⟩
      clear c3
      go_wp2_with fail
      refine (c4 _ _ (RdD.nil _) (r4.below hb5)).mono ?_
      rintro e w6 ⟨u6, rfl, ho6, hb6⟩
      clear c4
      have q4 := ((rdd_own ho4).below hb5).below hb6
      have q5 := (rdd_own ho5).below hb6
      have q6 := rdd_own ho6
      go_wp2_with fail
      refine (cS _ _ _ q4 q5).mono ?_
      rintro e w7 ⟨rfl, hb7⟩
      go_wp2_with fail
      refine (cS _ _ _ (q6.below hb7) (q5.below hb7)).mono ?_
      rintro e w8 ⟨rfl, hb8⟩
      go_wp2_with (go_at_call 8; refine (live10_any _).mono ?_; rintro e w10 ⟨rfl, hb10⟩)
      go_ret
      exact ⟨rfl, chain (chain (chain (chain (chain (chain hb1 hb4) hb5) hb6) hb7) hb8) hb10⟩
  · have n1 : (chk A != 0) = true := by simpa using z1
    clear z1
    generalize chk A = er at *
    generalize (bsum (stR A) : Int) = n at *
    go_enter Try.func4, Try.ntmps4
    go_wp2_with fail
    refine c1.mono ?_
    rintro e w1 ⟨rfl, hb1⟩
    clear c1
    go_wp2_with (go_at_call 8; refine (live10_any _).mono ?_; rintro e w10 ⟨rfl, hb10⟩)
    go_ret
    exact ⟨rfl, chain hb1 hb10⟩

theorem own : ownKnob Try.prog.godebug = none := by kernel_rfl
theorem laidOut : laidOutB Try.prog = true := by kernel_rfl

set_option maxRecDepth 20000 in
theorem contract (H : Type) (enc : TypeId × Value → H) (W : World) (base : Nat) (args : Array Value) (ds gs : List (DataW H)) (before : List MemPlace)
    (hval : ∀ (j : Nat) t v, Try.f4.params[j]? = some t → args[j]? = some v → Value.okWide Try.prog W .any base t v)
    (hW : DataW.Whole enc Try.prog Try.f4.params.toList Rows.otStaysSpec.vars false W args.toList ds gs before) (hsz0 : (DataW.weightsEach Try.prog (Try.f4.params.toList ++ Rows.otStaysSpec.plain.varTypes Try.prog) (ds ++ gs)).all (· ≤ reachBytes) = true) :
    Calls Try.prog 4 args W fun e W' => ∃ v, e = .returned v ∧ Rows.otStaysSpec.post enc Try.prog Try.f4 false true false false W args v W' := by
  have hW' := hW
  obtain ⟨p, q, hA0, hV, rfl, hfz, hnd⟩ := hW
  have hA : DataW.TrodAll enc Try.prog W 0 (fun _ => true) true Try.f4.params.toList args.toList ds p := hA0
  rw [Try.params4] at hA hval hsz0
  obtain ⟨v0, vs0, d0, ds0, p0, q0, hargs, rfl, rfl, h0, r0⟩ := trodAll_cons hA
  obtain ⟨v1, vs1, d1, ds1, p1, q1, rfl, rfl, rfl, h1, r1⟩ := trodAll_cons r0
  obtain ⟨rfl, rfl, rfl⟩ := trodAll_nil r1
  obtain rfl : args = #[v0, v1] := by cases args; simp_all
  obtain ⟨rfl, rfl⟩ := trodVars_none hV
  have k0 := h0
  have lt0 : ∀ x ∈ p0, x.block < W.heap.size := by obtain ⟨m, hm⟩ := k0; exact DataW.trod_lt m _ _ _ hm
  have k1 := h1
  have lt1 : ∀ x ∈ p1, x.block < W.heap.size := by obtain ⟨m, hm⟩ := k1; exact DataW.trod_lt m _ _ _ hm
  obtain ⟨a0, len0, cap0, rfl⟩ := okWide_slice Try.underlying22 (hval 0 22 v0 rfl rfl)
  obtain ⟨fuel0, hf0⟩ := h0
  have z0 : ∀ n ∈ d0.weights Try.prog 22, n ≤ reachBytes := fun n hn => by simpa using List.all_eq_true.1 hsz0 n (DataW.weights_mem_each (j := 0) (t := 22) (d := d0) rfl rfl n hn)
  obtain ⟨l0, rd0, ln0, ok0⟩ := open_dlz hf0 z0
  obtain ⟨a1, rfl, rfl, rfl⟩ := open_bool Try.underlying4 (hval 1 4 v1 rfl rfl) h1
  clear hA0
  simp only [List.append_nil] at hW'
  refine (walk (.slice a0 len0 cap0) l0 a1 W rd0 ln0 ok0).mono fun e W' ⟨he, bel⟩ => ?_
  subst he
  exact ⟨_, rfl, _, _, _, [], _, [], hW', trodAll_mk1 (shut_bool Try.underlying4 _), (trodAll_cons_mk (Below.trod laidOut (by kernel_rfl) (of_decide_eq_true (by kernel_rfl)) k0 bel lt0) (trodAll_cons_mk (Below.trod laidOut (by kernel_rfl) (of_decide_eq_true (by kernel_rfl)) k1 bel lt1) trodAll_mk0)), rfl, bel.frame _, fun h => by cases h⟩

set_option maxRecDepth 100000 in
theorem lifted (os : Os) (started : os.Started) (H : Type) (enc : TypeId × Value → H) :
    ReturnsInHanded {} Try.checked os 4 .any (Rows.otStaysSpec.pre6 enc Try.prog Try.f4 Rows.otStaysRow.domain false) (Rows.otStaysSpec.post enc Try.prog Try.f4 false true false false) := by
  refine returnsInHanded_of_change_sized (C := Try.checked) own started (by kernel_rfl) Try.func4
    (ChangeSpec.witness6 (enc := enc) (C := Try.checked) false ⟨#[], #[.slice none 0 0, .bool false], []⟩ 8 (by kernel_rfl) (by kernel_rfl) (by kernel_rfl) (by kernel_rfl)) ?_
  intro W base args ds gs before hval hW _ hsz _
  exact contract H enc W base args ds gs before hval hW hsz

theorem holds : Rows.OtStaysSaid :=
  OpenClaim.holds_of_wide 4 Try.f4 rfl rfl rfl rfl rfl rfl rfl ⟨rfl, rfl, rfl, rfl, rfl⟩ rfl rfl rfl rfl rfl (by kernel_rfl) Try.func4 (by kernel_rfl)
    (of_decide_eq_true (by kernel_rfl)) (by unfold Func.isWrapper; first | (rw [if_pos (by decide +kernel)]; kernel_rfl) | (rw [if_neg (by decide +kernel)]; exact ⟨rfl, rfl⟩))
    (fun os started H enc _ => lifted os started H enc)
end Go.Proofs.Ytphbjbigjpfjfab.otStays
namespace Go.Proofs.Ytphbjbigjpfjfab
theorem otStays_holds : Rows.OtStaysSaid := otStays.holds
#print axioms otStays_holds
end Go.Proofs.Ytphbjbigjpfjfab
