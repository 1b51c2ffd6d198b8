/-
  Proved: a delta and what undoes it give the text again, and undone twice it is the delta's normal form (the law OtUndoes), for every input.
-/
import Derived.Test.YtphbjbigjpfjfabOtL
import Derived.Test.YtphbjbigjpfjfabOtIn
import Derived.ChangeOld
import Derived.ShutString
namespace Go.Proofs.Ytphbjbigjpfjfab.otUndoes
open Go.RowKit Go.ChangeShapes Go.WideShapes Go.ChangeAt Go.PlainAid
open Go.ChangeMaps (open_string shut_string)

theorem apR_size {s : ByteArray} {A : List OpD} (h : (apR s A).2 = 0) : (apR s A).1.size ≤ maxLen := by
  obtain ⟨s0, s1, s2, s3⟩ := apR_zero h
  have hps := pts_len (t := s) s0
  have bd := stR_bd A
  have hal := ap_len (l := stR A) (zs := pts s) (by omega)
  have hl := enc_len (apRun (pts s) (stR A))
  rw [s3, mk_size]
  unfold maxLen
  omega

set_option maxRecDepth 20000 in
set_option maxHeartbeats 4000000 in
theorem walk (s : ByteArray) (v : Value) (D : List OpD) (w : World) (hs : s.size ≤ maxLen) (hr : RdD w v D) (mD : D.length ≤ 4398046511104) (oD : ∀ o ∈ D, o.In ∧ o.Ok) :
    Calls Try.prog 3 #[.string s, v] w fun e w' => e = .returned (.bool true) ∧ Below w.heap.size w w' := by
  have mD' : D.length ≤ maxLen := by unfold maxLen; omega
  have iD : ∀ o ∈ D, o.In := fun o ho => (oD o ho).1
  have c1 := apply_any s v D w hs hr mD' iD
  have c2 := fun W h => invert_any s v D W hs h mD' iD
  by_cases z1 : (apR s D).2 = 0
  · obtain ⟨d1, d2, d3⟩ := undoes iD z1
    obtain ⟨_, x0, x1, _⟩ := in_facts iD z1
    have hsz := apR_size z1
    have lx : (inR s D).1.length ≤ maxLen := by have := (kchk_any x1).2; unfold maxLen; omega
    have c3 := fun u W h => apply_any (apR s D).1 u (inR s D).1 W hsz h lx x0
    have c4 := fun u W h => invert_any (apR s D).1 u (inR s D).1 W hsz h lx x0
    have c5 := fun W h => normal_any v D W h mD' iD
    have bd := stR_bd D
    have l0 : (jn (stR D)).length ≤ maxLen := by have := (jn_in (stR_ok iD) bd.1 bd.2).1; unfold maxLen; omega
    have cS := fun a b W h1 h2 => same_true a b (jn (stR D)) W l0 h1 h2
    have hck := (apR_zero z1).2.1
    rw [z1] at c1
    rw [d1] at c2
    rw [d2] at c3
    rw [d3] at c4
    rw [hck] at c5
    clear d1 d2 d3 x0 x1 z1 hck lx hsz l0 bd
    generalize (apR s D).1 = t at *
    generalize (inR s D).1 = V at *
    generalize jn (stR D) = N at *
    simp only at c3 c4
    go_enter Try.func3, Try.ntmps3
    go_wp2_with fail
    refine c1.mono ?_
    rintro e w1 ⟨rfl, hb1⟩
    clear c1
    have r1 := hr.below hb1
    go_wp2_with fail
    refine (c2 _ r1).mono ?_
    rintro e w2 ⟨u2, rfl, ho2, hb2⟩
    clear c2
    have r2 := r1.below hb2
    have v2 := rdd_own ho2
    go_wp2_with fail
    refine (c3 _ _ v2).mono ?_
    rintro e w3 ⟨rfl, hb3⟩
    clear c3
    go_wp2_with fail
    refine (c4 _ _ (v2.below hb3)).mono ?_
    rintro e w4 ⟨u4, rfl, ho4, hb4⟩
    clear c4
    go_wp2_with fail
    refine (c5 _ ((r2.below hb3).below hb4)).mono ?_
    rintro e w5 ⟨u5, rfl, ho5, hb5⟩
    clear c5
    have r4 := (rdd_own ho4).below hb5
    have r5 := rdd_own ho5
    go_wp2_with (first | (go_at_call 10; refine (cS _ _ _ r4 r5).mono ?_; rintro e w6 ⟨rfl, hb6⟩) | (go_at_call 8; refine (live10_any _).mono ?_; rintro e w7 ⟨rfl, hb7⟩))
    go_ret
    exact ⟨rfl, chain (chain (chain (chain (chain (chain hb1 hb2) hb3) hb4) hb5) hb6) hb7⟩
  · have n1 : ((apR s D).2 != 0) = true := by simpa using z1
    have e1 : inR s D = ([], (apR s D).2) := by rw [inR, if_neg z1]
    rw [e1] at c2
    clear e1 z1
    generalize apR s D = q at *
    obtain ⟨t, er⟩ := q
    simp only at c1 c2 n1
    go_enter Try.func3, Try.ntmps3
    go_wp2_with fail
    refine c1.mono ?_
    rintro e w1 ⟨rfl, hb1⟩
    clear c1
    go_wp2_with fail
    refine (c2 _ (hr.below hb1)).mono ?_
    rintro e w2 ⟨u2, rfl, ho2, hb2⟩
    clear c2
    obtain ⟨ao, cp, rfl⟩ := own_form ho2
    go_wp2_with (go_at_call 8; refine (live10_any _).mono ?_; rintro e w7 ⟨rfl, hb7⟩)
    go_ret
    exact ⟨rfl, chain (chain hb1 hb2) hb7⟩

theorem own : ownKnob Try.prog.godebug = none := by kernel_rfl
theorem laidOut : laidOutB Try.prog = true := by kernel_rfl

set_option maxRecDepth 20000 in
theorem contract (H : Type) (enc : TypeId × Value → H) (W : World) (base : Nat) (args : Array Value) (ds gs : List (DataW H)) (before : List MemPlace)
    (hval : ∀ (j : Nat) t v, Try.f3.params[j]? = some t → args[j]? = some v → Value.okWide Try.prog W .any base t v)
    (hW : DataW.Whole enc Try.prog Try.f3.params.toList Rows.otUndoesSpec.vars false W args.toList ds gs before) (hsz0 : (DataW.weightsEach Try.prog (Try.f3.params.toList ++ Rows.otUndoesSpec.plain.varTypes Try.prog) (ds ++ gs)).all (· ≤ reachBytes) = true) :
    Calls Try.prog 3 args W fun e W' => ∃ v, e = .returned v ∧ Rows.otUndoesSpec.post enc Try.prog Try.f3 false true false false W args v W' := by
  have hW' := hW
  obtain ⟨p, q, hA0, hV, rfl, hfz, hnd⟩ := hW
  have hA : DataW.TrodAll enc Try.prog W 0 (fun _ => true) true Try.f3.params.toList args.toList ds p := hA0
  rw [Try.params3] at hA hval hsz0
  obtain ⟨v0, vs0, d0, ds0, p0, q0, hargs, rfl, rfl, h0, r0⟩ := trodAll_cons hA
  obtain ⟨v1, vs1, d1, ds1, p1, q1, rfl, rfl, rfl, h1, r1⟩ := trodAll_cons r0
  obtain ⟨rfl, rfl, rfl⟩ := trodAll_nil r1
  obtain rfl : args = #[v0, v1] := by cases args; simp_all
  obtain ⟨rfl, rfl⟩ := trodVars_none hV
  have k0 := h0
  have lt0 : ∀ x ∈ p0, x.block < W.heap.size := by obtain ⟨m, hm⟩ := k0; exact DataW.trod_lt m _ _ _ hm
  have k1 := h1
  have lt1 : ∀ x ∈ p1, x.block < W.heap.size := by obtain ⟨m, hm⟩ := k1; exact DataW.trod_lt m _ _ _ hm
  obtain ⟨a0, rfl, rfl, rfl, w0⟩ := open_string Try.underlying9 (hval 0 9 v0 rfl rfl) h0
  obtain ⟨a1, len1, cap1, rfl⟩ := okWide_slice Try.underlying22 (hval 1 22 v1 rfl rfl)
  obtain ⟨fuel1, hf1⟩ := h1
  have z1 : ∀ n ∈ d1.weights Try.prog 22, n ≤ reachBytes := fun n hn => by simpa using List.all_eq_true.1 hsz0 n (DataW.weights_mem_each (j := 1) (t := 22) (d := d1) rfl rfl n hn)
  obtain ⟨l1, rd1, ln1, ok1⟩ := open_dlz hf1 z1
  clear hA0
  simp only [List.append_nil] at hW'
  refine (walk a0 (.slice a1 len1 cap1) l1 W w0 rd1 ln1 ok1).mono fun e W' ⟨he, bel⟩ => ?_
  subst he
  exact ⟨_, rfl, _, _, _, [], _, [], hW', trodAll_mk1 (shut_bool Try.underlying4 _), (trodAll_cons_mk (Below.trod laidOut (by kernel_rfl) (of_decide_eq_true (by kernel_rfl)) k0 bel lt0) (trodAll_cons_mk (Below.trod laidOut (by kernel_rfl) (of_decide_eq_true (by kernel_rfl)) k1 bel lt1) trodAll_mk0)), rfl, bel.frame _, fun h => by cases h⟩

set_option maxRecDepth 100000 in
theorem lifted (os : Os) (started : os.Started) (H : Type) (enc : TypeId × Value → H) :
    ReturnsInHanded {} Try.checked os 3 .any (Rows.otUndoesSpec.pre6 enc Try.prog Try.f3 Rows.otUndoesRow.domain false) (Rows.otUndoesSpec.post enc Try.prog Try.f3 false true false false) := by
  refine returnsInHanded_of_change_sized (C := Try.checked) own started (by kernel_rfl) Try.func3
    (ChangeSpec.witness6 (enc := enc) (C := Try.checked) false ⟨#[], #[.string .empty, .slice none 0 0], []⟩ 8 (by kernel_rfl) (by kernel_rfl) (by kernel_rfl) (by kernel_rfl)) ?_
  intro W base args ds gs before hval hW _ hsz _
  exact contract H enc W base args ds gs before hval hW hsz

theorem holds : Rows.OtUndoesSaid :=
  OpenClaim.holds_of_wide 3 Try.f3 rfl rfl rfl rfl rfl rfl rfl ⟨rfl, rfl, rfl, rfl, rfl⟩ rfl rfl rfl rfl rfl (by kernel_rfl) Try.func3 (by kernel_rfl)
    (of_decide_eq_true (by kernel_rfl)) (by unfold Func.isWrapper; first | (rw [if_pos (by decide +kernel)]; kernel_rfl) | (rw [if_neg (by decide +kernel)]; exact ⟨rfl, rfl⟩))
    (fun os started H enc _ => lifted os started H enc)
end Go.Proofs.Ytphbjbigjpfjfab.otUndoes
namespace Go.Proofs.Ytphbjbigjpfjfab
theorem otUndoes_holds : Rows.OtUndoesSaid := otUndoes.holds
#print axioms otUndoes_holds
end Go.Proofs.Ytphbjbigjpfjfab
