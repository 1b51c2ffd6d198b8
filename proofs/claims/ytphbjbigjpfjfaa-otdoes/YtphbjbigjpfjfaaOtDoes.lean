/-
  Proved: what is composed of two deltas does to every text what the two do, one behind the other (the law OtDoes), for every input.
-/
import Derived.Test.YtphbjbigjpfjfaaOtL
import Derived.Test.YtphbjbigjpfjfaaOtQ
import Derived.ChangeOld
import Derived.ShutString
namespace Go.Proofs.Ytphbjbigjpfjfaa.otDoes
open Go.RowKit Go.ChangeShapes Go.WideShapes Go.ChangeAt Go.PlainAid
open Go.ChangeMaps (open_string shut_string)

theorem apR_size {s : ByteArray} {A : List OpD} (h : (apR s A).2 = 0) : (apR s A).1.size ≤ maxLen := by
  obtain ⟨s0, s1, s2, s3⟩ := apR_zero h
  have hps := pts_len (t := s) s0
  have bd := stR_bd A
  have hal := ap_len (l := stR A) (zs := pts s) (by omega)
  have hl := enc_len (apRun (pts s) (stR A))
  rw [s3, mk_size]
  unfold maxLen
  omega

set_option maxRecDepth 20000 in
set_option maxHeartbeats 4000000 in
theorem walk (s : ByteArray) (vA : Value) (A : List OpD) (vB : Value) (B : List OpD) (w : World) (hs : s.size ≤ maxLen) (hA : RdD w vA A) (mA : A.length ≤ 4398046511104) (oA : ∀ o ∈ A, o.In ∧ o.Ok) (hB : RdD w vB B) (mB : B.length ≤ 4398046511104) (oB : ∀ o ∈ B, o.In ∧ o.Ok) :
    Calls Try.prog 8 #[.string s, vA, vB] w fun e w' => e = .returned (.bool true) ∧ Below w.heap.size w w' := by
  have mA' : A.length ≤ maxLen := by unfold maxLen; omega
  have mB' : B.length ≤ maxLen := by unfold maxLen; omega
  have iA : ∀ o ∈ A, o.In := fun o ho => (oA o ho).1
  have iB : ∀ o ∈ B, o.In := fun o ho => (oB o ho).1
  have c1 := apply_any s vA A w hs hA mA' iA
  by_cases z1 : (apR s A).2 = 0
  · have hd := does iA iB z1
    have hsz := apR_size z1
    have c2 := fun W h => apply_any (apR s A).1 vB B W hsz h mB' iB
    have c3 := fun W h1 h2 => compose_any vA vB A B W h1 h2 mA' mB' iA iB
    rw [z1] at c1
    by_cases z2 : (apR (apR s A).1 B).2 = 0
    · obtain ⟨d1, d2⟩ := hd.2 z2
      obtain ⟨x0, x1, x2, x3, x4, x5⟩ := co_facts iA iB d1
      have lx : (coR A B).1.length ≤ maxLen := by have := (kchk_any x1).2; unfold maxLen; omega
      have c4 := fun u W h => apply_any s u (coR A B).1 W hs h lx x0
      rw [d2, z2] at c4
      rw [z2] at c2
      rw [d1] at c3
      clear hd d1 d2 x0 x1 x2 x3 x4 x5 z1 z2 lx hsz
      generalize (apR (apR s A).1 B).1 = t2 at *
      generalize (apR s A).1 = t1 at *
      generalize (coR A B).1 = X at *
      go_enter Try.func8, Try.ntmps8
      go_wp2_with fail
      refine c1.mono ?_
      rintro e w1 ⟨rfl, hb1⟩
      clear c1
      go_wp2_with fail
      refine (c2 _ (hB.below hb1)).mono ?_
      rintro e w2 ⟨rfl, hb2⟩
      clear c2
      go_wp2_with fail
      refine (c3 _ ((hA.below hb1).below hb2) ((hB.below hb1).below hb2)).mono ?_
      rintro e w3 ⟨u3, rfl, ho3, hb3⟩
      clear c3
      go_wp2_with fail
      refine (c4 _ _ (rdd_own ho3)).mono ?_
      rintro e w4 ⟨rfl, hb4⟩
      clear c4
      go_wp2_with (go_at_call 13; refine (live10_any _).mono ?_; rintro e w6 ⟨rfl, hb6⟩)
      go_ret
      exact ⟨rfl, chain (chain (chain (chain hb1 hb2) hb3) hb4) hb6⟩
    · have d1 := hd.1 z2
      have n2 : ((apR (apR s A).1 B).2 != 0) = true := by simpa using z2
      have n3 : ((coR A B).2 != 0) = true := by simpa using d1
      clear hd d1 z1 z2 hsz
      generalize apR (apR s A).1 B = q2 at *
      generalize (apR s A).1 = t1 at *
      generalize coR A B = X at *
      obtain ⟨t2, e2⟩ := q2
      obtain ⟨X, e3⟩ := X
      simp only at c2 c3 n2 n3
      go_enter Try.func8, Try.ntmps8
      go_wp2_with fail
      refine c1.mono ?_
      rintro e w1 ⟨rfl, hb1⟩
      clear c1
      go_wp2_with fail
      refine (c2 _ (hB.below hb1)).mono ?_
      rintro e w2 ⟨rfl, hb2⟩
      clear c2
      go_wp2_with fail
      refine (c3 _ ((hA.below hb1).below hb2) ((hB.below hb1).below hb2)).mono ?_
      rintro e w3 ⟨u3, rfl, ho3, hb3⟩
      clear c3
      go_wp2_with (go_at_call 13; refine (live10_any _).mono ?_; rintro e w6 ⟨rfl, hb6⟩)
      go_ret
      exact ⟨rfl, chain (chain (chain hb1 hb2) hb3) hb6⟩
  · have n1 : ((apR s A).2 != 0) = true := by simpa using z1
    clear z1
    generalize apR s A = q1 at *
    obtain ⟨t1, e1⟩ := q1
    simp only at c1 n1
    go_enter Try.func8, Try.ntmps8
    go_wp2_with fail
    refine c1.mono ?_
    rintro e w1 ⟨rfl, hb1⟩
    clear c1
    go_wp2_with (go_at_call 13; refine (live10_any _).mono ?_; rintro e w6 ⟨rfl, hb6⟩)
    go_ret
    exact ⟨rfl, chain hb1 hb6⟩

theorem own : ownKnob Try.prog.godebug = none := by kernel_rfl
theorem laidOut : laidOutB Try.prog = true := by kernel_rfl

set_option maxRecDepth 20000 in
theorem contract (H : Type) (enc : TypeId × Value → H) (W : World) (base : Nat) (args : Array Value) (ds gs : List (DataW H)) (before : List MemPlace)
    (hval : ∀ (j : Nat) t v, Try.f8.params[j]? = some t → args[j]? = some v → Value.okWide Try.prog W .any base t v)
    (hW : DataW.Whole enc Try.prog Try.f8.params.toList Rows.otDoesSpec.vars false W args.toList ds gs before) (hsz0 : (DataW.weightsEach Try.prog (Try.f8.params.toList ++ Rows.otDoesSpec.plain.varTypes Try.prog) (ds ++ gs)).all (· ≤ reachBytes) = true) :
    Calls Try.prog 8 args W fun e W' => ∃ v, e = .returned v ∧ Rows.otDoesSpec.post enc Try.prog Try.f8 false true false false W args v W' := by
  have hW' := hW
  obtain ⟨p, q, hA0, hV, rfl, hfz, hnd⟩ := hW
  have hA : DataW.TrodAll enc Try.prog W 0 (fun _ => true) true Try.f8.params.toList args.toList ds p := hA0
  rw [Try.params8] at hA hval hsz0
  obtain ⟨v0, vs0, d0, ds0, p0, q0, hargs, rfl, rfl, h0, r0⟩ := trodAll_cons hA
  obtain ⟨v1, vs1, d1, ds1, p1, q1, rfl, rfl, rfl, h1, r1⟩ := trodAll_cons r0
  obtain ⟨v2, vs2, d2, ds2, p2, q2, rfl, rfl, rfl, h2, r2⟩ := trodAll_cons r1
  obtain ⟨rfl, rfl, rfl⟩ := trodAll_nil r2
  obtain rfl : args = #[v0, v1, v2] := by cases args; simp_all
  obtain ⟨rfl, rfl⟩ := trodVars_none hV
  have k0 := h0
  have lt0 : ∀ x ∈ p0, x.block < W.heap.size := by obtain ⟨m, hm⟩ := k0; exact DataW.trod_lt m _ _ _ hm
  have k1 := h1
  have lt1 : ∀ x ∈ p1, x.block < W.heap.size := by obtain ⟨m, hm⟩ := k1; exact DataW.trod_lt m _ _ _ hm
  have k2 := h2
  have lt2 : ∀ x ∈ p2, x.block < W.heap.size := by obtain ⟨m, hm⟩ := k2; exact DataW.trod_lt m _ _ _ hm
  obtain ⟨a0, rfl, rfl, rfl, w0⟩ := open_string Try.underlying9 (hval 0 9 v0 rfl rfl) h0
  obtain ⟨a1, len1, cap1, rfl⟩ := okWide_slice Try.underlying22 (hval 1 22 v1 rfl rfl)
  obtain ⟨fuel1, hf1⟩ := h1
  have z1 : ∀ n ∈ d1.weights Try.prog 22, n ≤ reachBytes := fun n hn => by simpa using List.all_eq_true.1 hsz0 n (DataW.weights_mem_each (j := 1) (t := 22) (d := d1) rfl rfl n hn)
  obtain ⟨l1, rd1, ln1, ok1⟩ := open_dlz hf1 z1
  obtain ⟨a2, len2, cap2, rfl⟩ := okWide_slice Try.underlying22 (hval 2 22 v2 rfl rfl)
  obtain ⟨fuel2, hf2⟩ := h2
  have z2 : ∀ n ∈ d2.weights Try.prog 22, n ≤ reachBytes := fun n hn => by simpa using List.all_eq_true.1 hsz0 n (DataW.weights_mem_each (j := 2) (t := 22) (d := d2) rfl rfl n hn)
  obtain ⟨l2, rd2, ln2, ok2⟩ := open_dlz hf2 z2
  clear hA0
  simp only [List.append_nil] at hW'
  refine (walk a0 (.slice a1 len1 cap1) l1 (.slice a2 len2 cap2) l2 W w0 rd1 ln1 ok1 rd2 ln2 ok2).mono fun e W' ⟨he, bel⟩ => ?_
  subst he
  exact ⟨_, rfl, _, _, _, [], _, [], hW', trodAll_mk1 (shut_bool Try.underlying4 _), (trodAll_cons_mk (Below.trod laidOut (by kernel_rfl) (of_decide_eq_true (by kernel_rfl)) k0 bel lt0) (trodAll_cons_mk (Below.trod laidOut (by kernel_rfl) (of_decide_eq_true (by kernel_rfl)) k1 bel lt1) (trodAll_cons_mk (Below.trod laidOut (by kernel_rfl) (of_decide_eq_true (by kernel_rfl)) k2 bel lt2) trodAll_mk0))), rfl, bel.frame _, fun h => by cases h⟩

set_option maxRecDepth 100000 in
theorem lifted (os : Os) (started : os.Started) (H : Type) (enc : TypeId × Value → H) :
    ReturnsInHanded {} Try.checked os 8 .any (Rows.otDoesSpec.pre6 enc Try.prog Try.f8 Rows.otDoesRow.domain false) (Rows.otDoesSpec.post enc Try.prog Try.f8 false true false false) := by
  refine returnsInHanded_of_change_sized (C := Try.checked) own started (by kernel_rfl) Try.func8
    (ChangeSpec.witness6 (enc := enc) (C := Try.checked) false ⟨#[], #[.string .empty, .slice none 0 0, .slice none 0 0], []⟩ 8 (by kernel_rfl) (by kernel_rfl) (by kernel_rfl) (by kernel_rfl)) ?_
  intro W base args ds gs before hval hW _ hsz _
  exact contract H enc W base args ds gs before hval hW hsz

theorem holds : Rows.OtDoesSaid :=
  OpenClaim.holds_of_wide 8 Try.f8 rfl rfl rfl rfl rfl rfl rfl ⟨rfl, rfl, rfl, rfl, rfl⟩ rfl rfl rfl rfl rfl (by kernel_rfl) Try.func8 (by kernel_rfl)
    (of_decide_eq_true (by kernel_rfl)) (by unfold Func.isWrapper; first | (rw [if_pos (by decide +kernel)]; kernel_rfl) | (rw [if_neg (by decide +kernel)]; exact ⟨rfl, rfl⟩))
    (fun os started H enc _ => lifted os started H enc)
end Go.Proofs.Ytphbjbigjpfjfaa.otDoes
namespace Go.Proofs.Ytphbjbigjpfjfaa
theorem otDoes_holds : Rows.OtDoesSaid := otDoes.holds
#print axioms otDoes_holds
end Go.Proofs.Ytphbjbigjpfjfaa
