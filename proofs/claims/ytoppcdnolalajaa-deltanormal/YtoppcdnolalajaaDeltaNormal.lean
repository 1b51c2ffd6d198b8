/-
  Proved: the normal form of a delta does the same to every text as the delta, and is its own normal form (the law DeltaNormal), for every input.
-/
import Derived.Test.YtoppcdnolalajaaDMb
import Derived.Test.YtoppcdnolalajaaDArg
import Derived.ChangeOld
import Derived.ShutString
namespace Go.Proofs.Ytoppcdnolalajaa.deltaNormal
open Go.RowKit Go.ChangeShapes Go.WideShapes Go.ChangeAt Go.PlainAid
open Go.ChangeMaps (open_string shut_string)

set_option maxRecDepth 20000 in
set_option maxHeartbeats 4000000 in
theorem walk (s : ByteArray) (v : Value) (ds : List OpD) (w : World) (hs : s.size ≤ maxLen) (_hs2 : s.size ≤ 140737488351232) (hr : RdD w v ds) (hm : ds.length ≤ 4398046511104) (hio : ∀ o ∈ ds, o.In ∧ o.Ok) :
    Calls Try.prog 8 #[.string s, v] w fun e w' => e = .returned (.bool true) ∧ Below w.heap.size w w' := by
  have hm' : ds.length ≤ maxLen := by unfold maxLen; omega
  have hi : ∀ o ∈ ds, o.In := fun o ho => (hio o ho).1
  have hbd := stR_bd ds
  have hok := stR_ok hi
  have cN := normal_any v ds w hr hm' hi
  by_cases hc : chk ds = 0
  · obtain ⟨n1, n2, n3, n4, n5⟩ := normal_facts hok hbd.1 hbd.2
    obtain ⟨nl, ni⟩ := jn_in hok hbd.1 hbd.2
    have nl' : (jn (stR ds)).length ≤ maxLen := by unfold maxLen; omega
    have cM := fun u W h => normal_any u (jn (stR ds)) W h nl' ni
    have cA := fun u W h => apply_any s u ds W hs h hm' hi
    have cB := fun u W h => apply_any s u (jn (stR ds)) W hs h nl' ni
    have bA := fun u W h => base_any u ds W h hm' hi
    have bB := fun u W h => base_any u (jn (stR ds)) W h nl' ni
    have tA := fun u W h => target_any u ds W h hm' hi
    have tB := fun u W h => target_any u (jn (stR ds)) W h nl' ni
    have cS := fun a b W h1 h2 => same_true a b (jn (stR ds)) W nl' h1 h2
    rw [hc] at cN bA tA
    rw [n1, n2] at cM
    rw [apR_normal hi hc] at cB
    rw [n1, n4] at bB
    rw [n1, n5] at tB
    clear n1 n2 n3 n4 n5 hok hio nl' ni nl hbd
    generalize jn (stR ds) = N at *
    generalize bsum (stR ds) = B at *
    generalize tsum (stR ds) = T at *
    generalize apR s ds = a at *
    obtain ⟨a1, a2⟩ := a
    simp only at cA cB
    clear hc
    go_enter Try.func8, Try.ntmps8
    go_wp2_with fail
    refine cN.mono ?_
    rintro e w1 ⟨u1, rfl, ho1, hb1⟩
    have r1 := rdd_own ho1
    have d1 := hr.below hb1
    clear cN ho1
    go_wp2_with fail
    refine (cM _ _ r1).mono ?_
    rintro e w2 ⟨u2, rfl, ho2, hb2⟩
    have q2 := rdd_own ho2
    have r2 := r1.below hb2
    have d2 := d1.below hb2
    have hB2 := chain hb1 hb2
    clear cM ho2 hb1 hb2 r1 d1
    go_wp2_with fail
    refine (cA _ _ d2).mono ?_
    rintro e w3 ⟨rfl, hb3⟩
    have q3 := q2.below hb3
    have r3 := r2.below hb3
    have d3 := d2.below hb3
    have hB3 := chain hB2 hb3
    clear cA hB2 hb3 q2 r2 d2
    go_wp2_with fail
    refine (cB _ _ r3).mono ?_
    rintro e w4 ⟨rfl, hb4⟩
    have q4 := q3.below hb4
    have r4 := r3.below hb4
    have d4 := d3.below hb4
    have hB4 := chain hB3 hb4
    clear cB hB3 hb4 q3 r3 d3
    go_wp2_with fail
    refine (bA _ _ d4).mono ?_
    rintro e w5 ⟨rfl, hb5⟩
    have q5 := q4.below hb5
    have r5 := r4.below hb5
    have d5 := d4.below hb5
    have hB5 := chain hB4 hb5
    clear bA hB4 hb5 q4 r4 d4
    go_wp2_with fail
    refine (bB _ _ r5).mono ?_
    rintro e w6 ⟨rfl, hb6⟩
    have q6 := q5.below hb6
    have r6 := r5.below hb6
    have d6 := d5.below hb6
    have hB6 := chain hB5 hb6
    clear bB hB5 hb6 q5 r5 d5
    go_wp2_with fail
    refine (tA _ _ d6).mono ?_
    rintro e w7 ⟨rfl, hb7⟩
    have q7 := q6.below hb7
    have r7 := r6.below hb7
    have hB7 := chain hB6 hb7
    clear tA hB6 hb7 q6 r6 d6
    go_wp2_with fail
    refine (tB _ _ r7).mono ?_
    rintro e w8 ⟨rfl, hb8⟩
    have q8 := q7.below hb8
    have r8 := r7.below hb8
    have hB8 := chain hB7 hb8
    clear tB hB7 hb8 q7 r7
    go_wp2_with (first | (go_at_call 18; refine (cS _ _ _ q8 r8).mono ?_; rintro e w9 ⟨rfl, hb9⟩) | (go_at_call 19; refine (live_any _).mono ?_; rintro e w10 ⟨rfl, hb10⟩))
    go_ret
    exact ⟨rfl, chain (chain hB8 hb9) hb10⟩
  · have hne : (chk ds != 0) = true := by simpa using hc
    rw [chk_no ds hc] at cN
    have e0 : jn [] = [] := rfl
    rw [e0] at cN
    generalize chk ds = c at *
    go_enter Try.func8, Try.ntmps8
    go_wp2_with (first | (go_at_call 13; refine cN.mono ?_; rintro e w1 ⟨u1, rfl, ho1, hb1⟩; obtain ⟨ao, cp, rfl⟩ := own_form ho1) | (go_at_call 19; refine (live_any _).mono ?_; rintro e w10 ⟨rfl, hb10⟩))
    go_ret
    exact ⟨rfl, chain hb1 hb10⟩

theorem own : ownKnob Try.prog.godebug = none := by kernel_rfl
theorem laidOut : laidOutB Try.prog = true := by kernel_rfl

set_option maxRecDepth 20000 in
theorem contract (H : Type) (enc : TypeId × Value → H) (W : World) (base : Nat) (args : Array Value) (ds gs : List (DataW H)) (before : List MemPlace)
    (hval : ∀ (j : Nat) t v, Try.f8.params[j]? = some t → args[j]? = some v → Value.okWide Try.prog W .any base t v)
    (hW : DataW.Whole enc Try.prog Try.f8.params.toList Rows.deltaNormalSpec.vars false W args.toList ds gs before) (hsz0 : (DataW.weightsEach Try.prog (Try.f8.params.toList ++ Rows.deltaNormalSpec.plain.varTypes Try.prog) (ds ++ gs)).all (· ≤ reachBytes) = true) :
    Calls Try.prog 8 args W fun e W' => ∃ v, e = .returned v ∧ Rows.deltaNormalSpec.post enc Try.prog Try.f8 false true false false W args v W' := by
  have hW' := hW
  obtain ⟨p, q, hA0, hV, rfl, hfz, hnd⟩ := hW
  have hA : DataW.TrodAll enc Try.prog W 0 (fun _ => true) true Try.f8.params.toList args.toList ds p := hA0
  rw [Try.params8] at hA hval hsz0
  obtain ⟨v0, vs0, d0, ds0, p0, q0, hargs, rfl, rfl, h0, r0⟩ := trodAll_cons hA
  obtain ⟨v1, vs1, d1, ds1, p1, q1, rfl, rfl, rfl, h1, r1⟩ := trodAll_cons r0
  obtain ⟨rfl, rfl, rfl⟩ := trodAll_nil r1
  obtain rfl : args = #[v0, v1] := by cases args; simp_all
  obtain ⟨rfl, rfl⟩ := trodVars_none hV
  have k0 := h0
  have lt0 : ∀ x ∈ p0, x.block < W.heap.size := by obtain ⟨m, hm⟩ := k0; exact DataW.trod_lt m _ _ _ hm
  have k1 := h1
  have lt1 : ∀ x ∈ p1, x.block < W.heap.size := by obtain ⟨m, hm⟩ := k1; exact DataW.trod_lt m _ _ _ hm
  obtain ⟨a0, rfl, rfl, rfl, w0⟩ := open_string Try.underlying9 (hval 0 9 v0 rfl rfl) h0
  have z0 := sized_string hsz0 (j := 0) (t := 9) rfl rfl
  obtain ⟨a1, len1, cap1, rfl⟩ := okWide_slice Try.underlying22 (hval 1 22 v1 rfl rfl)
  obtain ⟨fuel1, hf1⟩ := h1
  have z1 : ∀ n ∈ d1.weights Try.prog 22, n ≤ reachBytes := fun n hn => by simpa using List.all_eq_true.1 hsz0 n (DataW.weights_mem_each (j := 1) (t := 22) (d := d1) rfl rfl n hn)
  obtain ⟨l1, rd1, ln1, ok1⟩ := open_dlz hf1 z1
  clear hA0
  simp only [List.append_nil] at hW'
  refine (walk a0 (.slice a1 len1 cap1) l1 W w0 (by simpa [reachBytes] using z0) rd1 ln1 ok1).mono fun e W' ⟨he, bel⟩ => ?_
  subst he
  exact ⟨_, rfl, _, _, _, [], _, [], hW', trodAll_mk1 (shut_bool Try.underlying4 _), (trodAll_cons_mk (Below.trod laidOut (by kernel_rfl) (of_decide_eq_true (by kernel_rfl)) k0 bel lt0) (trodAll_cons_mk (Below.trod laidOut (by kernel_rfl) (of_decide_eq_true (by kernel_rfl)) k1 bel lt1) trodAll_mk0)), rfl, bel.frame _, fun h => by cases h⟩

set_option maxRecDepth 100000 in
theorem lifted (os : Os) (started : os.Started) (H : Type) (enc : TypeId × Value → H) :
    ReturnsInHanded {} Try.checked os 8 .any (Rows.deltaNormalSpec.pre6 enc Try.prog Try.f8 Rows.deltaNormalRow.domain false) (Rows.deltaNormalSpec.post enc Try.prog Try.f8 false true false false) := by
  refine returnsInHanded_of_change_sized (C := Try.checked) own started (by kernel_rfl) Try.func8
    (ChangeSpec.witness6 (enc := enc) (C := Try.checked) false ⟨#[], #[.string .empty, .slice none 0 0], []⟩ 8 (by kernel_rfl) (by kernel_rfl) (by kernel_rfl) (by kernel_rfl)) ?_
  intro W base args ds gs before hval hW _ hsz _
  exact contract H enc W base args ds gs before hval hW hsz

theorem holds : Rows.DeltaNormalSaid :=
  OpenClaim.holds_of_wide 8 Try.f8 rfl rfl rfl rfl rfl rfl rfl ⟨rfl, rfl, rfl, rfl, rfl⟩ rfl rfl rfl rfl rfl (by kernel_rfl) Try.func8 (by kernel_rfl)
    (of_decide_eq_true (by kernel_rfl)) (by unfold Func.isWrapper; first | (rw [if_pos (by decide +kernel)]; kernel_rfl) | (rw [if_neg (by decide +kernel)]; exact ⟨rfl, rfl⟩))
    (fun os started H enc _ => lifted os started H enc)
end Go.Proofs.Ytoppcdnolalajaa.deltaNormal
namespace Go.Proofs.Ytoppcdnolalajaa
theorem deltaNormal_holds : Rows.DeltaNormalSaid := deltaNormal.holds
#print axioms deltaNormal_holds
end Go.Proofs.Ytoppcdnolalajaa
