/-
  Proved: a text behind a delta is as long as its target (the law DeltaLengths), for every input.
-/
import Derived.Test.YtoppcdnolalajabDlL
import Derived.Test.YtoppcdnolalajabDArg
import Derived.ChangeOld
import Derived.ShutString
namespace Go.Proofs.Ytoppcdnolalajab.deltaLengths
open Go.RowKit Go.ChangeShapes Go.WideShapes Go.ChangeAt Go.PlainAid
open Go.ChangeMaps (open_string shut_string)

set_option maxRecDepth 20000 in
set_option maxHeartbeats 4000000 in
theorem walk (s : ByteArray) (v : Value) (ds : List OpD) (w : World) (hs : s.size ≤ maxLen) (_hs2 : s.size ≤ 140737488351232) (hr : RdD w v ds) (hm : ds.length ≤ 4398046511104) (hio : ∀ o ∈ ds, o.In ∧ o.Ok) :
    Calls Try.prog 3 #[.string s, v] w fun e w' => e = .returned (.bool true) ∧ Below w.heap.size w w' := by
  have hm' : ds.length ≤ maxLen := by unfold maxLen; omega
  have hi : ∀ o ∈ ds, o.In := fun o ho => (hio o ho).1
  have hbd := stR_bd ds
  have cA := apply_any s v ds w hs hr hm' hi
  rcases apR_cases (s := s) hi with ⟨h1, h2⟩ | ⟨h1, h2, h3, h4, h5⟩
  · rw [h2] at cA
    have hne : ((apR s ds).2 != 0) = true := by simpa using h1
    clear h1 h2
    generalize (apR s ds).2 = c at *
    go_enter Try.func3, Try.ntmps3
    go_wp2_with (first | (go_at_call 4; refine cA.mono ?_; rintro e w1 ⟨rfl, hb1⟩) | (go_at_call 5; refine (live_any _).mono ?_; rintro e w10 ⟨rfl, hb10⟩))
    go_ret
    exact ⟨rfl, chain hb1 hb10⟩
  · have z1 := size_small (s := s) (by omega) (by omega)
    have z2 := size_small (s := (apR s ds).1) (by omega) (by omega)
    have bA := fun W h => base_any v ds W h hm' hi
    have tA := fun W h => target_any v ds W h hm' hi
    have lA := fun W => refLen_any s W (by omega)
    have lB := fun W => refLen_any (apR s ds).1 W (by omega)
    rw [h2] at bA tA
    rw [h1] at cA
    rw [← h3] at lA
    rw [h4] at lB
    clear h1 h2 h3 h4 h5 hbd z1 z2 hio
    generalize (apR s ds).1 = t at *
    generalize bsum (stR ds) = B at *
    generalize tsum (stR ds) = T at *
    go_enter Try.func3, Try.ntmps3
    go_wp2_with fail
    refine cA.mono ?_
    rintro e w1 ⟨rfl, hb1⟩
    have d1 := hr.below hb1
    clear cA
    go_wp2_with fail
    refine (bA _ d1).mono ?_
    rintro e w2 ⟨rfl, hb2⟩
    have d2 := d1.below hb2
    have hB2 := chain hb1 hb2
    clear bA hb1 hb2 d1
    go_wp2_with fail
    refine (tA _ d2).mono ?_
    rintro e w3 ⟨rfl, hb3⟩
    have hB3 := chain hB2 hb3
    clear tA hB2 hb3 d2
    go_wp2_with fail
    refine (lA _).mono ?_
    rintro e w4 ⟨rfl, hb4⟩
    have hB4 := chain hB3 hb4
    clear lA hB3 hb4
    go_wp2_with fail
    refine (lB _).mono ?_
    rintro e w5 ⟨rfl, hb5⟩
    have hB5 := chain hB4 hb5
    clear lB hB4 hb5
    go_wp2_with (go_at_call 5; refine (live_any _).mono ?_; rintro e w10 ⟨rfl, hb10⟩)
    go_ret
    exact ⟨rfl, chain hB5 hb10⟩

theorem own : ownKnob Try.prog.godebug = none := by kernel_rfl
theorem laidOut : laidOutB Try.prog = true := by kernel_rfl

set_option maxRecDepth 20000 in
theorem contract (H : Type) (enc : TypeId × Value → H) (W : World) (base : Nat) (args : Array Value) (ds gs : List (DataW H)) (before : List MemPlace)
    (hval : ∀ (j : Nat) t v, Try.f3.params[j]? = some t → args[j]? = some v → Value.okWide Try.prog W .any base t v)
    (hW : DataW.Whole enc Try.prog Try.f3.params.toList Rows.deltaLengthsSpec.vars false W args.toList ds gs before) (hsz0 : (DataW.weightsEach Try.prog (Try.f3.params.toList ++ Rows.deltaLengthsSpec.plain.varTypes Try.prog) (ds ++ gs)).all (· ≤ reachBytes) = true) :
    Calls Try.prog 3 args W fun e W' => ∃ v, e = .returned v ∧ Rows.deltaLengthsSpec.post enc Try.prog Try.f3 false true false false W args v W' := by
  have hW' := hW
  obtain ⟨p, q, hA0, hV, rfl, hfz, hnd⟩ := hW
  have hA : DataW.TrodAll enc Try.prog W 0 (fun _ => true) true Try.f3.params.toList args.toList ds p := hA0
  rw [Try.params3] at hA hval hsz0
  obtain ⟨v0, vs0, d0, ds0, p0, q0, hargs, rfl, rfl, h0, r0⟩ := trodAll_cons hA
  obtain ⟨v1, vs1, d1, ds1, p1, q1, rfl, rfl, rfl, h1, r1⟩ := trodAll_cons r0
  obtain ⟨rfl, rfl, rfl⟩ := trodAll_nil r1
  obtain rfl : args = #[v0, v1] := by cases args; simp_all
  obtain ⟨rfl, rfl⟩ := trodVars_none hV
  have k0 := h0
  have lt0 : ∀ x ∈ p0, x.block < W.heap.size := by obtain ⟨m, hm⟩ := k0; exact DataW.trod_lt m _ _ _ hm
  have k1 := h1
  have lt1 : ∀ x ∈ p1, x.block < W.heap.size := by obtain ⟨m, hm⟩ := k1; exact DataW.trod_lt m _ _ _ hm
  obtain ⟨a0, rfl, rfl, rfl, w0⟩ := open_string Try.underlying9 (hval 0 9 v0 rfl rfl) h0
  have z0 := sized_string hsz0 (j := 0) (t := 9) rfl rfl
  obtain ⟨a1, len1, cap1, rfl⟩ := okWide_slice Try.underlying22 (hval 1 22 v1 rfl rfl)
  obtain ⟨fuel1, hf1⟩ := h1
  have z1 : ∀ n ∈ d1.weights Try.prog 22, n ≤ reachBytes := fun n hn => by simpa using List.all_eq_true.1 hsz0 n (DataW.weights_mem_each (j := 1) (t := 22) (d := d1) rfl rfl n hn)
  obtain ⟨l1, rd1, ln1, ok1⟩ := open_dlz hf1 z1
  clear hA0
  simp only [List.append_nil] at hW'
  refine (walk a0 (.slice a1 len1 cap1) l1 W w0 (by simpa [reachBytes] using z0) rd1 ln1 ok1).mono fun e W' ⟨he, bel⟩ => ?_
  subst he
  exact ⟨_, rfl, _, _, _, [], _, [], hW', trodAll_mk1 (shut_bool Try.underlying4 _), (trodAll_cons_mk (Below.trod laidOut (by kernel_rfl) (of_decide_eq_true (by kernel_rfl)) k0 bel lt0) (trodAll_cons_mk (Below.trod laidOut (by kernel_rfl) (of_decide_eq_true (by kernel_rfl)) k1 bel lt1) trodAll_mk0)), rfl, bel.frame _, fun h => by cases h⟩

set_option maxRecDepth 100000 in
theorem lifted (os : Os) (started : os.Started) (H : Type) (enc : TypeId × Value → H) :
    ReturnsInHanded {} Try.checked os 3 .any (Rows.deltaLengthsSpec.pre6 enc Try.prog Try.f3 Rows.deltaLengthsRow.domain false) (Rows.deltaLengthsSpec.post enc Try.prog Try.f3 false true false false) := by
  refine returnsInHanded_of_change_sized (C := Try.checked) own started (by kernel_rfl) Try.func3
    (ChangeSpec.witness6 (enc := enc) (C := Try.checked) false ⟨#[], #[.string .empty, .slice none 0 0], []⟩ 8 (by kernel_rfl) (by kernel_rfl) (by kernel_rfl) (by kernel_rfl)) ?_
  intro W base args ds gs before hval hW _ hsz _
  exact contract H enc W base args ds gs before hval hW hsz

theorem holds : Rows.DeltaLengthsSaid :=
  OpenClaim.holds_of_wide 3 Try.f3 rfl rfl rfl rfl rfl rfl rfl ⟨rfl, rfl, rfl, rfl, rfl⟩ rfl rfl rfl rfl rfl (by kernel_rfl) Try.func3 (by kernel_rfl)
    (of_decide_eq_true (by kernel_rfl)) (by unfold Func.isWrapper; first | (rw [if_pos (by decide +kernel)]; kernel_rfl) | (rw [if_neg (by decide +kernel)]; exact ⟨rfl, rfl⟩))
    (fun os started H enc _ => lifted os started H enc)
end Go.Proofs.Ytoppcdnolalajab.deltaLengths
namespace Go.Proofs.Ytoppcdnolalajab
theorem deltaLengths_holds : Rows.DeltaLengthsSaid := deltaLengths.holds
#print axioms deltaLengths_holds
end Go.Proofs.Ytoppcdnolalajab
