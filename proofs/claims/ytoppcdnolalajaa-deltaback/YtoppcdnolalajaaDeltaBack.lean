/-
  Proved: what was written of a delta is read again, and has one form (the law DeltaBack), for every input.
-/
import Derived.Test.YtoppcdnolalajaaDlH
import Derived.Test.YtoppcdnolalajaaPkRefW
import Derived.ChangeOld
import Derived.ShutString
namespace Go.Proofs.Ytoppcdnolalajaa.deltaBack
open Go.RowKit Go.ChangeShapes Go.WideShapes Go.ChangeAt Go.PlainAid
open Go.ChangeMaps (open_string shut_string)

set_option maxRecDepth 20000 in
set_option maxHeartbeats 2000000 in
theorem walk (v : Value) (ds : List OpD) (more : ByteArray) (w : World) (hr : RdD w v ds) (hm : ds.length ≤ 4398046511104) (hio : ∀ o ∈ ds, o.In ∧ o.Ok) (_hs : more.size ≤ maxLen) (hs2 : more.size ≤ 140737488351232) :
    Calls Try.prog 7 #[v, .string more] w fun e w' => e = .returned (.bool true) ∧ Below w.heap.size w w' := by
  have hm' : ds.length ≤ maxLen := by unfold maxLen; omega
  have hi : ∀ o ∈ ds, o.In := fun o ho => (hio o ho).1
  have cE := encode_any v ds w hr hm' hi
  by_cases hc : chk ds = 0
  · have eE : encR ds = (mk (encB (stR ds)), 0) := by rw [encR, if_pos hc]
    rw [eE] at cE
    simp only at cE
    have hbl := encB_len hi
    have d1 := dec_enc hi hc
    have cD := fun W => decode_any (mk (encB (stR ds))) W (by rw [mk_size]; unfold maxLen; omega)
    rw [d1] at cD
    simp only at cD
    have cS := fun a b W h1 h2 => same_true a b ds W hm' h1 h2
    by_cases hz : more.size = 0
    · have hE := empty_tt hz
      clear eE hbl d1 hc hio hi hm hs2 hz
      generalize mk (encB (stR ds)) = S at *
      go_enter Try.func7, Try.ntmps7
      go_wp2_with (first | (go_at_call 22; refine cE.mono ?_; rintro e w1 ⟨rfl, hb1⟩) | (go_at_call 24; refine (cD _).mono ?_; rintro e w2 ⟨u2, rfl, ho2, hb2⟩) | (go_at_call 18; refine (cS _ _ _ (rdd_own ho2) ((hr.below hb1).below hb2)).mono ?_; rintro e w3 ⟨rfl, hb3⟩) | (go_at_call 19; refine (live_any _).mono ?_; rintro e w4 ⟨rfl, hb4⟩))
      go_ret
      exact ⟨rfl, chain (chain (chain hb1 hb2) hb3) hb4⟩
    · have hE := empty_ff hz
      have d2 := dec_more hi hc more.data.toList (by rw [data_len]; omega)
      have cM := fun W => decode_any (mk (encB (stR ds) ++ more.data.toList)) W (by rw [mk_size, List.length_append, data_len]; unfold maxLen; omega)
      rw [d2] at cM
      simp only at cM
      have hadd := fun W => pk.add_mk (encB (stR ds)) more.data.toList W (by rw [data_len]; omega)
      rw [mk_data] at hadd
      clear eE hbl d1 d2 hc hio hi hm hs2 hz
      generalize mk (encB (stR ds) ++ more.data.toList) = S2 at *
      generalize mk (encB (stR ds)) = S at *
      go_enter Try.func7, Try.ntmps7
      go_wp2_with fail
      refine cE.mono ?_
      rintro e w1 ⟨rfl, hb1⟩
      clear cE
      go_wp2_with fail
      refine (cD _).mono ?_
      rintro e w2 ⟨u2, rfl, ho2, hb2⟩
      clear cD
      go_wp2_with fail
      refine (cS _ _ _ (rdd_own ho2) ((hr.below hb1).below hb2)).mono ?_
      rintro e w3 ⟨rfl, hb3⟩
      clear cS ho2
      go_wp2_with fail
      refine (cM _).mono ?_
      rintro e w4 ⟨u4, rfl, ho4, hb4⟩
      clear cM ho4
      go_wp2_with (go_at_call 19; refine (live_any _).mono ?_; rintro e w5 ⟨rfl, hb5⟩)
      go_ret
      exact ⟨rfl, chain (chain (chain (chain hb1 hb2) hb3) hb4) hb5⟩
  · have eE : encR ds = (⟨#[]⟩, chk ds) := by rw [encR, if_neg hc]
    rw [eE] at cE
    simp only at cE
    have hne : (chk ds != 0) = true := by simpa using hc
    clear eE
    generalize chk ds = c at *
    go_enter Try.func7, Try.ntmps7
    go_wp2_with (first | (go_at_call 22; refine cE.mono ?_; rintro e w1 ⟨rfl, hb1⟩) | (go_at_call 19; refine (live_any _).mono ?_; rintro e w10 ⟨rfl, hb10⟩))
    go_ret
    exact ⟨rfl, chain hb1 hb10⟩

theorem own : ownKnob Try.prog.godebug = none := by kernel_rfl
theorem laidOut : laidOutB Try.prog = true := by kernel_rfl

set_option maxRecDepth 20000 in
theorem contract (H : Type) (enc : TypeId × Value → H) (W : World) (base : Nat) (args : Array Value) (ds gs : List (DataW H)) (before : List MemPlace)
    (hval : ∀ (j : Nat) t v, Try.f7.params[j]? = some t → args[j]? = some v → Value.okWide Try.prog W .any base t v)
    (hW : DataW.Whole enc Try.prog Try.f7.params.toList Rows.deltaBackSpec.vars false W args.toList ds gs before) (hsz0 : (DataW.weightsEach Try.prog (Try.f7.params.toList ++ Rows.deltaBackSpec.plain.varTypes Try.prog) (ds ++ gs)).all (· ≤ reachBytes) = true) :
    Calls Try.prog 7 args W fun e W' => ∃ v, e = .returned v ∧ Rows.deltaBackSpec.post enc Try.prog Try.f7 false true false false W args v W' := by
  have hW' := hW
  obtain ⟨p, q, hA0, hV, rfl, hfz, hnd⟩ := hW
  have hA : DataW.TrodAll enc Try.prog W 0 (fun _ => true) true Try.f7.params.toList args.toList ds p := hA0
  rw [Try.params7] at hA hval hsz0
  obtain ⟨v0, vs0, d0, ds0, p0, q0, hargs, rfl, rfl, h0, r0⟩ := trodAll_cons hA
  obtain ⟨v1, vs1, d1, ds1, p1, q1, rfl, rfl, rfl, h1, r1⟩ := trodAll_cons r0
  obtain ⟨rfl, rfl, rfl⟩ := trodAll_nil r1
  obtain rfl : args = #[v0, v1] := by cases args; simp_all
  obtain ⟨rfl, rfl⟩ := trodVars_none hV
  have k0 := h0
  have lt0 : ∀ x ∈ p0, x.block < W.heap.size := by obtain ⟨m, hm⟩ := k0; exact DataW.trod_lt m _ _ _ hm
  have k1 := h1
  have lt1 : ∀ x ∈ p1, x.block < W.heap.size := by obtain ⟨m, hm⟩ := k1; exact DataW.trod_lt m _ _ _ hm
  obtain ⟨a0, len0, cap0, rfl⟩ := okWide_slice Try.underlying22 (hval 0 22 v0 rfl rfl)
  obtain ⟨fuel0, hf0⟩ := h0
  have z0 : ∀ n ∈ d0.weights Try.prog 22, n ≤ reachBytes := fun n hn => by simpa using List.all_eq_true.1 hsz0 n (DataW.weights_mem_each (j := 0) (t := 22) (d := d0) rfl rfl n hn)
  obtain ⟨l0, rd0, ln0, ok0⟩ := open_dlz hf0 z0
  obtain ⟨a1, rfl, rfl, rfl, w1⟩ := open_string Try.underlying9 (hval 1 9 v1 rfl rfl) h1
  have z1 := sized_string hsz0 (j := 1) (t := 9) rfl rfl
  clear hA0
  simp only [List.append_nil] at hW'
  refine (walk (.slice a0 len0 cap0) l0 a1 W rd0 ln0 ok0 w1 (by simpa [reachBytes] using z1)).mono fun e W' ⟨he, bel⟩ => ?_
  subst he
  exact ⟨_, rfl, _, _, _, [], _, [], hW', trodAll_mk1 (shut_bool Try.underlying4 _), (trodAll_cons_mk (Below.trod laidOut (by kernel_rfl) (of_decide_eq_true (by kernel_rfl)) k0 bel lt0) (trodAll_cons_mk (Below.trod laidOut (by kernel_rfl) (of_decide_eq_true (by kernel_rfl)) k1 bel lt1) trodAll_mk0)), rfl, bel.frame _, fun h => by cases h⟩

set_option maxRecDepth 100000 in
theorem lifted (os : Os) (started : os.Started) (H : Type) (enc : TypeId × Value → H) :
    ReturnsInHanded {} Try.checked os 7 .any (Rows.deltaBackSpec.pre6 enc Try.prog Try.f7 Rows.deltaBackRow.domain false) (Rows.deltaBackSpec.post enc Try.prog Try.f7 false true false false) := by
  refine returnsInHanded_of_change_sized (C := Try.checked) own started (by kernel_rfl) Try.func7
    (ChangeSpec.witness6 (enc := enc) (C := Try.checked) false ⟨#[], #[.slice none 0 0, .string .empty], []⟩ 8 (by kernel_rfl) (by kernel_rfl) (by kernel_rfl) (by kernel_rfl)) ?_
  intro W base args ds gs before hval hW _ hsz _
  exact contract H enc W base args ds gs before hval hW hsz

theorem holds : Rows.DeltaBackSaid :=
  OpenClaim.holds_of_wide 7 Try.f7 rfl rfl rfl rfl rfl rfl rfl ⟨rfl, rfl, rfl, rfl, rfl⟩ rfl rfl rfl rfl rfl (by kernel_rfl) Try.func7 (by kernel_rfl)
    (of_decide_eq_true (by kernel_rfl)) (by unfold Func.isWrapper; first | (rw [if_pos (by decide +kernel)]; kernel_rfl) | (rw [if_neg (by decide +kernel)]; exact ⟨rfl, rfl⟩))
    (fun os started H enc _ => lifted os started H enc)
end Go.Proofs.Ytoppcdnolalajaa.deltaBack
namespace Go.Proofs.Ytoppcdnolalajaa
theorem deltaBack_holds : Rows.DeltaBackSaid := deltaBack.holds
#print axioms deltaBack_holds
end Go.Proofs.Ytoppcdnolalajaa
