/-
  Proved: a number, a list of texts and a word that are written are read again, whatever stands around them (the law PackBack), for every input.
-/
import Derived.Test.YthkkdbcflfhmaabArgs
namespace Go.Proofs.Ythkkdbcflfhmaab.packBack
open Go.ChangeShapes Go.WideShapes Go.ChangeAt Go.RowKit Go.PlainAid
open Go.ChangeMaps (open_string shut_string)

theorem numBack (n : Int) (r : ByteArray) (hr : r.size ≤ 140737488351232) :
    ∃ (F S0 S1 : ByteArray) (er : Int), (∀ W, Calls Try.prog 9 #[.int .i64 n] W fun e w' => e = .returned (.tuple #[.string F, .int .i64 er]) ∧ Below W.heap.size W w') ∧
    (er = 0 → (∀ W, (Op.stringOp .add r F).run Try.prog W = .ok (.string S0) W) ∧ (∀ W, (Op.stringOp .add S0 r).run Try.prog W = .ok (.string S1) W) ∧ F.size ≤ 10 ∧
      (∀ W, Calls Try.prog 19 #[.string S1, .int .i64 (r.size : Int)] W fun e w' => e = .returned (.tuple #[.int .i64 n, .int .i64 ((r.size : Int) + (F.size : Int)), .int .i64 0]) ∧ W = w')) := by
  by_cases h : 0 ≤ n ∧ n ≤ 1125899906842624
  · obtain ⟨m, rfl⟩ := Int.eq_ofNat_of_zero_le h.1
    have hl := numB_len (n := m)
    have hm : (mk (numB m)).size = (numB m).length := mk_size _
    refine ⟨mk (numB m), r ++ mk (numB m), r ++ mk (numB m) ++ r, 0, fun W => num_ok m W (by omega), fun _ => ⟨fun W => run_string_add_sum W _ _ (by omega), fun W => run_string_add_sum W _ _ (by rw [ByteArray.size_append]; omega), by omega, fun W => ?_⟩⟩
    have e := tk_at (most := 1125899906842624) (by decide) h.2 (at_mid r r (numB m))
    have := takeNum_any (r ++ mk (numB m) ++ r) (r.size : Int) W (by rw [size_mid]; unfold maxLen; omega)
    rw [e] at this
    rw [hm]
    exact this
  · exact ⟨_, ⟨#[]⟩, ⟨#[]⟩, 20, fun W => num_no n W (by omega), fun h => by omega⟩

theorem listBack (xs : List ByteArray) (r : ByteArray) (hr : r.size ≤ 140737488351232) (hx : xs.length ≤ maxLen) :
    ∃ (F S0 S1 : ByteArray) (er : Int), (∀ v W, Reads W v xs → Calls Try.prog 13 #[v] W fun e w' => e = .returned (.tuple #[.string F, .int .i64 er]) ∧ Below W.heap.size W w') ∧
    (er = 0 → (∀ W, (Op.stringOp .add r F).run Try.prog W = .ok (.string S0) W) ∧ (∀ W, (Op.stringOp .add S0 r).run Try.prog W = .ok (.string S1) W) ∧ F.size ≤ 1000000000 ∧
      (∀ W, Calls Try.prog 26 #[.string S1, .int .i64 (r.size : Int)] W fun e w' => ∃ v, e = .returned (.tuple #[v, .int .i64 ((r.size : Int) + (F.size : Int)), .int .i64 0]) ∧ Reads w' v xs ∧ Below W.heap.size W w')) := by
  by_cases h : xs.length ≤ 8000 ∧ ∀ s ∈ xs, s.size ≤ 20000
  · have hR : listR xs = (mk (listB xs), 0) := by rw [listR, if_pos h]
    have hl : (listB xs).length ≤ 10 + xs.length * 20010 := by rw [← part_all]; exact part_len xs _ h.2
    have hm : (mk (listB xs)).size = (listB xs).length := mk_size _
    refine ⟨mk (listB xs), r ++ mk (listB xs), r ++ mk (listB xs) ++ r, 0, fun v W hv => ?_, fun _ => ⟨fun W => run_string_add_sum W _ _ (by omega), fun W => run_string_add_sum W _ _ (by rw [ByteArray.size_append]; omega), by omega, fun W => ?_⟩⟩
    · have := list_any v xs W hx hv
      rwa [hR] at this
    · have e := tkL_at h.1 h.2 (at_mid r r (listB xs))
      refine (takeList_any (r ++ mk (listB xs) ++ r) (r.size : Int) W (by rw [size_mid]; unfold maxLen; omega)).mono ?_
      rintro e' w' ⟨v, he, ho, hb⟩
      rw [e] at he ho
      refine ⟨v, ?_, reads_own ho, hb⟩
      rw [hm]
      exact he
  · have hR : listR xs = (⟨#[]⟩, 2) := by rw [listR, if_neg h]
    refine ⟨⟨#[]⟩, ⟨#[]⟩, ⟨#[]⟩, 2, fun v W hv => ?_, fun h => by omega⟩
    have := list_any v xs W hx hv
    rwa [hR] at this

theorem wordBack (x : Nat) (r : ByteArray) (hr : r.size ≤ 140737488351232) (hx : x ≤ 4294967295) :
    ∃ (F S0 S1 : ByteArray), (∀ W, Calls Try.prog 17 #[.int .u32 (x : Int)] W fun e w' => e = .returned (.string F) ∧ Below W.heap.size W w') ∧
    (∀ W, (Op.stringOp .add r F).run Try.prog W = .ok (.string S0) W) ∧ (∀ W, (Op.stringOp .add S0 r).run Try.prog W = .ok (.string S1) W) ∧
      (∀ W, Calls Try.prog 23 #[.string S1, .int .i64 (r.size : Int)] W fun e w' => e = .returned (.tuple #[.int .u32 (x : Int), .int .i64 ((r.size : Int) + 4), .int .i64 0]) ∧ W = w') := by
  have hm : (mk (wordB x)).size = 4 := mk_size _
  refine ⟨mk (wordB x), r ++ mk (wordB x), r ++ mk (wordB x) ++ r, fun W => word_any x W hx, fun W => run_string_add_sum W _ _ (by omega), fun W => run_string_add_sum W _ _ (by rw [ByteArray.size_append]; omega), fun W => ?_⟩
  have e := tkW_at hx (at_mid r r (wordB x))
  have := takeWord_any (r ++ mk (wordB x) ++ r) (r.size : Int) W (by rw [size_mid, wordB_len]; unfold maxLen; omega)
  rw [e] at this
  exact this

set_option maxRecDepth 100000 in
set_option maxHeartbeats 8000000 in
theorem walk (n : Int) (v : Value) (xs : List ByteArray) (x : Int) (r : ByteArray) (w : World) (_ : (Lit.int .i64 n).wf = true) (hrd : Reads w v xs) (hx : xs.length ≤ maxLen) (_ : ∀ s ∈ xs, s.size ≤ maxLen) (w2 : (Lit.int .u32 x).wf = true) (_ : r.size ≤ maxLen) (hr : r.size ≤ 140737488351232) :
    Calls Try.prog 5 #[.int .i64 n, v, .int .u32 x, .string r] w fun e w' => e = .returned (.bool true) ∧ Below w.heap.size w w' := by
  obtain ⟨b0, b1⟩ := bounds_u32 w2
  obtain ⟨y, rfl⟩ := Int.eq_ofNat_of_zero_le b0
  obtain ⟨F, S0, S1, er, cN, fN⟩ := numBack n r hr
  obtain ⟨F', S0', S1', er', cL, fL⟩ := listBack xs r hr hx
  obtain ⟨F2, T0, T1, cW, dW, dW', cW'⟩ := wordBack y r hr (by omega)
  clear w2 b0 b1
  by_cases h0 : er = 0
  · obtain ⟨dN, dN', hF, cN'⟩ := fN h0
    clear fN
    subst h0
    by_cases h1 : er' = 0
    · obtain ⟨dL, dL', hF', cL'⟩ := fL h1
      clear fL
      subst h1
      go_enter Try.func5, Try.ntmps5
      go_wp2_with (first | (go_at_call 9; refine (cN _).mono ?_; rintro e w1 ⟨rfl, hb1⟩; clear cN) | (go_at_call 19; refine (cN' _).mono ?_; rintro e w2 ⟨rfl, rfl⟩; clear cN') | (go_at_call 13; refine (cL _ _ (reads_below hrd hb1)).mono ?_; rintro e w3 ⟨rfl, hb3⟩; clear cL) | (go_at_call 26; refine (cL' _).mono ?_; rintro e w4 ⟨v4, rfl, hr4, hb4⟩; clear cL') | (go_at_call 16; refine (same_true _ _ xs _ hx hr4 (reads_below hrd (chain (chain hb1 hb3) hb4))).mono ?_; rintro e w5 ⟨rfl, hb5⟩) | (go_at_call 17; refine (cW _).mono ?_; rintro e w6 ⟨rfl, hb6⟩) | (go_at_call 23; refine (cW' _).mono ?_; rintro e w7 ⟨rfl, rfl⟩) | (go_at_call 15; refine (live_any _).mono ?_; rintro e w8 ⟨rfl, hb8⟩))
      go_ret
      exact ⟨rfl, chain (chain (chain (chain (chain hb1 hb3) hb4) hb5) hb6) hb8⟩
    · have g1 : (er' == 0) = false := by simpa using h1
      clear fL h1
      go_enter Try.func5, Try.ntmps5
      go_wp2_with (first | (go_at_call 9; refine (cN _).mono ?_; rintro e w1 ⟨rfl, hb1⟩; clear cN) | (go_at_call 19; refine (cN' _).mono ?_; rintro e w2 ⟨rfl, rfl⟩; clear cN') | (go_at_call 13; refine (cL _ _ (reads_below hrd hb1)).mono ?_; rintro e w3 ⟨rfl, hb3⟩; clear cL) | (go_at_call 17; refine (cW _).mono ?_; rintro e w6 ⟨rfl, hb6⟩) | (go_at_call 23; refine (cW' _).mono ?_; rintro e w7 ⟨rfl, rfl⟩) | (go_at_call 15; refine (live_any _).mono ?_; rintro e w8 ⟨rfl, hb8⟩))
      go_ret
      exact ⟨rfl, chain (chain (chain hb1 hb3) hb6) hb8⟩
  · have g0 : (er == 0) = false := by simpa using h0
    clear fN h0
    by_cases h1 : er' = 0
    · obtain ⟨dL, dL', hF', cL'⟩ := fL h1
      clear fL
      subst h1
      go_enter Try.func5, Try.ntmps5
      go_wp2_with (first | (go_at_call 9; refine (cN _).mono ?_; rintro e w1 ⟨rfl, hb1⟩; clear cN) | (go_at_call 13; refine (cL _ _ (reads_below hrd hb1)).mono ?_; rintro e w3 ⟨rfl, hb3⟩; clear cL) | (go_at_call 26; refine (cL' _).mono ?_; rintro e w4 ⟨v4, rfl, hr4, hb4⟩; clear cL') | (go_at_call 16; refine (same_true _ _ xs _ hx hr4 (reads_below hrd (chain (chain hb1 hb3) hb4))).mono ?_; rintro e w5 ⟨rfl, hb5⟩) | (go_at_call 17; refine (cW _).mono ?_; rintro e w6 ⟨rfl, hb6⟩) | (go_at_call 23; refine (cW' _).mono ?_; rintro e w7 ⟨rfl, rfl⟩) | (go_at_call 15; refine (live_any _).mono ?_; rintro e w8 ⟨rfl, hb8⟩))
      go_ret
      exact ⟨rfl, chain (chain (chain (chain (chain hb1 hb3) hb4) hb5) hb6) hb8⟩
    · have g1 : (er' == 0) = false := by simpa using h1
      clear fL h1
      go_enter Try.func5, Try.ntmps5
      go_wp2_with (first | (go_at_call 9; refine (cN _).mono ?_; rintro e w1 ⟨rfl, hb1⟩; clear cN) | (go_at_call 13; refine (cL _ _ (reads_below hrd hb1)).mono ?_; rintro e w3 ⟨rfl, hb3⟩; clear cL) | (go_at_call 17; refine (cW _).mono ?_; rintro e w6 ⟨rfl, hb6⟩) | (go_at_call 23; refine (cW' _).mono ?_; rintro e w7 ⟨rfl, rfl⟩) | (go_at_call 15; refine (live_any _).mono ?_; rintro e w8 ⟨rfl, hb8⟩))
      go_ret
      exact ⟨rfl, chain (chain (chain hb1 hb3) hb6) hb8⟩

theorem own : ownKnob Try.prog.godebug = none := by kernel_rfl
theorem laidOut : laidOutB Try.prog = true := by kernel_rfl

theorem contract (H : Type) (enc : TypeId × Value → H) (W : World) (base : Nat) (args : Array Value) (ds gs : List (DataW H)) (before : List MemPlace)
    (hval : ∀ (j : Nat) t v, Try.f5.params[j]? = some t → args[j]? = some v → Value.okWide Try.prog W .any base t v)
    (hW : DataW.Whole enc Try.prog Try.f5.params.toList Rows.packBackSpec.vars false W args.toList ds gs before) (hsz0 : (DataW.weightsEach Try.prog (Try.f5.params.toList ++ Rows.packBackSpec.plain.varTypes Try.prog) (ds ++ gs)).all (· ≤ reachBytes) = true) :
    Calls Try.prog 5 args W fun e W' => ∃ v, e = .returned v ∧ Rows.packBackSpec.post enc Try.prog Try.f5 false true false false W args v W' := by
  have hW' := hW
  obtain ⟨p, q, hA0, hV, rfl, hfz, hnd⟩ := hW
  have hA : DataW.TrodAll enc Try.prog W 0 (fun _ => true) true Try.f5.params.toList args.toList ds p := hA0
  rw [Try.params5] at hA hval hsz0
  obtain ⟨v0, vs0, d0, ds0, p0, q0, hargs, rfl, rfl, h0, r0⟩ := trodAll_cons hA
  obtain ⟨v1, vs1, d1, ds1, p1, q1, rfl, rfl, rfl, h1, r1⟩ := trodAll_cons r0
  obtain ⟨v2, vs2, d2, ds2, p2, q2, rfl, rfl, rfl, h2, r2⟩ := trodAll_cons r1
  obtain ⟨v3, vs3, d3, ds3, p3, q3, rfl, rfl, rfl, h3, r3⟩ := trodAll_cons r2
  obtain ⟨rfl, rfl, rfl⟩ := trodAll_nil r3
  obtain rfl : args = #[v0, v1, v2, v3] := by cases args; simp_all
  obtain ⟨rfl, rfl⟩ := trodVars_none hV
  have k0 := h0
  have lt0 : ∀ x ∈ p0, x.block < W.heap.size := by obtain ⟨m, hm⟩ := k0; exact DataW.trod_lt m _ _ _ hm
  have k1 := h1
  have lt1 : ∀ x ∈ p1, x.block < W.heap.size := by obtain ⟨m, hm⟩ := k1; exact DataW.trod_lt m _ _ _ hm
  have k2 := h2
  have lt2 : ∀ x ∈ p2, x.block < W.heap.size := by obtain ⟨m, hm⟩ := k2; exact DataW.trod_lt m _ _ _ hm
  have k3 := h3
  have lt3 : ∀ x ∈ p3, x.block < W.heap.size := by obtain ⟨m, hm⟩ := k3; exact DataW.trod_lt m _ _ _ hm
  obtain ⟨a0, rfl, rfl, rfl, w0⟩ := open_int Try.underlying3 (hval 0 3 v0 rfl rfl) h0
  obtain ⟨a1, len1, cap1, rfl⟩ := okWide_slice Try.underlying22 (hval 1 22 v1 rfl rfl)
  obtain ⟨fuel1, hf1⟩ := h1
  obtain ⟨xs1, hr1, hm1, hs1, hd1⟩ := open_strs_as (T := 22) (E := 9) Try.underlying22 Try.underlying9 (by kernel_rfl) hf1
  obtain ⟨a2, rfl, rfl, rfl, w2⟩ := open_int Try.underlying23 (hval 2 23 v2 rfl rfl) h2
  obtain ⟨a3, rfl, rfl, rfl, w3⟩ := open_string Try.underlying9 (hval 3 9 v3 rfl rfl) h3
  have z3 := sized_string hsz0 (j := 3) (t := 9) rfl rfl
  clear hA0
  simp only [List.append_nil] at hW'
  refine (walk a0 (.slice a1 len1 cap1) xs1 a2 a3 W w0 hr1 hm1 hs1 w2 w3 (by simpa [reachBytes] using z3)).mono fun e W' ⟨he, bel⟩ => ?_
  subst he
  exact ⟨_, rfl, _, _, _, [], _, [], hW', trodAll_mk1 (shut_bool Try.underlying4 _), (trodAll_cons_mk (Below.trod laidOut (by kernel_rfl) (of_decide_eq_true (by kernel_rfl)) k0 bel lt0) (trodAll_cons_mk (Below.trod laidOut (by kernel_rfl) (of_decide_eq_true (by kernel_rfl)) k1 bel lt1) (trodAll_cons_mk (Below.trod laidOut (by kernel_rfl) (of_decide_eq_true (by kernel_rfl)) k2 bel lt2) (trodAll_cons_mk (Below.trod laidOut (by kernel_rfl) (of_decide_eq_true (by kernel_rfl)) k3 bel lt3) trodAll_mk0)))), rfl, bel.frame _, fun h => by cases h⟩

set_option maxRecDepth 100000 in
theorem lifted (os : Os) (started : os.Started) (H : Type) (enc : TypeId × Value → H) :
    ReturnsInHanded {} Try.checked os 5 .any (Rows.packBackSpec.pre6 enc Try.prog Try.f5 Rows.packBackRow.domain false) (Rows.packBackSpec.post enc Try.prog Try.f5 false true false false) := by
  refine returnsInHanded_of_change_sized (C := Try.checked) own started (by kernel_rfl) Try.func5
    (ChangeSpec.witness6 (enc := enc) (C := Try.checked) false ⟨#[], #[.int .i64 0, .slice none 0 0, .int .u32 0, .string .empty], []⟩ 8 (by kernel_rfl) (by kernel_rfl) (by kernel_rfl) (by kernel_rfl)) ?_
  intro W base args ds gs before hval hW _ hsz _
  exact contract H enc W base args ds gs before hval hW hsz

theorem holds : Rows.PackBackSaid :=
  OpenClaim.holds_of_wide 5 Try.f5 rfl rfl rfl rfl rfl rfl rfl ⟨rfl, rfl, rfl, rfl, rfl⟩ rfl rfl rfl rfl rfl (by kernel_rfl) Try.func5 (by kernel_rfl)
    (of_decide_eq_true (by kernel_rfl)) (by unfold Func.isWrapper; first | (rw [if_pos (by decide +kernel)]; kernel_rfl) | (rw [if_neg (by decide +kernel)]; exact ⟨rfl, rfl⟩))
    (fun os started H enc _ => lifted os started H enc)
end Go.Proofs.Ythkkdbcflfhmaab.packBack
namespace Go.Proofs.Ythkkdbcflfhmaab
theorem packBack_holds : Rows.PackBackSaid := packBack.holds
#print axioms packBack_holds
end Go.Proofs.Ythkkdbcflfhmaab
