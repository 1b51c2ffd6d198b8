/-
  Proved: what was taken apart is put together again, and cut anywhere in two the parts are the text and their lengths add up (the law TextBack), where what comes in is of bulk at most 1048576.
-/
import Derived.Test.YthkkdbcflfhmaaaUtfL
import Derived.ShutString
import Derived.ChangeOld
import Derived.JoinedCond
namespace Go.Proofs.Ythkkdbcflfhmaaa.textBack
open Go.ChangeShapes Go.WideShapes Go.ChangeAt Go.RowKit Go.PlainAid
open Go.ChangeMaps (open_string shut_string)

/-- What the bound gives: the text's length. -/
theorem small {H : Type} {s : ByteArray} {d : DataW H} (hk : Rows.uptoSmall H [.lit (.string s.data.toList), d] = true) : s.size ≤ 1048576 := by
  have h : Rows.uptoBulkAll [DataW.lit (H := H) (.string s.data.toList), d] ≤ 1048576 := of_decide_eq_true hk
  simp only [Rows.uptoBulkAll, Rows.uptoBulk] at h
  rw [data_len] at h
  omega

theorem pointsR (s : ByteArray) (n : Nat) (w : World) (hs : s.size ≤ 8796093022208) (hv : Valid s n) :
    Calls Try.prog 9 #[.string s] w fun e w' => ∃ ao cp, e = .returned (.tuple #[.slice ao n cp, .bool true]) ∧ ReadsI w' (.slice ao n cp) (ptL s n) ∧ Below w.heap.size w w' := by
  refine (points_ok s n w hs hv).mono ?_
  rintro e w' ⟨v, he, ho, hb⟩
  have hr := readsI_own (zs := ptL s n) (by rw [ptL_length]; exact ho)
  obtain ⟨ao, cp, rfl, _⟩ := readsI_at hr
  rw [ptL_length] at he hr
  exact ⟨ao, cp, he, hr, hb⟩

theorem backFacts (s : ByteArray) (n k : Nat) (hs : s.size ≤ 1048576) (hv : Valid s n) (hk : k ≤ n) :
    ∃ A B : ByteArray, (∀ W, Calls Try.prog 17 #[.string s, .int .i64 0, .int .i64 (k : Int)] W fun e w' => e = .returned (.tuple #[.string A, .int .i64 0]) ∧ Below W.heap.size W w') ∧
    (∀ W, Calls Try.prog 17 #[.string s, .int .i64 (k : Int), .int .i64 (n : Int)] W fun e w' => e = .returned (.tuple #[.string B, .int .i64 0]) ∧ Below W.heap.size W w') ∧
    (∀ W, (Op.stringOp .add A B).run Try.prog W = .ok (.string s) W) ∧
    (∀ W, Calls Try.prog 12 #[.string A] W fun e w' => e = .returned (.int .i64 (k : Int)) ∧ W = w') ∧
    (∀ W, Calls Try.prog 12 #[.string B] W fun e w' => e = .returned (.int .i64 ((n : Int) - (k : Int))) ∧ W = w') := by
  have hpn := pos_le hv.1 n (Nat.le_refl _)
  have hpk := pos_le hv.1 k hk
  have eA := part_eq (f := 0) (m := k) hv (by omega)
  have eB := part_eq (f := k) (m := n - k) hv (by omega)
  rw [Nat.zero_add] at eA
  rw [show k + (n - k) = n by omega] at eB
  obtain ⟨a1, a2, a3⟩ := at_ptM (s := s) (f := 0) k (ok_mono hv.1 (by omega))
  obtain ⟨b1, b2, b3⟩ := at_ptM (s := s) (f := k) (n - k) (ok_mono hv.1 (by omega))
  rw [show k + (n - k) = n by omega] at b2
  rw [Nat.zero_add] at a2
  have p0 : pos s 0 = 0 := rfl
  rw [p0] at a2 eA
  have hcat : mk (enc (ptM s 0 k)) ++ mk (enc (ptM s k (n - k))) = s := by
    obtain ⟨h1, _⟩ := whole_eq hv
    have e : ptL s n = ptM s 0 k ++ ptM s k (n - k) := by
      rw [← ptM_zero]
      apply List.ext_getElem
      · simp [ptM]; omega
      · intro i g1 g2
        simp [ptM] at g1 g2 ⊢
        by_cases h : i < k
        · rw [List.getElem_append_left (by simpa using h)]; simp
        · rw [List.getElem_append_right (by simpa using h)]; simp; congr 1; omega
    have e2 : mk (enc (ptM s 0 k)) ++ mk (enc (ptM s k (n - k))) = mk (enc (ptM s 0 k) ++ enc (ptM s k (n - k))) := ByteArray.ext (by simp [mk])
    rw [e2, ← enc_append, ← e]
    exact h1
  refine ⟨mk (enc (ptM s 0 k)), mk (enc (ptM s k (n - k))), fun W => ?_, fun W => ?_, fun W => ?_, fun W => ?_, fun W => ?_⟩
  · have h := cut_ok s 0 k n W (by omega) hv (by omega)
    rw [Nat.zero_add, p0, eA] at h
    exact h
  · have h := cut_ok s k (n - k) n W (by omega) hv (by omega)
    rw [show k + (n - k) = n by omega, eB] at h
    exact h
  · rw [run_string_add_sum W _ _ (by rw [mk_size, mk_size]; omega), hcat]
  · have h := valid_enc _ a3
    rw [ptM_length] at h
    exact len_ok _ k W (by rw [mk_size]; unfold maxLen; omega) h.1
  · have h := valid_enc _ b3
    rw [ptM_length] at h
    have := len_ok _ (n - k) W (by rw [mk_size]; unfold maxLen; omega) h.1
    rw [show (((n - k : Nat)) : Int) = (n : Int) - (k : Int) by omega] at this
    exact this

set_option maxRecDepth 100000 in
set_option maxHeartbeats 4000000 in
theorem walk_bad (s : ByteArray) (a : Int) (w : World) (k : Nat) (hs : s.size ≤ 1048576) (hb : Bad s k) :
    Calls Try.prog 7 #[.string s, .int .i64 a] w fun e w' => e = .returned (.bool true) ∧ Below w.heap.size w w' := by
  have hs' : s.size ≤ maxLen := by unfold maxLen; omega
  have cP := fun W => points_bad s k W hs' hb
  have cL := fun W => len_bad s k W hs' hb
  go_enter Try.func7, Try.ntmps7
  go_wp2_with (first | (go_at_call 9; refine (cP _).mono ?_; rintro e w1 ⟨rfl, rfl⟩) | (go_at_call 12; refine (cL _).mono ?_; rintro e w2 ⟨rfl, rfl⟩) | (go_at_call 14; refine (live_any _).mono ?_; rintro e w3 ⟨rfl, hb3⟩))
  go_ret
  exact ⟨rfl, hb3⟩

set_option maxRecDepth 100000 in
set_option maxHeartbeats 4000000 in
theorem walk_ok (s : ByteArray) (a : Int) (w : World) (n : Nat) (hs : s.size ≤ 1048576) (hv : Valid s n) (a0 : -9223372036854775808 ≤ a) (a1 : a ≤ 9223372036854775807) :
    Calls Try.prog 7 #[.string s, .int .i64 a] w fun e w' => e = .returned (.bool true) ∧ Below w.heap.size w w' := by
  have hs' : s.size ≤ maxLen := by unfold maxLen; omega
  have hpn := pos_le hv.1 n (Nat.le_refl _)
  have hn : n ≤ 1048576 := by omega
  obtain ⟨h1, h2⟩ := whole_eq hv
  have cP := fun W => pointsR s n W (by omega) hv
  have cL := fun W => len_ok s n W hs' hv
  have cT : ∀ v W, ReadsI W v (ptL s n) → Calls Try.prog 15 #[v] W fun e w' => e = .returned (.tuple #[.string s, .bool true]) ∧ Below W.heap.size W w' := fun v W h => by
    have := text_any v (ptL s n) W (by rw [ptL_length]; omega) h
    rw [textR, if_pos h2, h1] at this
    exact this
  clear h1 h2
  by_cases hneg : a < 0
  · have e0 : -(a + 1).tmod ((n : Int) + 1) = (-(a + 1)) % ((n : Int) + 1) := by rw [← Int.neg_tmod, Int.tmod_eq_emod_of_nonneg (by omega)]
    have e1 := Int.emod_nonneg (-(a + 1)) (show (n : Int) + 1 ≠ 0 by omega)
    have e2 := Int.emod_lt_of_pos (-(a + 1)) (show 0 < (n : Int) + 1 by omega)
    obtain ⟨k, hk⟩ : ∃ k : Nat, -(a + 1).tmod ((n : Int) + 1) = (k : Int) := ⟨(-(a + 1).tmod ((n : Int) + 1)).toNat, by omega⟩
    have hkn : k ≤ n := by omega
    clear e0 e1 e2
    obtain ⟨A, B, cA, cB, dAB, lA, lB⟩ := backFacts s n k hs hv hkn
    go_enter Try.func7, Try.ntmps7
    go_wp2_with (first | (go_at_call 9; refine (cP _).mono ?_; rintro e w1 ⟨ao, cp, rfl, hr1, hb1⟩; clear cP) | (go_at_call 15; refine (cT _ _ hr1).mono ?_; rintro e w2 ⟨rfl, hb2⟩; clear cT) | (go_at_call 12; refine (cL _).mono ?_; rintro e w3 ⟨rfl, rfl⟩; clear cL))
    refine (cA _).mono ?_
    rintro e w4 ⟨rfl, hb4⟩
    clear cA
    go_wp2_with fail
    refine (cB _).mono ?_
    rintro e w5 ⟨rfl, hb5⟩
    clear cB
    go_wp2_with fail
    refine (lA _).mono ?_
    rintro e w6 ⟨rfl, rfl⟩
    go_wp2_with fail
    refine (lA _).mono ?_
    rintro e w6 ⟨rfl, rfl⟩
    clear lA
    go_wp2_with fail
    refine (lB _).mono ?_
    rintro e w6 ⟨rfl, rfl⟩
    clear lB
    go_wp2_with (go_at_call 14; refine (live_any _).mono ?_; rintro e w7 ⟨rfl, hb7⟩)
    go_ret
    exact ⟨rfl, chain (chain (chain (chain hb1 hb2) hb4) hb5) hb7⟩
  · obtain ⟨k, hk⟩ : ∃ k : Nat, a % ((n : Int) + 1) = (k : Int) := ⟨(a % ((n : Int) + 1)).toNat, by have := Int.emod_nonneg a (show (n : Int) + 1 ≠ 0 by omega); omega⟩
    have hkn : k ≤ n := by have := Int.emod_lt_of_pos a (show 0 < (n : Int) + 1 by omega); omega
    obtain ⟨A, B, cA, cB, dAB, lA, lB⟩ := backFacts s n k hs hv hkn
    go_enter Try.func7, Try.ntmps7
    go_wp2_with (first | (go_at_call 9; refine (cP _).mono ?_; rintro e w1 ⟨ao, cp, rfl, hr1, hb1⟩; clear cP) | (go_at_call 15; refine (cT _ _ hr1).mono ?_; rintro e w2 ⟨rfl, hb2⟩; clear cT) | (go_at_call 12; refine (cL _).mono ?_; rintro e w3 ⟨rfl, rfl⟩; clear cL))
    refine (cA _).mono ?_
    rintro e w4 ⟨rfl, hb4⟩
    clear cA
    go_wp2_with fail
    refine (cB _).mono ?_
    rintro e w5 ⟨rfl, hb5⟩
    clear cB
    go_wp2_with fail
    refine (lA _).mono ?_
    rintro e w6 ⟨rfl, rfl⟩
    go_wp2_with fail
    refine (lA _).mono ?_
    rintro e w6 ⟨rfl, rfl⟩
    clear lA
    go_wp2_with fail
    refine (lB _).mono ?_
    rintro e w6 ⟨rfl, rfl⟩
    clear lB
    go_wp2_with (go_at_call 14; refine (live_any _).mono ?_; rintro e w7 ⟨rfl, hb7⟩)
    go_ret
    exact ⟨rfl, chain (chain (chain (chain hb1 hb2) hb4) hb5) hb7⟩

theorem walk (s : ByteArray) (a : Int) (w : World) (_ : s.size ≤ maxLen) (wa : (Lit.int .i64 a).wf = true) (hs : s.size ≤ 1048576) :
    Calls Try.prog 7 #[.string s, .int .i64 a] w fun e w' => e = .returned (.bool true) ∧ Below w.heap.size w w' := by
  obtain ⟨a0, a1⟩ := bounds_i64 wa
  rcases valid_or_bad s with ⟨n, hv⟩ | ⟨k, hb⟩
  · exact walk_ok s a w n hs hv a0 a1
  · exact walk_bad s a w k hs hb

theorem own : ownKnob Try.prog.godebug = none := by kernel_rfl
theorem laidOut : laidOutB Try.prog = true := by kernel_rfl

theorem contract (H : Type) (enc : TypeId × Value → H) (W : World) (base : Nat) (args : Array Value) (ds gs : List (DataW H)) (before : List MemPlace)
    (hval : ∀ (j : Nat) t v, Try.f7.params[j]? = some t → args[j]? = some v → Value.okWide Try.prog W .any base t v)
    (hW : DataW.Whole enc Try.prog Try.f7.params.toList Rows.textBackSpec.vars false W args.toList ds gs before) (hk : Rows.uptoSmall H (ds ++ gs) = true) :
    Calls Try.prog 7 args W fun e W' => ∃ v, e = .returned v ∧ Rows.textBackSpec.post enc Try.prog Try.f7 false true false false W args v W' := by
  have hW' := hW
  obtain ⟨p, q, hA0, hV, rfl, hfz, hnd⟩ := hW
  have hA : DataW.TrodAll enc Try.prog W 0 (fun _ => true) true Try.f7.params.toList args.toList ds p := hA0
  rw [Try.params7] at hA hval
  obtain ⟨v0, vs0, d0, ds0, p0, q0, hargs, rfl, rfl, h0, r0⟩ := trodAll_cons hA
  obtain ⟨v1, vs1, d1, ds1, p1, q1, rfl, rfl, rfl, h1, r1⟩ := trodAll_cons r0
  obtain ⟨rfl, rfl, rfl⟩ := trodAll_nil r1
  obtain rfl : args = #[v0, v1] := by cases args; simp_all
  obtain ⟨rfl, rfl⟩ := trodVars_none hV
  have k0 := h0
  have lt0 : ∀ x ∈ p0, x.block < W.heap.size := by obtain ⟨m, hm⟩ := k0; exact DataW.trod_lt m _ _ _ hm
  have k1 := h1
  have lt1 : ∀ x ∈ p1, x.block < W.heap.size := by obtain ⟨m, hm⟩ := k1; exact DataW.trod_lt m _ _ _ hm
  obtain ⟨a0, rfl, rfl, rfl, w0⟩ := open_string Try.underlying9 (hval 0 9 v0 rfl rfl) h0
  obtain ⟨a1, rfl, rfl, rfl, w1⟩ := open_int Try.underlying3 (hval 1 3 v1 rfl rfl) h1
  clear hA0
  simp only [List.append_nil] at hW' hk
  refine (walk a0 a1 W w0 w1 (small hk)).mono fun e W' ⟨he, bel⟩ => ?_
  subst he
  exact ⟨_, rfl, _, _, _, [], _, [], hW', trodAll_mk1 (shut_bool Try.underlying4 _), (trodAll_cons_mk (Below.trod laidOut (by kernel_rfl) (of_decide_eq_true (by kernel_rfl)) k0 bel lt0) (trodAll_cons_mk (Below.trod laidOut (by kernel_rfl) (of_decide_eq_true (by kernel_rfl)) k1 bel lt1) trodAll_mk0)), rfl, bel.frame _, fun h => by cases h⟩

set_option maxRecDepth 100000 in
theorem lifted (os : Os) (started : os.Started) (H : Type) (enc : TypeId × Value → H) (F : Stop.Interp) :
    ReturnsInHanded {} Try.checked os 7 .any ((Rows.OpenSpec.upto Rows.textBackSpec).pre6 enc Try.prog Try.f7 Rows.textBackUptoRow.domain false) (((Rows.OpenSpec.upto Rows.textBackSpec).at F).post enc Try.prog Try.f7 false true false false) := by
  refine returnsInHanded_of_cond (C := Try.checked) (s := Rows.OpenSpec.upto Rows.textBackSpec) (k := Rows.uptoSmall) rfl own started (by kernel_rfl) Try.func7
    (OpenSpec.witness (enc := enc) (C := Try.checked) (s := Rows.OpenSpec.upto Rows.textBackSpec) (k := Rows.uptoSmall) rfl false ⟨#[], #[.string .empty, .int .i64 0], []⟩ 8 (by kernel_rfl) (by kernel_rfl) (by kernel_rfl)
      (x := ([.lit (.string []), .lit (.int .i64 0)], [], [])) (by kernel_rfl) rfl (by kernel_rfl)) ?_
  intro W base args ds gs before hval hW _ hk _
  exact contract H enc W base args ds gs before hval hW hk

theorem holds : Rows.TextBackUptoSaid :=
  OpenClaim.holds_of_cond 7 Try.f7 rfl rfl rfl rfl rfl rfl rfl ⟨rfl, rfl, rfl, rfl, rfl⟩ rfl rfl rfl rfl rfl (by kernel_rfl) Try.func7 (by kernel_rfl)
    (of_decide_eq_true (by kernel_rfl)) (by unfold Func.isWrapper; first | (rw [if_pos (by decide +kernel)]; kernel_rfl) | (rw [if_neg (by decide +kernel)]; exact ⟨rfl, rfl⟩))
    (fun os started H enc _ F => lifted os started H enc F)
end Go.Proofs.Ythkkdbcflfhmaaa.textBack
namespace Go.Proofs.Ythkkdbcflfhmaaa
theorem textBack_holds : Rows.TextBackUptoSaid := textBack.holds
#print axioms textBack_holds
end Go.Proofs.Ythkkdbcflfhmaaa
