/-
  Proved: what Transform gives of any two deltas, whichever goes first, is what the reference gives, and both deltas are as they were (the law OtTransforms), for every input of bulk at most 1048576.
-/
import Derived.Test.YtphbjbigjpfjfaaOtL
import Derived.Test.YtphbjbigjpfjfaaRtH
import Derived.Test.YtphbjbigjpfjfaaDArU
import Derived.ChangeOld
import Derived.ShutString
namespace Go.Proofs.Ytphbjbigjpfjfaa.otTransforms
open Go.RowKit Go.ChangeShapes Go.WideShapes Go.ChangeAt Go.PlainAid

theorem trR_len (f : Bool) (A B : List OpD) (iA : ∀ o ∈ A, o.In) : (trR f A B).1.length ≤ maxLen := by
  have hj : (jn (stR (trW f A B))).length ≤ maxLen := by
    have bd := stR_bd (trW f A B)
    have hin : ∀ o ∈ trW f A B, o.In := tfO_in f _ _ (fun s hs => (nS_ok iA s hs).2)
    have := (jn_in (stR_ok hin) bd.1 bd.2).1
    unfold maxLen; omega
  rw [trR]
  split
  · split
    · split
      · exact hj
      · exact Nat.zero_le _
    · exact Nat.zero_le _
  · exact Nat.zero_le _

set_option maxRecDepth 20000 in
set_option maxHeartbeats 4000000 in
theorem walk (vA : Value) (A : List OpD) (vB : Value) (B : List OpD) (f : Bool) (w : World) (hA : RdD w vA A) (mA : A.length ≤ 1048576) (oA : ∀ o ∈ A, o.Sm) (hB : RdD w vB B) (mB : B.length ≤ 1048576) (oB : ∀ o ∈ B, o.Sm) :
    Calls Try.prog 4 #[vA, vB, .bool f] w fun e w' => e = .returned (.bool true) ∧ Below w.heap.size w w' := by
  have mA' : A.length ≤ maxLen := by unfold maxLen; omega
  have mB' : B.length ≤ maxLen := by unfold maxLen; omega
  have iA : ∀ o ∈ A, o.In := fun o ho => sm_in (oA o ho)
  have iB : ∀ o ∈ B, o.In := fun o ho => sm_in (oB o ho)
  have k1 := copied_any vA A w hA (by omega)
  have k2 := fun W h => copied_any vB B W h (by omega)
  have k3 := fun u v W h1 h2 => transform_any u v f A B W h1 h2 mA' mB' iA iB
  have k4 := fun W h1 h2 => rtransform_any vA vB f A B W h1 h2 mA' mB' oA oB
  have s1 := fun a b W h1 h2 => same_true a b (trR f A B).1 W (trR_len f A B iA) h1 h2
  have s2 := fun a b W h1 h2 => same_true a b A W mA' h1 h2
  have s3 := fun a b W h1 h2 => same_true a b B W mB' h1 h2
  clear iA iB oA oB mA mB
  generalize trR f A B = R at *
  obtain ⟨R, er⟩ := R
  simp only at k3 k4 s1
  go_enter Try.func4, Try.ntmps4
  go_wp2_with fail
  refine k1.mono ?_
  rintro e w1 ⟨u1, rfl, ho1, hb1⟩
  go_wp2_with fail
  refine (k2 _ (hB.below hb1)).mono ?_
  rintro e w2 ⟨u2, rfl, ho2, hb2⟩
  have B2 := chain hb1 hb2
  have x2 := (rdd_own ho1).below hb2
  have y2 := rdd_own ho2
  go_wp2_with fail
  refine (k3 _ _ _ x2 y2).mono ?_
  rintro e w3 ⟨u3, rfl, ho3, hb3⟩
  have B3 := chain B2 hb3
  go_wp2_with fail
  refine (k4 _ (hA.below B3) (hB.below B3)).mono ?_
  rintro e w4 ⟨u4, rfl, ho4, hb4⟩
  have B4 := chain B3 hb4
  go_wp2_with fail
  refine (s1 _ _ _ ((rdd_own ho3).below hb4) (rdd_own ho4)).mono ?_
  rintro e w5 ⟨rfl, hb5⟩
  have B5 := chain B4 hb5
  go_wp2_with fail
  refine (s2 _ _ _ (((x2.below hb3).below hb4).below hb5) (hA.below B5)).mono ?_
  rintro e w6 ⟨rfl, hb6⟩
  have B6 := chain B5 hb6
  go_wp2_with fail
  refine (s3 _ _ _ ((((y2.below hb3).below hb4).below hb5).below hb6) (hB.below B6)).mono ?_
  rintro e w7 ⟨rfl, hb7⟩
  go_wp2_with (go_at_call 13; refine (live10_any _).mono ?_; rintro e w10 ⟨rfl, hb10⟩)
  go_ret
  exact ⟨rfl, chain (chain B6 hb7) hb10⟩

theorem own : ownKnob Try.prog.godebug = none := by kernel_rfl
theorem laidOut : laidOutB Try.prog = true := by kernel_rfl

set_option maxRecDepth 20000 in
theorem contract (H : Type) (enc : TypeId × Value → H) (W : World) (base : Nat) (args : Array Value) (ds gs : List (DataW H)) (before : List MemPlace)
    (hval : ∀ (j : Nat) t v, Try.f4.params[j]? = some t → args[j]? = some v → Value.okWide Try.prog W .any base t v)
    (hW : DataW.Whole enc Try.prog Try.f4.params.toList Rows.otTransformsSpec.vars false W args.toList ds gs before) (hk : Rows.uptoSmall H (ds ++ gs) = true) :
    Calls Try.prog 4 args W fun e W' => ∃ v, e = .returned v ∧ Rows.otTransformsSpec.post enc Try.prog Try.f4 false true false false W args v W' := by
  have hW' := hW
  obtain ⟨p, q, hA0, hV, rfl, hfz, hnd⟩ := hW
  have hA : DataW.TrodAll enc Try.prog W 0 (fun _ => true) true Try.f4.params.toList args.toList ds p := hA0
  rw [Try.params4] at hA hval
  obtain ⟨v0, vs0, d0, ds0, p0, q0, hargs, rfl, rfl, h0, r0⟩ := trodAll_cons hA
  obtain ⟨v1, vs1, d1, ds1, p1, q1, rfl, rfl, rfl, h1, r1⟩ := trodAll_cons r0
  obtain ⟨v2, vs2, d2, ds2, p2, q2, rfl, rfl, rfl, h2, r2⟩ := trodAll_cons r1
  obtain ⟨rfl, rfl, rfl⟩ := trodAll_nil r2
  obtain rfl : args = #[v0, v1, v2] := by cases args; simp_all
  obtain ⟨rfl, rfl⟩ := trodVars_none hV
  have k0 := h0
  have lt0 : ∀ x ∈ p0, x.block < W.heap.size := by obtain ⟨m, hm⟩ := k0; exact DataW.trod_lt m _ _ _ hm
  have k1 := h1
  have lt1 : ∀ x ∈ p1, x.block < W.heap.size := by obtain ⟨m, hm⟩ := k1; exact DataW.trod_lt m _ _ _ hm
  have k2 := h2
  have lt2 : ∀ x ∈ p2, x.block < W.heap.size := by obtain ⟨m, hm⟩ := k2; exact DataW.trod_lt m _ _ _ hm
  have b0 : Rows.uptoBulk d0 ≤ 1048576 := up_mem hk (by simp)
  have b1 : Rows.uptoBulk d1 ≤ 1048576 := up_mem hk (by simp)
  obtain ⟨a0, len0, cap0, rfl⟩ := okWide_slice Try.underlying22 (hval 0 22 v0 rfl rfl)
  obtain ⟨fuel0, hf0⟩ := h0
  obtain ⟨l0, rd0, ln0, ok0⟩ := open_dlu hf0 b0
  obtain ⟨a1, len1, cap1, rfl⟩ := okWide_slice Try.underlying22 (hval 1 22 v1 rfl rfl)
  obtain ⟨fuel1, hf1⟩ := h1
  obtain ⟨l1, rd1, ln1, ok1⟩ := open_dlu hf1 b1
  obtain ⟨a2, rfl, rfl, rfl⟩ := open_bool Try.underlying4 (hval 2 4 v2 rfl rfl) h2
  clear hA0
  simp only [List.append_nil] at hW' hk
  refine (walk (.slice a0 len0 cap0) l0 (.slice a1 len1 cap1) l1 a2 W rd0 ln0 ok0 rd1 ln1 ok1).mono fun e W' ⟨he, bel⟩ => ?_
  subst he
  exact ⟨_, rfl, _, _, _, [], _, [], hW', trodAll_mk1 (shut_bool Try.underlying4 _), (trodAll_cons_mk (Below.trod laidOut (by kernel_rfl) (of_decide_eq_true (by kernel_rfl)) k0 bel lt0) (trodAll_cons_mk (Below.trod laidOut (by kernel_rfl) (of_decide_eq_true (by kernel_rfl)) k1 bel lt1) (trodAll_cons_mk (Below.trod laidOut (by kernel_rfl) (of_decide_eq_true (by kernel_rfl)) k2 bel lt2) trodAll_mk0))), rfl, bel.frame _, fun h => by cases h⟩

set_option maxRecDepth 100000 in
theorem lifted (os : Os) (started : os.Started) (H : Type) (enc : TypeId × Value → H) (F : Stop.Interp) :
    ReturnsInHanded {} Try.checked os 4 .any ((Rows.OpenSpec.upto Rows.otTransformsSpec).pre6 enc Try.prog Try.f4 Rows.otTransformsUptoRow.domain false) (((Rows.OpenSpec.upto Rows.otTransformsSpec).at F).post enc Try.prog Try.f4 false true false false) := by
  refine returnsInHanded_of_cond (C := Try.checked) (s := Rows.OpenSpec.upto Rows.otTransformsSpec) (k := Rows.uptoSmall) rfl own started (by kernel_rfl) Try.func4
    (OpenSpec.witness (enc := enc) (C := Try.checked) (s := Rows.OpenSpec.upto Rows.otTransformsSpec) (k := Rows.uptoSmall) rfl false ⟨#[], #[.slice none 0 0, .slice none 0 0, .bool false], []⟩ 8 (by kernel_rfl) (by kernel_rfl) (by kernel_rfl)
      (x := ([.nil, .nil, .lit (.bool false)], [], [])) (by kernel_rfl) rfl (by kernel_rfl)) ?_
  intro W base args ds gs before hval hW _ hk _
  exact contract H enc W base args ds gs before hval hW hk

theorem holds : Rows.OtTransformsUptoSaid :=
  OpenClaim.holds_of_cond 4 Try.f4 rfl rfl rfl rfl rfl rfl rfl ⟨rfl, rfl, rfl, rfl, rfl⟩ rfl rfl rfl rfl rfl (by kernel_rfl) Try.func4 (by kernel_rfl)
    (of_decide_eq_true (by kernel_rfl)) (by unfold Func.isWrapper; first | (rw [if_pos (by decide +kernel)]; kernel_rfl) | (rw [if_neg (by decide +kernel)]; exact ⟨rfl, rfl⟩))
    (fun os started H enc _ F => lifted os started H enc F)
end Go.Proofs.Ytphbjbigjpfjfaa.otTransforms
namespace Go.Proofs.Ytphbjbigjpfjfaa
theorem otTransforms_holds : Rows.OtTransformsUptoSaid := otTransforms.holds
#print axioms otTransforms_holds
end Go.Proofs.Ytphbjbigjpfjfaa
