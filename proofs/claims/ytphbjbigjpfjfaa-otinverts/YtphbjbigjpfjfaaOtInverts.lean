/-
  Proved: what Invert gives of any text and any delta is what the reference gives (the law OtInverts), for every input of bulk at most 1048576.
-/
import Derived.Test.YtphbjbigjpfjfaaOtL
import Derived.Test.YtphbjbigjpfjfaaRtDRtE
import Derived.Test.YtphbjbigjpfjfaaDArU
import Derived.ChangeOld
import Derived.ShutString
namespace Go.Proofs.Ytphbjbigjpfjfaa.otInverts
open Go.RowKit Go.ChangeShapes Go.WideShapes Go.ChangeAt Go.PlainAid
open Go.ChangeMaps (open_string shut_string)

theorem inR_len {s : ByteArray} {D : List OpD} (iD : ∀ o ∈ D, o.In) : (inR s D).1.length ≤ maxLen := by
  by_cases h : (apR s D).2 = 0
  · obtain ⟨_, _, v3, _⟩ := in_facts iD h
    have := (kchk_any v3).2
    unfold maxLen; omega
  · rw [inR, if_neg h]; exact Nat.zero_le _

set_option maxRecDepth 20000 in
set_option maxHeartbeats 4000000 in
theorem walk (s : ByteArray) (v : Value) (D : List OpD) (w : World) (hs : s.size ≤ 1048576) (hr : RdD w v D) (mD : D.length ≤ 1048576) (oD : ∀ o ∈ D, o.Sm) :
    Calls Try.prog 5 #[.string s, v] w fun e w' => e = .returned (.bool true) ∧ Below w.heap.size w w' := by
  have mD' : D.length ≤ maxLen := by unfold maxLen; omega
  have hs' : s.size ≤ maxLen := by unfold maxLen; omega
  have iD : ∀ o ∈ D, o.In := fun o ho => sm_in (oD o ho)
  have k1 := copied_any v D w hr (by omega)
  have k2 := fun u W h => invert_any s u D W hs' h mD' iD
  have k3 := fun W h => rinvert_any s v D W hs h mD' oD
  have s1 := fun a b W h1 h2 => same_true a b (inR s D).1 W (inR_len iD) h1 h2
  clear iD oD mD hs'
  generalize inR s D = R at *
  obtain ⟨R, er⟩ := R
  simp only at k2 k3 s1
  go_enter Try.func5, Try.ntmps5
  go_wp2_with fail
  refine k1.mono ?_
  rintro e w1 ⟨u1, rfl, ho1, hb1⟩
  go_wp2_with fail
  refine (k2 _ _ (rdd_own ho1)).mono ?_
  rintro e w2 ⟨u2, rfl, ho2, hb2⟩
  have B2 := chain hb1 hb2
  go_wp2_with fail
  refine (k3 _ (hr.below B2)).mono ?_
  rintro e w3 ⟨u3, rfl, ho3, hb3⟩
  have B3 := chain B2 hb3
  go_wp2_with fail
  refine (s1 _ _ _ ((rdd_own ho2).below hb3) (rdd_own ho3)).mono ?_
  rintro e w4 ⟨rfl, hb4⟩
  go_wp2_with (go_at_call 13; refine (live10_any _).mono ?_; rintro e w10 ⟨rfl, hb10⟩)
  go_ret
  exact ⟨rfl, chain (chain B3 hb4) hb10⟩

theorem own : ownKnob Try.prog.godebug = none := by kernel_rfl
theorem laidOut : laidOutB Try.prog = true := by kernel_rfl

set_option maxRecDepth 20000 in
theorem contract (H : Type) (enc : TypeId × Value → H) (W : World) (base : Nat) (args : Array Value) (ds gs : List (DataW H)) (before : List MemPlace)
    (hval : ∀ (j : Nat) t v, Try.f5.params[j]? = some t → args[j]? = some v → Value.okWide Try.prog W .any base t v)
    (hW : DataW.Whole enc Try.prog Try.f5.params.toList Rows.otInvertsSpec.vars false W args.toList ds gs before) (hk : Rows.uptoSmall H (ds ++ gs) = true) :
    Calls Try.prog 5 args W fun e W' => ∃ v, e = .returned v ∧ Rows.otInvertsSpec.post enc Try.prog Try.f5 false true false false W args v W' := by
  have hW' := hW
  obtain ⟨p, q, hA0, hV, rfl, hfz, hnd⟩ := hW
  have hA : DataW.TrodAll enc Try.prog W 0 (fun _ => true) true Try.f5.params.toList args.toList ds p := hA0
  rw [Try.params5] at hA hval
  obtain ⟨v0, vs0, d0, ds0, p0, q0, hargs, rfl, rfl, h0, r0⟩ := trodAll_cons hA
  obtain ⟨v1, vs1, d1, ds1, p1, q1, rfl, rfl, rfl, h1, r1⟩ := trodAll_cons r0
  obtain ⟨rfl, rfl, rfl⟩ := trodAll_nil r1
  obtain rfl : args = #[v0, v1] := by cases args; simp_all
  obtain ⟨rfl, rfl⟩ := trodVars_none hV
  have k0 := h0
  have lt0 : ∀ x ∈ p0, x.block < W.heap.size := by obtain ⟨m, hm⟩ := k0; exact DataW.trod_lt m _ _ _ hm
  have k1 := h1
  have lt1 : ∀ x ∈ p1, x.block < W.heap.size := by obtain ⟨m, hm⟩ := k1; exact DataW.trod_lt m _ _ _ hm
  have b0 : Rows.uptoBulk d0 ≤ 1048576 := up_mem hk (by simp)
  have b1 : Rows.uptoBulk d1 ≤ 1048576 := up_mem hk (by simp)
  obtain ⟨a0, rfl, rfl, rfl, w0⟩ := open_string Try.underlying9 (hval 0 9 v0 rfl rfl) h0
  obtain ⟨a1, len1, cap1, rfl⟩ := okWide_slice Try.underlying22 (hval 1 22 v1 rfl rfl)
  obtain ⟨fuel1, hf1⟩ := h1
  obtain ⟨l1, rd1, ln1, ok1⟩ := open_dlu hf1 b1
  clear hA0
  simp only [List.append_nil] at hW' hk
  refine (walk a0 (.slice a1 len1 cap1) l1 W (up_str b0) rd1 ln1 ok1).mono fun e W' ⟨he, bel⟩ => ?_
  subst he
  exact ⟨_, rfl, _, _, _, [], _, [], hW', trodAll_mk1 (shut_bool Try.underlying4 _), (trodAll_cons_mk (Below.trod laidOut (by kernel_rfl) (of_decide_eq_true (by kernel_rfl)) k0 bel lt0) (trodAll_cons_mk (Below.trod laidOut (by kernel_rfl) (of_decide_eq_true (by kernel_rfl)) k1 bel lt1) trodAll_mk0)), rfl, bel.frame _, fun h => by cases h⟩

set_option maxRecDepth 100000 in
theorem lifted (os : Os) (started : os.Started) (H : Type) (enc : TypeId × Value → H) (F : Stop.Interp) :
    ReturnsInHanded {} Try.checked os 5 .any ((Rows.OpenSpec.upto Rows.otInvertsSpec).pre6 enc Try.prog Try.f5 Rows.otInvertsUptoRow.domain false) (((Rows.OpenSpec.upto Rows.otInvertsSpec).at F).post enc Try.prog Try.f5 false true false false) := by
  refine returnsInHanded_of_cond (C := Try.checked) (s := Rows.OpenSpec.upto Rows.otInvertsSpec) (k := Rows.uptoSmall) rfl own started (by kernel_rfl) Try.func5
    (OpenSpec.witness (enc := enc) (C := Try.checked) (s := Rows.OpenSpec.upto Rows.otInvertsSpec) (k := Rows.uptoSmall) rfl false ⟨#[], #[.string .empty, .slice none 0 0], []⟩ 8 (by kernel_rfl) (by kernel_rfl) (by kernel_rfl)
      (x := ([.lit (.string []), .nil], [], [])) (by kernel_rfl) rfl (by kernel_rfl)) ?_
  intro W base args ds gs before hval hW _ hk _
  exact contract H enc W base args ds gs before hval hW hk

theorem holds : Rows.OtInvertsUptoSaid :=
  OpenClaim.holds_of_cond 5 Try.f5 rfl rfl rfl rfl rfl rfl rfl ⟨rfl, rfl, rfl, rfl, rfl⟩ rfl rfl rfl rfl rfl (by kernel_rfl) Try.func5 (by kernel_rfl)
    (of_decide_eq_true (by kernel_rfl)) (by unfold Func.isWrapper; first | (rw [if_pos (by decide +kernel)]; kernel_rfl) | (rw [if_neg (by decide +kernel)]; exact ⟨rfl, rfl⟩))
    (fun os started H enc _ F => lifted os started H enc F)
end Go.Proofs.Ytphbjbigjpfjfaa.otInverts
namespace Go.Proofs.Ytphbjbigjpfjfaa
theorem otInverts_holds : Rows.OtInvertsUptoSaid := otInverts.holds
#print axioms otInverts_holds
end Go.Proofs.Ytphbjbigjpfjfaa
