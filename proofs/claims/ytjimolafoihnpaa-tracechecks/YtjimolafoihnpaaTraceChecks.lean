/-
  Proved: whether documents agree, and which two do not first, is just as the document says; they stay as they were (the law TraceChecks), for inputs of bulk at most 1048576.
-/
import Derived.Test.YtjimolafoihnpaaTsD
import Derived.Test.YtjimolafoihnpaaTsO
import Derived.Test.YtjimolafoihnpaaTrO
import Derived.Test.YtjimolafoihnpaaTrR
import Derived.Test.YtjimolafoihnpaaRows
import Derived.ChangeOld
namespace Go.Proofs.Ytjimolafoihnpaa.traceChecks
open Go.ChangeShapes Go.WideShapes Go.ChangeAt Go.RowKit Go.PlainAid Go.Proofs.Ytjimolafoihnpaa.tc

set_option maxRecDepth 20000 in
set_option maxHeartbeats 1600000 in
theorem walk (v : Value) (L0 : List (List RunD)) (w : World) (hr : RdL w v L0) (hU : Up L0) :
    Calls Try.prog 3 #[v] w fun e w' => e = .returned (.bool true) ∧ Below w.heap.size w w' := by
  have cS := some24_any v L0 w hr
  have hU' := hU.take 12
  obtain ⟨L, HL⟩ : ∃ L, L = L0.take 12 := ⟨_, rfl⟩
  rw [← HL] at cS hU'
  clear HL hU
  obtain ⟨av, kv, rfl, -⟩ := hr
  go_enter Try.func3, Try.ntmps3
  go_wp2_with fail
  refine cS.mono ?_
  rintro e w1 ⟨u, rfl, r1, hb⟩
  obtain ⟨au, ku, rfl, -⟩ := id r1
  clear cS
  go_wp2_with fail
  refine (copied24_any _ L w1 r1 hU'.len (fun l hl => (hU'.row l hl).1)).mono ?_
  rintro e w2 ⟨u2, rfl, r2, q2⟩
  replace r1 := r1.below q2
  replace hb := chain hb q2
  obtain ⟨a2, k2, rfl, -⟩ := id r2
  go_wp2_with fail
  refine (check_any _ L w2 r2 hU'.len hU'.row hU'.atoms).mono ?_
  rintro e w3 ⟨a, b, ok, rfl, hc, q3⟩
  replace r1 := r1.below q3
  replace r2 := r2.below q3
  replace hb := chain hb q3
  go_wp2_with fail
  refine (rcheck24_any _ L w3 r1 hU'.len (fun l hl => ⟨(hU'.row l hl).1, fun r hr => ((hU'.row l hl).2 r hr).1⟩) hU'.atoms).mono ?_
  rintro e w4 ⟨a', b', ok', rfl, hc', q4⟩
  obtain ⟨rfl, rfl, rfl⟩ := chk_one hc hc'
  replace r1 := r1.below q4
  replace r2 := r2.below q4
  replace hb := chain hb q4
  clear hc hc' q2 q3 q4
  have cL := live24_any w4
  go_wp2_with fail
  refine cL.mono ?_
  rintro e w5 ⟨rfl, q5⟩
  replace r1 := r1.below q5
  replace r2 := r2.below q5
  replace hb := chain hb q5
  have cE := same24_any _ _ L w5 r2 r1 hU'.len (fun l hl => (hU'.row l hl).1)
  clear cL q5
  have hok : (ok == ok) = true := by simp
  go_wp2_with fail
  refine cE.mono ?_
  rintro e w6 ⟨rfl, q6⟩
  go_wp2_with fail
  go_ret
  exact ⟨rfl, chain hb q6⟩

theorem own : ownKnob Try.prog.godebug = none := by kernel_rfl
theorem laidOut : laidOutB Try.prog = true := by kernel_rfl

set_option maxRecDepth 20000 in
theorem contract (H : Type) (enc : TypeId × Value → H) (W : World) (base : Nat) (args : Array Value) (ds gs : List (DataW H)) (before : List MemPlace)
    (hval : ∀ (j : Nat) t v, Try.f3.params[j]? = some t → args[j]? = some v → Value.okWide Try.prog W .any base t v)
    (hW : DataW.Whole enc Try.prog Try.f3.params.toList Rows.traceChecksSpec.vars false W args.toList ds gs before) (hk : Rows.uptoSmall H (ds ++ gs) = true) :
    Calls Try.prog 3 args W fun e W' => ∃ v, e = .returned v ∧ Rows.traceChecksSpec.post enc Try.prog Try.f3 false true false false W args v W' := by
  have hW' := hW
  obtain ⟨p, q, hA0, hV, rfl, hfz, hnd⟩ := hW
  have hA : DataW.TrodAll enc Try.prog W 0 (fun _ => true) true Try.f3.params.toList args.toList ds p := hA0
  rw [Try.params3] at hA hval
  obtain ⟨v0, vs0, d0, ds0, p0, q0, hargs, rfl, rfl, h0, r0⟩ := trodAll_cons hA
  obtain ⟨rfl, rfl, rfl⟩ := trodAll_nil r0
  obtain rfl : args = #[v0] := by cases args; simp_all
  obtain ⟨rfl, rfl⟩ := trodVars_none hV
  have k0 := h0
  have lt0 : ∀ x ∈ p0, x.block < W.heap.size := by obtain ⟨m, hm⟩ := k0; exact DataW.trod_lt m _ _ _ hm
  have b0 : Rows.uptoBulk d0 ≤ 1048576 := up_mem hk (by simp)
  obtain ⟨a0, len0, cap0, rfl⟩ := okWide_slice Try.underlying22 (hval 0 22 v0 rfl rfl)
  obtain ⟨fuel0, hf0⟩ := h0
  obtain ⟨l0, rd0, ok0⟩ := open_rru (v := .slice a0 len0 cap0) hf0 b0
  clear hA0
  simp only [List.append_nil] at hW' hk
  refine (walk (.slice a0 len0 cap0) l0 W rd0 ok0).mono fun e W' ⟨he, bel⟩ => ?_
  subst he
  exact ⟨_, rfl, _, _, _, [], _, [], hW', trodAll_mk1 (shut_bool Try.underlying4 _), (trodAll_cons_mk (Below.trod laidOut (by kernel_rfl) (of_decide_eq_true (by kernel_rfl)) k0 bel lt0) trodAll_mk0), rfl, bel.frame _, fun h => by cases h⟩

set_option maxRecDepth 100000 in
theorem lifted (os : Os) (started : os.Started) (H : Type) (enc : TypeId × Value → H) (F : Stop.Interp) :
    ReturnsInHanded {} Try.checked os 3 .any ((Rows.OpenSpec.upto Rows.traceChecksSpec).pre6 enc Try.prog Try.f3 Rows.traceChecksUptoRow.domain false) (((Rows.OpenSpec.upto Rows.traceChecksSpec).at F).post enc Try.prog Try.f3 false true false false) := by
  refine returnsInHanded_of_cond (C := Try.checked) (s := Rows.OpenSpec.upto Rows.traceChecksSpec) (k := Rows.uptoSmall) rfl own started (by kernel_rfl) Try.func3
    (OpenSpec.witness (enc := enc) (C := Try.checked) (s := Rows.OpenSpec.upto Rows.traceChecksSpec) (k := Rows.uptoSmall) rfl false ⟨#[], #[.slice none 0 0], []⟩ 8 (by kernel_rfl) (by kernel_rfl) (by kernel_rfl)
      (x := ([.nil], [], [])) (by kernel_rfl) rfl (by kernel_rfl)) ?_
  intro W base args ds gs before hval hW _ hk _
  exact contract H enc W base args ds gs before hval hW hk

theorem holds : Rows.TraceChecksUptoSaid :=
  OpenClaim.holds_of_cond 3 Try.f3 rfl rfl rfl rfl rfl rfl rfl ⟨rfl, rfl, rfl, rfl, rfl⟩ rfl rfl rfl rfl rfl (by kernel_rfl) Try.func3 (by kernel_rfl)
    (of_decide_eq_true (by kernel_rfl)) (by unfold Func.isWrapper; first | (rw [if_pos (by decide +kernel)]; kernel_rfl) | (rw [if_neg (by decide +kernel)]; exact ⟨rfl, rfl⟩))
    (fun os started H enc _ F => lifted os started H enc F)
end Go.Proofs.Ytjimolafoihnpaa.traceChecks
namespace Go.Proofs.Ytjimolafoihnpaa
theorem traceChecks_holds : Rows.TraceChecksUptoSaid := traceChecks.holds
#print axioms traceChecks_holds
end Go.Proofs.Ytjimolafoihnpaa
