/-
  Proved: whether a delta may be, of how long texts it is and its normal form are what the reference says, and the delta is as it was (the law DeltaMeasures), for every input of bulk at most 1048576.
-/
import Derived.Test.YtoppcdnolalajaaDrJ
import Derived.Test.YtoppcdnolalajaaDArU
import Derived.ChangeOld
import Derived.ShutString
namespace Go.Proofs.Ytoppcdnolalajaa.deltaMeasures
open Go.RowKit Go.ChangeShapes Go.WideShapes Go.ChangeAt Go.PlainAid
open Go.ChangeMaps (open_string shut_string)

set_option maxRecDepth 20000 in
set_option maxHeartbeats 4000000 in
theorem walk (v : Value) (ds : List OpD) (w : World) (hr : RdD w v ds) (hm : ds.length ≤ 1048576) (hi : ∀ o ∈ ds, o.Sm) :
    Calls Try.prog 3 #[v] w fun e w' => e = .returned (.bool true) ∧ Below w.heap.size w w' := by
  have hm' : ds.length ≤ maxLen := by unfold maxLen; omega
  have hin : ∀ o ∈ ds, o.In := fun o ho => sm_in (hi o ho)
  have hbd := stR_bd ds
  obtain ⟨nl, _⟩ := jn_in (stR_ok hin) hbd.1 hbd.2
  have cC := copied_any v ds w hr (by omega)
  have kC := fun u W h => check_any u ds W h hm' hin
  have kB := fun u W h => base_any u ds W h hm' hin
  have kT := fun u W h => target_any u ds W h hm' hin
  have kN := fun u W h => normal_any u ds W h hm' hin
  have rC := fun W h => refCheck_any v ds W h hm' hi
  have rB := fun W h => refBase_any v ds W h hm' hi
  have rT := fun W h => refTarget_any v ds W h hm' hi
  have rN := fun W h => refNormal_any v ds W h hm' hi
  have nl' : (jn (stR ds)).length ≤ maxLen := by unfold maxLen; omega
  have sN := fun a b W h1 h2 => same_true a b (jn (stR ds)) W nl' h1 h2
  have sD := fun a b W h1 h2 => same_true a b ds W hm' h1 h2
  clear hin hi hbd hm nl'
  generalize jn (stR ds) = N at *
  generalize bsum (stR ds) = B at *
  generalize tsum (stR ds) = T at *
  generalize chk ds = c at *
  go_enter Try.func3, Try.ntmps3
  go_wp2_with fail
  refine cC.mono ?_
  rintro e w1 ⟨u1, rfl, ho1, hb1⟩
  have r1 := rdd_own ho1
  have d1 := hr.below hb1
  clear cC ho1 hr
  go_wp2_with fail
  refine (kC _ _ r1).mono ?_
  rintro e w2 ⟨rfl, hb2⟩
  have r2 := r1.below hb2
  have d2 := d1.below hb2
  have hB2 := chain hb1 hb2
  clear kC r1 d1 hb1 hb2
  go_wp2_with fail
  refine (kB _ _ r2).mono ?_
  rintro e w3 ⟨rfl, hb3⟩
  have r3 := r2.below hb3
  have d3 := d2.below hb3
  have hB3 := chain hB2 hb3
  clear kB r2 d2 hB2 hb3
  go_wp2_with fail
  refine (kT _ _ r3).mono ?_
  rintro e w4 ⟨rfl, hb4⟩
  have r4 := r3.below hb4
  have d4 := d3.below hb4
  have hB4 := chain hB3 hb4
  clear kT r3 d3 hB3 hb4
  go_wp2_with fail
  refine (kN _ _ r4).mono ?_
  rintro e w5 ⟨u5, rfl, ho5, hb5⟩
  have d5 := d4.below hb5
  clear kN
  go_wp2_with fail
  refine (rB _ d5).mono ?_
  rintro e w6 ⟨rfl, hb6⟩
  have d6 := d5.below hb6
  have ho6 := own_belowG ho5 hb6
  have hC6 := chain hb5 hb6
  clear rB d5 ho5 hb5 hb6
  go_wp2_with fail
  refine (rT _ d6).mono ?_
  rintro e w7 ⟨rfl, hb7⟩
  have d7 := d6.below hb7
  have ho7 := own_belowG ho6 hb7
  have hC7 := chain hC6 hb7
  clear rT d6 ho6 hC6 hb7
  go_wp2_with fail
  refine (rN _ d7).mono ?_
  rintro e w8 ⟨u8, rfl, ho8, hb8⟩
  have d8 := d7.below hb8
  have on8 := own_belowG ho7 hb8
  have m8 := rdd_own ho8
  have hC8 := chain hC7 hb8
  clear rN d7 ho7 ho8 hC7 hb8
  go_wp2_with fail
  refine (rC _ d8).mono ?_
  rintro e w9 ⟨rfl, hb9⟩
  have d9 := d8.below hb9
  have on9 := own_belowG on8 hb9
  have m9 := m8.below hb9
  have hC9 := chain hC8 hb9
  clear rC d8 on8 m8 hC8 hb9
  go_wp2_with fail
  refine (sN _ _ _ (rdd_own on9) m9).mono ?_
  rintro e w10 ⟨rfl, hb10⟩
  have d10 := d9.below hb10
  have on10 := own_belowG on9 hb10
  have hC10 := chain hC9 hb10
  have r10 := r4.below hC10
  clear sN d9 on9 m9 hC9 hb10
  go_wp2_with fail
  refine (sD _ _ _ r10 d10).mono ?_
  rintro e w11 ⟨rfl, hb11⟩
  have on11 := own_belowG on10 hb11
  have hC11 := chain hC10 hb11
  clear d10 on10 hC10 hb11 r10
  obtain ⟨nao, ncp, rfl⟩ := own_form on11
  go_wp2_with fail
  go_loopw [17] (fun i wr => ∃ (k : Nat) (xs : List Value), k ≤ N.length ∧ i = .int .i64 (k : Int) ∧ wr.ownsRow w4.heap.size 32 3 (.slice nao N.length ncp) N.length xs ∧ Below w4.heap.size w4 wr) (fun i _ => N.length - (intOf i).toNat)
  case atStart => exact ⟨0, _, by omega, rfl, on11, hC11⟩
  case round =>
    obtain ⟨k, xs, hk, rfl, hox, hbx⟩ := hrel
    clear on11 hC11
    have hsz := hbx.size
    by_cases hlt : k < N.length
    · have hlt' : (k : Int) < (N.length : Int) := by omega
      obtain ⟨g, cap, hu⟩ := own_some hox (by omega)
      simp only [Value.slice.injEq, true_and] at hu
      obtain ⟨rfl, rfl⟩ := hu
      have hxl := hox.1
      have hcell := hox.cellAt (k * 3) (by omega)
      rw [List.getElem?_eq_getElem (by omega)] at hcell
      have hfz := hox.frozenAt (k * 3)
      have hst := hox.stored (k * 3) (.int .i64 9)
      have hgl := (hox.lt g rfl).1
      have R2 : Below w4.heap.size w4 (wr.setCell ⟨g, k * 3, none⟩ (.int .i64 9)) := below_set hbx hgl hsz
      have R1 := hst.1
      clear hst hox hbx
      generalize xs[k * 3] = y at *
      go_wp2_with fail
      go_roundw
      case rel => exact ⟨k + 1, _, by omega, by go_num, R1, R2⟩
      case measure => simp [intOf]; omega
    · have e : k = N.length := by omega
      subst e
      have rD := r4.below hbx
      have dD := d4.below hbx
      clear hox
      go_wp2_with (first | (go_at_call 18; refine (sD _ _ _ rD dD).mono ?_; rintro e w12 ⟨rfl, hb12⟩) | (go_at_call 19; refine (live_any _).mono ?_; rintro e w13 ⟨rfl, hb13⟩))
      go_ret
      exact ⟨rfl, chain (chain (chain hB4 hbx) hb12) hb13⟩

theorem own : ownKnob Try.prog.godebug = none := by kernel_rfl
theorem laidOut : laidOutB Try.prog = true := by kernel_rfl

set_option maxRecDepth 20000 in
theorem contract (H : Type) (enc : TypeId × Value → H) (W : World) (base : Nat) (args : Array Value) (ds gs : List (DataW H)) (before : List MemPlace)
    (hval : ∀ (j : Nat) t v, Try.f3.params[j]? = some t → args[j]? = some v → Value.okWide Try.prog W .any base t v)
    (hW : DataW.Whole enc Try.prog Try.f3.params.toList Rows.deltaMeasuresSpec.vars false W args.toList ds gs before) (hk : Rows.uptoSmall H (ds ++ gs) = true) :
    Calls Try.prog 3 args W fun e W' => ∃ v, e = .returned v ∧ Rows.deltaMeasuresSpec.post enc Try.prog Try.f3 false true false false W args v W' := by
  have hW' := hW
  obtain ⟨p, q, hA0, hV, rfl, hfz, hnd⟩ := hW
  have hA : DataW.TrodAll enc Try.prog W 0 (fun _ => true) true Try.f3.params.toList args.toList ds p := hA0
  rw [Try.params3] at hA hval
  obtain ⟨v0, vs0, d0, ds0, p0, q0, hargs, rfl, rfl, h0, r0⟩ := trodAll_cons hA
  obtain ⟨rfl, rfl, rfl⟩ := trodAll_nil r0
  obtain rfl : args = #[v0] := by cases args; simp_all
  obtain ⟨rfl, rfl⟩ := trodVars_none hV
  have k0 := h0
  have lt0 : ∀ x ∈ p0, x.block < W.heap.size := by obtain ⟨m, hm⟩ := k0; exact DataW.trod_lt m _ _ _ hm
  have b0 : Rows.uptoBulk d0 ≤ 1048576 := up_mem hk (by simp)
  obtain ⟨a0, len0, cap0, rfl⟩ := okWide_slice Try.underlying22 (hval 0 22 v0 rfl rfl)
  obtain ⟨fuel0, hf0⟩ := h0
  obtain ⟨l0, rd0, ln0, ok0⟩ := open_dlu hf0 b0
  clear hA0
  simp only [List.append_nil] at hW' hk
  refine (walk (.slice a0 len0 cap0) l0 W rd0 ln0 ok0).mono fun e W' ⟨he, bel⟩ => ?_
  subst he
  exact ⟨_, rfl, _, _, _, [], _, [], hW', trodAll_mk1 (shut_bool Try.underlying4 _), (trodAll_cons_mk (Below.trod laidOut (by kernel_rfl) (of_decide_eq_true (by kernel_rfl)) k0 bel lt0) trodAll_mk0), rfl, bel.frame _, fun h => by cases h⟩

set_option maxRecDepth 100000 in
theorem lifted (os : Os) (started : os.Started) (H : Type) (enc : TypeId × Value → H) (F : Stop.Interp) :
    ReturnsInHanded {} Try.checked os 3 .any ((Rows.OpenSpec.upto Rows.deltaMeasuresSpec).pre6 enc Try.prog Try.f3 Rows.deltaMeasuresUptoRow.domain false) (((Rows.OpenSpec.upto Rows.deltaMeasuresSpec).at F).post enc Try.prog Try.f3 false true false false) := by
  refine returnsInHanded_of_cond (C := Try.checked) (s := Rows.OpenSpec.upto Rows.deltaMeasuresSpec) (k := Rows.uptoSmall) rfl own started (by kernel_rfl) Try.func3
    (OpenSpec.witness (enc := enc) (C := Try.checked) (s := Rows.OpenSpec.upto Rows.deltaMeasuresSpec) (k := Rows.uptoSmall) rfl false ⟨#[], #[.slice none 0 0], []⟩ 8 (by kernel_rfl) (by kernel_rfl) (by kernel_rfl)
      (x := ([.nil], [], [])) (by kernel_rfl) rfl (by kernel_rfl)) ?_
  intro W base args ds gs before hval hW _ hk _
  exact contract H enc W base args ds gs before hval hW hk

theorem holds : Rows.DeltaMeasuresUptoSaid :=
  OpenClaim.holds_of_cond 3 Try.f3 rfl rfl rfl rfl rfl rfl rfl ⟨rfl, rfl, rfl, rfl, rfl⟩ rfl rfl rfl rfl rfl (by kernel_rfl) Try.func3 (by kernel_rfl)
    (of_decide_eq_true (by kernel_rfl)) (by unfold Func.isWrapper; first | (rw [if_pos (by decide +kernel)]; kernel_rfl) | (rw [if_neg (by decide +kernel)]; exact ⟨rfl, rfl⟩))
    (fun os started H enc _ F => lifted os started H enc F)
end Go.Proofs.Ytoppcdnolalajaa.deltaMeasures
namespace Go.Proofs.Ytoppcdnolalajaa
theorem deltaMeasures_holds : Rows.DeltaMeasuresUptoSaid := deltaMeasures.holds
#print axioms deltaMeasures_holds
end Go.Proofs.Ytoppcdnolalajaa
