/-
  Proved: a message is written just as the reference writes it, or refused (the law WireWrites), for every input of bulk at most 1048576.
-/
import Derived.Test.YtgceileakcjmdaaRwC
import Derived.ChangeOld
import Derived.ShutString
namespace Go.Proofs.Ytgceileakcjmdaa.wireWrites
open Go.RowKit Go.ChangeShapes Go.WideShapes Go.ChangeAt Go.PlainAid

set_option maxRecDepth 20000 in
set_option maxHeartbeats 1000000 in
theorem walk (m : MsD) (u : Value) (w : World) (hr : RdD w u m.d) (hm : m.d.length ≤ 1048576) (hi : ∀ o ∈ m.d, o.Sm) :
    Calls Try.prog 3 #[.agg (m.fs u)] w fun e w' => e = .returned (.bool true) ∧ Below w.heap.size w w' := by
  have hm' : m.d.length ≤ maxLen := by unfold maxLen; omega
  have hB : Below w.heap.size w (w.alloc (.cells (m.fs u) 24)) := (Below.refl _ w).alloc (Nat.le_refl _) _
  have hx : MB _ _ m u := heap_alloc_new w (.cells (m.fs u) 24)
  have hr0 := hr.below hB
  have hC := copied16_any m u _ hr0 (by omega)
  have hE := fun v W h => wencode_any m v W h hm' (fun o ho => sm_in (hi o ho))
  have hR := fun v W h => rencode_any m v W h hm' hi
  have hS := fun a b W h1 h2 => sameM_true m a b W hm' h1 h2
  generalize weR m = R at *
  obtain ⟨r1, r2⟩ := R
  simp only at hE hR
  obtain ⟨ao, cp, rfl, -⟩ := hr
  clear hm hi hm'
  unfold MsD.fs at hB hx hr0 hC hE hR hS ⊢
  go_enter Try.func3, Try.ntmps3
  go_wp2_with fail
  generalize w.alloc _ = w0 at *
  refine hC.mono ?_
  clear hC
  rintro e w1 ⟨u1, rfl, ho1, hb1⟩
  have q1 := rdd_own ho1
  obtain ⟨ao1, cp1, rfl⟩ := own_form ho1
  have hB1 := hB.trans (hb1.mono hB.size)
  have hx1 := MB.below (m := m) hx hb1
  have hr1 := hr0.below hb1
  have hb2 : Below w1.heap.size w1 (w1.alloc (.cells #[.int .i64 m.k, .int .i64 m.b, .int .i64 m.c, .int .i64 m.s, .int .i64 m.r, .int .i64 m.y, .slice ao1 m.d.length cp1] 24)) := (Below.refl _ w1).alloc (Nat.le_refl _) _
  have hy2 : MB _ _ m (.slice ao1 m.d.length cp1) := heap_alloc_new w1 (.cells #[.int .i64 m.k, .int .i64 m.b, .int .i64 m.c, .int .i64 m.s, .int .i64 m.r, .int .i64 m.y, .slice ao1 m.d.length cp1] 24)
  have hB2 := hB1.trans (hb2.mono hB1.size)
  have hx2 := hx1.below hb2
  have hr2 := hr1.below hb2
  have q2 := q1.below hb2
  have hE1 := hE _ _ q2
  clear hB hx hr0 ho1 hb1 q1 hB1 hx1 hr1 hb2 hE
  go_wp2_with fail
  generalize w1.alloc _ = w2 at *
  refine hE1.mono ?_
  clear hE1
  rintro e w3 ⟨rfl, hb3⟩
  have hB3 := hB2.trans (hb3.mono hB2.size)
  have hx3 := hx2.below hb3
  have hy3 := hy2.below hb3
  have hr3 := hr2.below hb3
  have q3 := q2.below hb3
  have hR1 := hR _ _ hr3
  obtain ⟨c0, c1, c2, c3, c4, c5, c6⟩ := hx3.cells
  clear hB2 hx2 hy2 hr2 q2 hb3 hR
  go_wp2_with fail
  refine hR1.mono ?_
  clear hR1 c0 c1 c2 c3 c4 c5 c6
  rintro e w4 ⟨rfl, hb4⟩
  have hB4 := hB3.trans (hb4.mono hB3.size)
  have hx4 := hx3.below hb4
  have hy4 := hy3.below hb4
  have hr4 := hr3.below hb4
  have q4 := q3.below hb4
  clear hB3 hx3 hy3 hr3 q3 hb4
  go_wp2_with fail
  refine (live16_any w4).mono ?_
  rintro e w5 ⟨rfl, hb5⟩
  have hB5 := hB4.trans (hb5.mono hB4.size)
  have hx5 := hx4.below hb5
  have hy5 := hy4.below hb5
  have hS1 := hS _ _ _ (q4.below hb5) (hr4.below hb5)
  obtain ⟨c0, c1, c2, c3, c4, c5, c6⟩ := hx5.cells
  obtain ⟨d0, d1, d2, d3, d4, d5, d6⟩ := hy5.cells
  clear hB4 hx4 hy4 hr4 q4 hb5 hS hx5 hy5
  go_wp2_with fail
  refine hS1.mono ?_
  clear hS1 c0 c1 c2 c3 c4 c5 c6 d0 d1 d2 d3 d4 d5 d6
  rintro e w6 ⟨rfl, hb6⟩
  go_wp2_with fail
  go_ret
  exact ⟨rfl, hB5.trans (hb6.mono hB5.size)⟩

theorem own : ownKnob Try.prog.godebug = none := by kernel_rfl
theorem laidOut : laidOutB Try.prog = true := by kernel_rfl

set_option maxRecDepth 20000 in
theorem contract (H : Type) (enc : TypeId × Value → H) (W : World) (base : Nat) (args : Array Value) (ds gs : List (DataW H)) (before : List MemPlace)
    (hval : ∀ (j : Nat) t v, Try.f3.params[j]? = some t → args[j]? = some v → Value.okWide Try.prog W .any base t v)
    (hW : DataW.Whole enc Try.prog Try.f3.params.toList Rows.wireWritesSpec.vars false W args.toList ds gs before) (hk : Rows.uptoSmall H (ds ++ gs) = true) :
    Calls Try.prog 3 args W fun e W' => ∃ v, e = .returned v ∧ Rows.wireWritesSpec.post enc Try.prog Try.f3 false true false false W args v W' := by
  have hW' := hW
  obtain ⟨p, q, hA0, hV, rfl, hfz, hnd⟩ := hW
  have hA : DataW.TrodAll enc Try.prog W 0 (fun _ => true) true Try.f3.params.toList args.toList ds p := hA0
  rw [Try.params3] at hA hval
  obtain ⟨v0, vs0, d0, ds0, p0, q0, hargs, rfl, rfl, h0, r0⟩ := trodAll_cons hA
  obtain ⟨rfl, rfl, rfl⟩ := trodAll_nil r0
  obtain rfl : args = #[v0] := by cases args; simp_all
  obtain ⟨rfl, rfl⟩ := trodVars_none hV
  have k0 := h0
  have lt0 : ∀ x ∈ p0, x.block < W.heap.size := by obtain ⟨m, hm⟩ := k0; exact DataW.trod_lt m _ _ _ hm
  have b0 : Rows.uptoBulk d0 ≤ 1048576 := up_mem hk (by simp)
  obtain ⟨fuel0, hf0⟩ := h0
  obtain ⟨l0, u0, hc0, rd0, ln0, ok0⟩ := open_msu hf0 b0
  obtain rfl := ms_val hc0
  clear hA0
  simp only [List.append_nil] at hW' hk
  refine (walk l0 u0 W rd0 ln0 ok0).mono fun e W' ⟨he, bel⟩ => ?_
  subst he
  exact ⟨_, rfl, _, _, _, [], _, [], hW', trodAll_mk1 (shut_bool Try.underlying4 _), (trodAll_cons_mk (Below.trod laidOut (by kernel_rfl) (of_decide_eq_true (by kernel_rfl)) k0 bel lt0) trodAll_mk0), rfl, bel.frame _, fun h => by cases h⟩

set_option maxRecDepth 100000 in
theorem lifted (os : Os) (started : os.Started) (H : Type) (enc : TypeId × Value → H) (F : Stop.Interp) :
    ReturnsInHanded {} Try.checked os 3 .any ((Rows.OpenSpec.upto Rows.wireWritesSpec).pre6 enc Try.prog Try.f3 Rows.wireWritesUptoRow.domain false) (((Rows.OpenSpec.upto Rows.wireWritesSpec).at F).post enc Try.prog Try.f3 false true false false) := by
  refine returnsInHanded_of_cond (C := Try.checked) (s := Rows.OpenSpec.upto Rows.wireWritesSpec) (k := Rows.uptoSmall) rfl own started (by kernel_rfl) Try.func3
    (OpenSpec.witness (enc := enc) (C := Try.checked) (s := Rows.OpenSpec.upto Rows.wireWritesSpec) (k := Rows.uptoSmall) rfl false ⟨#[], #[.agg #[.int .i64 0, .int .i64 0, .int .i64 0, .int .i64 0, .int .i64 0, .int .i64 0, .slice none 0 0]], []⟩ 8 (by kernel_rfl) (by kernel_rfl) (by kernel_rfl)
      (x := ([.agg [.lit (.int .i64 0), .lit (.int .i64 0), .lit (.int .i64 0), .lit (.int .i64 0), .lit (.int .i64 0), .lit (.int .i64 0), .nil]], [], [])) (by kernel_rfl) rfl (by kernel_rfl)) ?_
  intro W base args ds gs before hval hW _ hk _
  exact contract H enc W base args ds gs before hval hW hk

theorem holds : Rows.WireWritesUptoSaid :=
  OpenClaim.holds_of_cond 3 Try.f3 rfl rfl rfl rfl rfl rfl rfl ⟨rfl, rfl, rfl, rfl, rfl⟩ rfl rfl rfl rfl rfl (by kernel_rfl) Try.func3 (by kernel_rfl)
    (of_decide_eq_true (by kernel_rfl)) (by unfold Func.isWrapper; first | (rw [if_pos (by decide +kernel)]; kernel_rfl) | (rw [if_neg (by decide +kernel)]; exact ⟨rfl, rfl⟩))
    (fun os started H enc _ F => lifted os started H enc F)
end Go.Proofs.Ytgceileakcjmdaa.wireWrites
namespace Go.Proofs.Ytgceileakcjmdaa
theorem wireWrites_holds : Rows.WireWritesUptoSaid := wireWrites.holds
#print axioms wireWrites_holds
end Go.Proofs.Ytgceileakcjmdaa
