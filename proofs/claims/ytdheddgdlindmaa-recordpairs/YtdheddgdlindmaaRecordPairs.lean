/-
  Proved: the pairs of any state, such as has no form, too, are the document's; the state is as it was (the law RecordPairs), for inputs of bulk at most 1048576.
-/
import Derived.Test.YtdheddgdlindmaaRcX
import Derived.Test.YtdheddgdlindmaaRfD
import Derived.Test.YtdheddgdlindmaaRfF
import Derived.Test.YtdheddgdlindmaaRfG
import Derived.Test.YtdheddgdlindmaaRows
namespace Go.Proofs.Ytdheddgdlindmaa.recordPairs
open Go.ChangeShapes Go.WideShapes Go.ChangeAt Go.RowKit Go.PlainAid

set_option maxRecDepth 20000 in
set_option maxHeartbeats 3000000 in
theorem walk (S : StD) (v1 v2 v3 : Value) (w : World) (hr : RdSt w v1 v2 v3 S) (hU : StU true S) :
    Calls Try.prog 3 #[.agg (S.fs v1 v2 v3)] w fun e w' => e = .returned (.bool true) ∧ Below w.heap.size w w' := by
  have hF := hU.fit
  have hSm := hU.sm
  have hls := hU.ls
  have hal := alloc_bR w (.cells (S.fs v1 v2 v3) 26)
  have hx := sb_new w S v1 v2 v3
  have hr1 := hr.below hal
  have cC := copied15_any S v1 v2 v3 _ hr1 hU
  obtain ⟨a1, k1, e1, -⟩ := hr.c
  obtain ⟨a2, k2, e2, -⟩ := hr.b
  obtain ⟨a3, k3, e3, -⟩ := hr.u
  generalize hw1 : w.alloc (.cells (S.fs v1 v2 v3) 26) = w1 at *
  have cR := fun W (h : Below w1.heap.size w1 W) => pairs15_any S v1 v2 v3 W (hr1.below h) hF hSm
  have cP := fun u1 u2 u3 W (h : RdSt W u1 u2 u3 S) => pairs_any S u1 u2 u3 W h hF
  have cS := fun u1 u2 u3 W (hb : Below w1.heap.size w1 W) (h : RdSt W u1 u2 u3 S) => same15_true S u1 u2 u3 v1 v2 v3 W h (hr1.below hb) hF hls
  have hpl := prE_len S
  clear hr hr1
  subst e1 e2 e3
  have hX : ∀ W', Below w1.heap.size w1 W' → _ := fun W' h => cellsSB (hx.below h)
  obtain ⟨x0, x1, x2, x3, x4⟩ := hX w1 (Below.refl _ _)
  generalize prE S = X at *
  simp only [StD.fs] at cC cR hw1 hx ⊢
  go_enter Try.func3, Try.ntmps3
  go_wp2_with fail
  refine cC.mono ?_
  rintro e w2 ⟨u1, u2, u3, rfl, ⟨us, ls, ho⟩, hb2⟩
  have hrd := ho.rd
  obtain ⟨a4, k4, rfl⟩ := own_form ho.c.row
  obtain ⟨a5, k5, rfl⟩ := own_form ho.b.row
  obtain ⟨a6, k6, rfl⟩ := own_form ho.u
  have b3 := alloc_bR w2 (.cells (S.fs (.slice a4 S.cs.length k4) (.slice a5 S.bs.length k5) (.slice a6 S.us.length k6)) 26)
  have h3 := sb_new w2 S (.slice a4 S.cs.length k4) (.slice a5 S.bs.length k5) (.slice a6 S.us.length k6)
  have hb23 := hb2.trans (b3.mono hb2.size)
  have hrd3 := hrd.below b3
  simp only [StD.fs] at b3 h3 hb23 hrd3
  obtain ⟨w3, hw3⟩ : ∃ w3, w3 = w2.alloc (.cells #[.int .i64 S.nc, .int .i64 S.nb, .slice a4 S.cs.length k4, .slice a5 S.bs.length k5, .slice a6 S.us.length k6] 26) := ⟨_, rfl⟩
  rw [← hw3] at b3 h3 hb23 hrd3
  have cP3 := cP _ _ _ w3 hrd3
  simp only [StD.fs] at cP3
  have hY : ∀ W', Below w3.heap.size w3 W' → W'.cell? ⟨w2.heap.size, 0, none⟩ = some (.int .i64 S.nc) ∧ W'.cell? ⟨w2.heap.size, 1, none⟩ = some (.int .i64 S.nb) ∧ W'.cell? ⟨w2.heap.size, 2, none⟩ = some (.slice a4 S.cs.length k4) ∧ W'.cell? ⟨w2.heap.size, 3, none⟩ = some (.slice a5 S.bs.length k5) ∧ W'.cell? ⟨w2.heap.size, 4, none⟩ = some (.slice a6 S.us.length k6) := fun W' h => cellsSB (S := S) (SB.below h3 h)
  clear x0 x1 x2 x3 x4 cC cP ho hrd
  obtain ⟨y0, y1, y2, y3, y4⟩ := hY w3 (Below.refl _ _)
  rw [hw3] at y0 y1 y2 y3 y4
  go_wp2_with fail
  rw [← hw3]
  refine cP3.mono ?_
  rintro e w4 ⟨dv, rfl, ho4, hb4⟩
  obtain ⟨a7, k7, rfl⟩ := own_form ho4
  have hb24 := hb23.trans (hb4.mono hb23.size)
  have cR4 := cR w4 hb24
  clear y0 y1 y2 y3 y4 cP3 cR hw3
  obtain ⟨x0, x1, x2, x3, x4⟩ := hX w4 hb24
  go_wp2_with fail
  refine cR4.mono ?_
  rintro e w5 ⟨dv5, rfl, ho5, hb5⟩
  obtain ⟨a8, k8, rfl⟩ := own_form ho5
  have hb25 := hb24.trans (hb5.mono hb24.size)
  have cQ := samePa_true _ _ X.1 w5 ((rdpa_own ho4).below hb5) (rdpa_own ho5) (by omega)
  clear x0 x1 x2 x3 x4 cR4
  go_wp2_with fail
  refine cQ.mono ?_
  rintro e w6 ⟨rfl, hb6⟩
  have hb26 := hb25.trans (hb6.mono hb25.size)
  have hb36 := (hb4.trans (hb5.mono hb4.size)).trans (hb6.mono (Nat.le_trans hb4.size hb5.size))
  have cS6 := cS _ _ _ w6 hb26 (hrd3.below hb36)
  simp only [StD.fs] at cS6
  obtain ⟨x0, x1, x2, x3, x4⟩ := hX w6 hb26
  obtain ⟨y0, y1, y2, y3, y4⟩ := hY w6 hb36
  clear cQ cS ho4 ho5
  go_wp2_with fail
  refine cS6.mono ?_
  rintro e w7 ⟨rfl, hb7⟩
  have hb27 := hb26.trans (hb7.mono hb26.size)
  have cl := live15_any w7
  clear x0 x1 x2 x3 x4 y0 y1 y2 y3 y4 cS6
  go_wp2_with fail
  refine cl.mono ?_
  rintro e w8 ⟨rfl, hb8⟩
  have hb28 := hb27.trans (hb8.mono hb27.size)
  go_wp2_with fail
  go_ret
  exact ⟨rfl, hal.trans (hb28.mono hal.size)⟩

theorem own : ownKnob Try.prog.godebug = none := by kernel_rfl
theorem laidOut : laidOutB Try.prog = true := by kernel_rfl

set_option maxRecDepth 20000 in
theorem contract (H : Type) (enc : TypeId × Value → H) (W : World) (base : Nat) (args : Array Value) (ds gs : List (DataW H)) (before : List MemPlace)
    (hval : ∀ (j : Nat) t v, Try.f3.params[j]? = some t → args[j]? = some v → Value.okWide Try.prog W .any base t v)
    (hW : DataW.Whole enc Try.prog Try.f3.params.toList Rows.recordPairsSpec.vars false W args.toList ds gs before) (hk : Rows.uptoSmall H (ds ++ gs) = true) :
    Calls Try.prog 3 args W fun e W' => ∃ v, e = .returned v ∧ Rows.recordPairsSpec.post enc Try.prog Try.f3 false true false false W args v W' := by
  have hW' := hW
  obtain ⟨p, q, hA0, hV, rfl, hfz, hnd⟩ := hW
  have hA : DataW.TrodAll enc Try.prog W 0 (fun _ => true) true Try.f3.params.toList args.toList ds p := hA0
  rw [Try.params3] at hA hval
  obtain ⟨v0, vs0, d0, ds0, p0, q0, hargs, rfl, rfl, h0, r0⟩ := trodAll_cons hA
  obtain ⟨rfl, rfl, rfl⟩ := trodAll_nil r0
  obtain rfl : args = #[v0] := by cases args; simp_all
  obtain ⟨rfl, rfl⟩ := trodVars_none hV
  have k0 := h0
  have lt0 : ∀ x ∈ p0, x.block < W.heap.size := by obtain ⟨m, hm⟩ := k0; exact DataW.trod_lt m _ _ _ hm
  have b0 : Rows.uptoBulk d0 ≤ 1048576 := up_mem hk (by simp)
  obtain ⟨fuel0, hf0⟩ := h0
  obtain ⟨S0, s0a, s0b, s0c, hc0, rd0, ok0⟩ := open_st od_true hf0 b0
  obtain rfl := st_val hc0
  clear hA0
  simp only [List.append_nil] at hW' hk
  refine (walk S0 s0a s0b s0c W rd0 ok0).mono fun e W' ⟨he, bel⟩ => ?_
  subst he
  exact ⟨_, rfl, _, _, _, [], _, [], hW', trodAll_mk1 (shut_bool Try.underlying4 _), (trodAll_cons_mk (Below.trod laidOut (by kernel_rfl) (of_decide_eq_true (by kernel_rfl)) k0 bel lt0) trodAll_mk0), rfl, bel.frame _, fun h => by cases h⟩

set_option maxRecDepth 100000 in
theorem lifted (os : Os) (started : os.Started) (H : Type) (enc : TypeId × Value → H) (F : Stop.Interp) :
    ReturnsInHanded {} Try.checked os 3 .any ((Rows.OpenSpec.upto Rows.recordPairsSpec).pre6 enc Try.prog Try.f3 Rows.recordPairsUptoRow.domain false) (((Rows.OpenSpec.upto Rows.recordPairsSpec).at F).post enc Try.prog Try.f3 false true false false) := by
  refine returnsInHanded_of_cond (C := Try.checked) (s := Rows.OpenSpec.upto Rows.recordPairsSpec) (k := Rows.uptoSmall) rfl own started (by kernel_rfl) Try.func3
    (OpenSpec.witness (enc := enc) (C := Try.checked) (s := Rows.OpenSpec.upto Rows.recordPairsSpec) (k := Rows.uptoSmall) rfl false ⟨#[], #[.agg #[.int .i64 0, .int .i64 0, .slice none 0 0, .slice none 0 0, .slice none 0 0]], []⟩ 8 (by kernel_rfl) (by kernel_rfl) (by kernel_rfl)
      (x := ([.agg [.lit (.int .i64 0), .lit (.int .i64 0), .nil, .nil, .nil]], [], [])) (by kernel_rfl) rfl (by kernel_rfl)) ?_
  intro W base args ds gs before hval hW _ hk _
  exact contract H enc W base args ds gs before hval hW hk

theorem holds : Rows.RecordPairsUptoSaid :=
  OpenClaim.holds_of_cond 3 Try.f3 rfl rfl rfl rfl rfl rfl rfl ⟨rfl, rfl, rfl, rfl, rfl⟩ rfl rfl rfl rfl rfl (by kernel_rfl) Try.func3 (by kernel_rfl)
    (of_decide_eq_true (by kernel_rfl)) (by unfold Func.isWrapper; first | (rw [if_pos (by decide +kernel)]; kernel_rfl) | (rw [if_neg (by decide +kernel)]; exact ⟨rfl, rfl⟩))
    (fun os started H enc _ F => lifted os started H enc F)
end Go.Proofs.Ytdheddgdlindmaa.recordPairs
namespace Go.Proofs.Ytdheddgdlindmaa
theorem recordPairs_holds : Rows.RecordPairsUptoSaid := recordPairs.holds
#print axioms recordPairs_holds
end Go.Proofs.Ytdheddgdlindmaa
