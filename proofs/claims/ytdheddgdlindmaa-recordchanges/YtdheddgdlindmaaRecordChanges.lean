/-
  Proved: what is put in and taken out from any state to any other one is the document's (the law RecordChanges), for inputs of bulk at most 1048576.
-/
import Derived.Test.YtdheddgdlindmaaRcX
import Derived.Test.YtdheddgdlindmaaReD
import Derived.Test.YtdheddgdlindmaaRfE
import Derived.Test.YtdheddgdlindmaaRows
import Derived.Deep.RegionLaw
namespace Go.Proofs.Ytdheddgdlindmaa.recordChanges
open Go.ChangeShapes Go.WideShapes Go.ChangeAt Go.RowKit Go.PlainAid

theorem ch_len (F T : StD) : (chE F T).1.length ≤ 1000 ∧ (chE F T).2.1.length ≤ 1000 := by
  unfold chE
  split
  · rename_i h
    have h1 := prD_len h.1
    have h2 := prD_len h.2
    have h3 := List.length_filter_le (fun p => !decide (p ∈ prD F)) (prD T)
    have h4 := List.length_filter_le (fun p : PaD => !hasK (prD T) p.k) (prD F)
    unfold ptD gnD
    simp only [List.length_map]
    omega
  · simp
set_option maxRecDepth 20000 in
set_option maxHeartbeats 4000000 in
theorem walk (F : StD) (f1 f2 f3 : Value) (T : StD) (t1 t2 t3 : Value) (w : World) (hf : RdSt w f1 f2 f3 F) (hUf : StU true F) (ht : RdSt w t1 t2 t3 T) (hUt : StU true T) :
    Calls Try.prog 5 #[.agg (F.fs f1 f2 f3), .agg (T.fs t1 t2 t3)] w fun e w' => e = .returned (.bool true) ∧ Below w.heap.size w w' := by
  have b1 := alloc_bR w (.cells (F.fs f1 f2 f3) 26)
  have b2 := alloc_bR (w.alloc (.cells (F.fs f1 f2 f3) 26)) (.cells (T.fs t1 t2 t3) 26)
  have k1 := (sb_new w F f1 f2 f3).below b2
  have k2 := sb_new (w.alloc (.cells (F.fs f1 f2 f3) 26)) T t1 t2 t3
  rw [World.size_alloc] at k2
  have hB0 := b1.trans (b2.mono b1.size)
  have hf' := hf.below hB0
  have ht' := ht.below hB0
  obtain ⟨a1, c1, e1, -⟩ := hf.c
  subst e1
  obtain ⟨a2, c2, e2, -⟩ := hf.b
  subst e2
  obtain ⟨a3, c3, e3, -⟩ := hf.u
  subst e3
  obtain ⟨d1, g1, e1, -⟩ := ht.c
  subst e1
  obtain ⟨d2, g2, e2, -⟩ := ht.b
  subst e2
  obtain ⟨d3, g3, e3, -⟩ := ht.u
  subst e3
  generalize hw2 : (w.alloc (.cells (F.fs (.slice a1 F.cs.length c1) (.slice a2 F.bs.length c2) (.slice a3 F.us.length c3)) 26)).alloc (.cells (T.fs (.slice d1 T.cs.length g1) (.slice d2 T.bs.length g2) (.slice d3 T.us.length g3)) 26) = w2 at *
  have hDr : Below w2.heap.size w2 w2.drew := Below.drew (Below.refl _ _)
  have cA := copied15_any F _ _ _ w2.drew (hf'.below hDr) hUf
  have cB := fun W (h : Below w2.heap.size w2 W) => copied15_any T _ _ _ W (ht'.below h) hUt
  have cC := fun u1 u2 u3 x1 x2 x3 W (h1 : RdSt W u1 u2 u3 F) (h2 : RdSt W x1 x2 x3 T) => changes_any F T u1 u2 u3 x1 x2 x3 W h1 h2 hUf.fit hUt.fit
  have cR := fun W (h : Below w2.heap.size w2 W) => changes15_any F T _ _ _ _ _ _ W (hf'.below h) (ht'.below h) hUf.fit hUt.fit hUf.sm hUt.sm
  have hcl := ch_len F T
  have hX : ∀ W, Below w2.heap.size w2 W → W.cell? ⟨w.heap.size, 0, none⟩ = some (.int .i64 F.nc) ∧ W.cell? ⟨w.heap.size, 1, none⟩ = some (.int .i64 F.nb) ∧ W.cell? ⟨w.heap.size, 2, none⟩ = some (.slice a1 F.cs.length c1) ∧ W.cell? ⟨w.heap.size, 3, none⟩ = some (.slice a2 F.bs.length c2) ∧ W.cell? ⟨w.heap.size, 4, none⟩ = some (.slice a3 F.us.length c3) := fun W h => cellsSB (k1.below h)
  have hY : ∀ W, Below w2.heap.size w2 W → W.cell? ⟨w.heap.size + 1, 0, none⟩ = some (.int .i64 T.nc) ∧ W.cell? ⟨w.heap.size + 1, 1, none⟩ = some (.int .i64 T.nb) ∧ W.cell? ⟨w.heap.size + 1, 2, none⟩ = some (.slice d1 T.cs.length g1) ∧ W.cell? ⟨w.heap.size + 1, 3, none⟩ = some (.slice d2 T.bs.length g2) ∧ W.cell? ⟨w.heap.size + 1, 4, none⟩ = some (.slice d3 T.us.length g3) := fun W h => cellsSB (k2.below h)
  obtain ⟨x0, x1, x2, x3, x4⟩ := hX w2.drew hDr
  obtain ⟨y0, y1, y2, y3, y4⟩ := hY w2.drew hDr
  clear b1 b2 hf ht hf' ht' k1 k2 hUf hUt
  simp only [StD.fs] at cA cB cC cR hw2 ⊢
  generalize chE F T = C at *
  go_enter Try.func5, Try.ntmps5
  go_upto_region 1 with fail
  clear hw2
  go_region_law (first
    | (go_simp; go_at_call 16; refine (cC _ _ _ _ _ _ w4 (hrF.below hb4) hrT).mono ?_; rintro e w5 ⟨pv, gv, rfl, hoP, hoG, hb5⟩; obtain ⟨a7, k7, rfl⟩ := own_form hoP; obtain ⟨a6, k6, rfl⟩ := own_form hoG; have hb25 := hb24.trans (hb5.mono hb24.size))
    | (have hh := hb23; go_simp; go_at_call 8; refine (cB w3 hb23).mono ?_; rintro e w4 ⟨v1, v2, v3, rfl, ⟨us4, ls4, ho4⟩, hb4⟩; have hrT := ho4.rd; have hb24 := hb23.trans (hb4.mono hb23.size))
    | (go_simp; go_at_call 8; refine cA.mono ?_; rintro e w3 ⟨u1, u2, u3, rfl, ⟨us3, ls3, ho3⟩, hb3⟩; have hrF := ho3.rd; have hb23 := hDr.trans (hb3.mono hDr.size); obtain ⟨z0, z1, z2, z3, z4⟩ := hY w3 hb23))
  all_goals
    have hP5 := rdpa_own hoP
    have hG5 := rdx_ownR hoG
    have cR5 := cR w5 hb25
    obtain ⟨r0, r1, r2, r3, r4⟩ := hX w5 hb25
    obtain ⟨s0, s1, s2, s3, s4⟩ := hY w5 hb25
    clear cA cB cC cR x0 x1 x2 x3 x4 y0 y1 y2 y3 y4 z0 z1 z2 z3 z4 hX hY ho3 ho4 hrF hrT hb3 hb4 hb23 hb24 hoP hoG
    go_wp2_with fail
    refine cR5.mono ?_
    rintro e w6 ⟨pv6, gv6, rfl, hoP6, hoG6, hb6⟩
    obtain ⟨a8, k8, rfl⟩ := own_form hoP6
    obtain ⟨a9, k9, rfl⟩ := own_form hoG6
    have hb26 := hb25.trans (hb6.mono hb25.size)
    have cQ := samePa_true _ _ C.1 w6 (hP5.below hb6) (rdpa_own hoP6) (by omega)
    have cX := fun W (h : Below w6.heap.size w6 W) => sameTx_true _ _ C.2.1 W ((hG5.belowR hb6).belowR h) ((rdx_ownR hoG6).belowR h) (by omega)
    clear r0 r1 r2 r3 r4 s0 s1 s2 s3 s4 cR5
    go_wp2_with fail
    refine cQ.mono ?_
    rintro e w7 ⟨rfl, hb7⟩
    have cX7 := cX w7 hb7
    have hb27 := hb26.trans (hb7.mono hb26.size)
    clear cQ cX
    go_wp2_with fail
    refine cX7.mono ?_
    rintro e w8 ⟨rfl, hb8⟩
    have hb28 := hb27.trans (hb8.mono hb27.size)
    have cl := live15_any w8
    clear cX7
    go_wp2_with fail
    refine cl.mono ?_
    rintro e w9 ⟨rfl, hb9⟩
    have hb29 := hb28.trans (hb9.mono hb28.size)
    go_wp2_with fail
    go_ret
    exact ⟨rfl, hB0.trans (hb29.mono hB0.size)⟩

theorem own : ownKnob Try.prog.godebug = none := by kernel_rfl
theorem laidOut : laidOutB Try.prog = true := by kernel_rfl

set_option maxRecDepth 20000 in
theorem contract (H : Type) (enc : TypeId × Value → H) (W : World) (base : Nat) (args : Array Value) (ds gs : List (DataW H)) (before : List MemPlace)
    (hval : ∀ (j : Nat) t v, Try.f5.params[j]? = some t → args[j]? = some v → Value.okWide Try.prog W .any base t v)
    (hW : DataW.Whole enc Try.prog Try.f5.params.toList Rows.recordChangesSpec.vars false W args.toList ds gs before) (hk : Rows.uptoSmall H (ds ++ gs) = true) :
    Calls Try.prog 5 args W fun e W' => ∃ v, e = .returned v ∧ Rows.recordChangesSpec.post enc Try.prog Try.f5 false true false false W args v W' := by
  have hW' := hW
  obtain ⟨p, q, hA0, hV, rfl, hfz, hnd⟩ := hW
  have hA : DataW.TrodAll enc Try.prog W 0 (fun _ => true) true Try.f5.params.toList args.toList ds p := hA0
  rw [Try.params5] at hA hval
  obtain ⟨v0, vs0, d0, ds0, p0, q0, hargs, rfl, rfl, h0, r0⟩ := trodAll_cons hA
  obtain ⟨v1, vs1, d1, ds1, p1, q1, rfl, rfl, rfl, h1, r1⟩ := trodAll_cons r0
  obtain ⟨rfl, rfl, rfl⟩ := trodAll_nil r1
  obtain rfl : args = #[v0, v1] := by cases args; simp_all
  obtain ⟨rfl, rfl⟩ := trodVars_none hV
  have k0 := h0
  have lt0 : ∀ x ∈ p0, x.block < W.heap.size := by obtain ⟨m, hm⟩ := k0; exact DataW.trod_lt m _ _ _ hm
  have k1 := h1
  have lt1 : ∀ x ∈ p1, x.block < W.heap.size := by obtain ⟨m, hm⟩ := k1; exact DataW.trod_lt m _ _ _ hm
  have b0 : Rows.uptoBulk d0 ≤ 1048576 := up_mem hk (by simp)
  have b1 : Rows.uptoBulk d1 ≤ 1048576 := up_mem hk (by simp)
  obtain ⟨fuel0, hf0⟩ := h0
  obtain ⟨S0, s0a, s0b, s0c, hc0, rd0, ok0⟩ := open_st od_true hf0 b0
  obtain rfl := st_val hc0
  obtain ⟨fuel1, hf1⟩ := h1
  obtain ⟨S1, s1a, s1b, s1c, hc1, rd1, ok1⟩ := open_st od_true hf1 b1
  obtain rfl := st_val hc1
  clear hA0
  simp only [List.append_nil] at hW' hk
  refine (walk S0 s0a s0b s0c S1 s1a s1b s1c W rd0 ok0 rd1 ok1).mono fun e W' ⟨he, bel⟩ => ?_
  subst he
  exact ⟨_, rfl, _, _, _, [], _, [], hW', trodAll_mk1 (shut_bool Try.underlying4 _), (trodAll_cons_mk (Below.trod laidOut (by kernel_rfl) (of_decide_eq_true (by kernel_rfl)) k0 bel lt0) (trodAll_cons_mk (Below.trod laidOut (by kernel_rfl) (of_decide_eq_true (by kernel_rfl)) k1 bel lt1) trodAll_mk0)), rfl, bel.frame _, fun h => by cases h⟩

set_option maxRecDepth 100000 in
theorem lifted (os : Os) (started : os.Started) (H : Type) (enc : TypeId × Value → H) (F : Stop.Interp) :
    ReturnsInHanded {} Try.checked os 5 .any ((Rows.OpenSpec.upto Rows.recordChangesSpec).pre6 enc Try.prog Try.f5 Rows.recordChangesUptoRow.domain false) (((Rows.OpenSpec.upto Rows.recordChangesSpec).at F).post enc Try.prog Try.f5 false true false false) := by
  refine returnsInHanded_of_cond (C := Try.checked) (s := Rows.OpenSpec.upto Rows.recordChangesSpec) (k := Rows.uptoSmall) rfl own started (by kernel_rfl) Try.func5
    (OpenSpec.witness (enc := enc) (C := Try.checked) (s := Rows.OpenSpec.upto Rows.recordChangesSpec) (k := Rows.uptoSmall) rfl false ⟨#[], #[.agg #[.int .i64 0, .int .i64 0, .slice none 0 0, .slice none 0 0, .slice none 0 0], .agg #[.int .i64 0, .int .i64 0, .slice none 0 0, .slice none 0 0, .slice none 0 0]], []⟩ 8 (by kernel_rfl) (by kernel_rfl) (by kernel_rfl)
      (x := ([.agg [.lit (.int .i64 0), .lit (.int .i64 0), .nil, .nil, .nil], .agg [.lit (.int .i64 0), .lit (.int .i64 0), .nil, .nil, .nil]], [], [])) (by kernel_rfl) rfl (by kernel_rfl)) ?_
  intro W base args ds gs before hval hW _ hk _
  exact contract H enc W base args ds gs before hval hW hk

theorem holds : Rows.RecordChangesUptoSaid :=
  OpenClaim.holds_of_cond 5 Try.f5 rfl rfl rfl rfl rfl rfl rfl ⟨rfl, rfl, rfl, rfl, rfl⟩ rfl rfl rfl rfl rfl (by kernel_rfl) Try.func5 (by kernel_rfl)
    (of_decide_eq_true (by kernel_rfl)) (by unfold Func.isWrapper; first | (rw [if_pos (by decide +kernel)]; kernel_rfl) | (rw [if_neg (by decide +kernel)]; exact ⟨rfl, rfl⟩))
    (fun os started H enc _ F => lifted os started H enc F)
end Go.Proofs.Ytdheddgdlindmaa.recordChanges
namespace Go.Proofs.Ytdheddgdlindmaa
theorem recordChanges_holds : Rows.RecordChangesUptoSaid := recordChanges.holds
#print axioms recordChanges_holds
end Go.Proofs.Ytdheddgdlindmaa
