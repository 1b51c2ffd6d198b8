/-
  Proved: what any pairs are loaded as is the document's answer; the pairs are as they were (the law RecordLoads), for inputs of bulk at most 1048576.
-/
import Derived.Test.YtdheddgdlindmaaRcX
import Derived.Test.YtdheddgdlindmaaRgK
import Derived.Test.YtdheddgdlindmaaRfE
import Derived.Test.YtdheddgdlindmaaRows
namespace Go.Proofs.Ytdheddgdlindmaa.recordLoads
open Go.ChangeShapes Go.WideShapes Go.ChangeAt Go.RowKit Go.PlainAid

set_option maxRecDepth 20000 in
set_option maxHeartbeats 3000000 in
theorem walk (v : Value) (l : List PaD) (w : World) (hr : RdPa w v l) (hU : PaU l) :
    Calls Try.prog 4 #[v] w fun e w' => e = .returned (.bool true) ∧ Below w.heap.size w w' := by
  obtain ⟨ao, cp, rfl, -⟩ := id hr
  obtain ⟨i0, jin, jz0, jz1, jz2⟩ := info_parts Try.infoPa
  obtain ⟨q1, q2⟩ := rdpa_src hr
  have hln := hU.ln
  have hsv : ∀ x ∈ l, x.v.size ≤ 1099511627776 := fun x hx => by have := (hU.el x hx).2; omega
  obtain ⟨hF, hls⟩ := ldE_fits l
  have cL := fun u W (h : RdPa W u l) => load_any u l W h hln hsv
  have cM := fun W (h : Below w.heap.size w W) => refLoad_any (.slice ao l.length cp) l W (hr.below h) hln hsv
  have cP := fun u W (h : Below w.heap.size w W) (h2 : RdPa W u l) => samePa_true u (.slice ao l.length cp) l W h2 (hr.below h) (by omega)
  clear hr hU
  generalize ldE l = X at *
  obtain ⟨S, er⟩ := X
  simp only at hF hls cL cM
  have cS := fun u1 u2 u3 t1 t2 t3 W (h1 : RdSt W u1 u2 u3 S) (h2 : RdSt W t1 t2 t3 S) => same15_true S u1 u2 u3 t1 t2 t3 W h1 h2 hF hls
  clear hF hls
  go_enter Try.func4, Try.ntmps4
  go_upto_region 2 with fail
  go_upto_region 3 with (at_builtin; refine wpList_plain rfl (fun K hK => ?_); refine wp_dupG (.tmp 8) (.tmp 9) (B := w.heap.size) Try.underlying28 jin jz0 jz1 jz2 rfl (by decide) rfl rfl rfl (pcs_len l) q1 q2 (pcs_ones l) (by unfold maxLen; omega) (by omega) (Nat.le_refl _) ?_; intro a2 k2 w2 ho2 hb2; refine hK _ _ ?_; have hr2 := rdpa_own ho2)
  have cL2 := cL _ w2 hr2
  clear cL
  go_wp2_with fail
  refine cL2.mono ?_
  rintro e w3 ⟨u1, u2, u3, rfl, ⟨us, ls, ho⟩, hb3⟩
  have hb03 := hb2.trans (hb3.mono hb2.size)
  have hr3 := hr2.below hb3
  have hs3 := ho.rd
  obtain ⟨a4, k4, rfl⟩ := own_form ho.c.row
  obtain ⟨a5, k5, rfl⟩ := own_form ho.b.row
  obtain ⟨a6, k6, rfl⟩ := own_form ho.u
  have b4 := alloc_bR w3 (.cells (S.fs (.slice a4 S.cs.length k4) (.slice a5 S.bs.length k5) (.slice a6 S.us.length k6)) 26)
  have h4 := sb_new w3 S (.slice a4 S.cs.length k4) (.slice a5 S.bs.length k5) (.slice a6 S.us.length k6)
  have hb04 := hb03.trans (b4.mono hb03.size)
  have hr4 := hr3.below b4
  have hs4 := hs3.below b4
  simp only [StD.fs] at b4 h4 hb04 hr4 hs4
  obtain ⟨w4, hw4⟩ : ∃ w4, w4 = w3.alloc (.cells #[.int .i64 S.nc, .int .i64 S.nb, .slice a4 S.cs.length k4, .slice a5 S.bs.length k5, .slice a6 S.us.length k6] 26) := ⟨_, rfl⟩
  rw [← hw4] at b4 h4 hb04 hr4 hs4
  have hY : ∀ W', Below w4.heap.size w4 W' → W'.cell? ⟨w3.heap.size, 0, none⟩ = some (.int .i64 S.nc) ∧ W'.cell? ⟨w3.heap.size, 1, none⟩ = some (.int .i64 S.nb) ∧ W'.cell? ⟨w3.heap.size, 2, none⟩ = some (.slice a4 S.cs.length k4) ∧ W'.cell? ⟨w3.heap.size, 3, none⟩ = some (.slice a5 S.bs.length k5) ∧ W'.cell? ⟨w3.heap.size, 4, none⟩ = some (.slice a6 S.us.length k6) := fun W' h => cellsSB (S := S) (SB.below h4 h)
  have cM4 := cM w4 hb04
  clear ho hs3 hr3 hr2 ho2 cM
  simp only [StD.fs] at cM4 ⊢
  go_upto_region 4 with fail
  rw [← hw4]
  clear hw4
  go_wp2_with fail
  refine cM4.mono ?_
  rintro e w5 ⟨v1, v2, v3, rfl, ⟨us', ls', ho⟩, hb5⟩
  have hb05 := hb04.trans (hb5.mono hb04.size)
  have hr5 := hr4.below hb5
  have hs5 := hs4.below hb5
  have ht5 := ho.rd
  obtain ⟨a7, k7, rfl⟩ := own_form ho.c.row
  obtain ⟨a8, k8, rfl⟩ := own_form ho.b.row
  obtain ⟨a9, k9, rfl⟩ := own_form ho.u
  have b6 := alloc_bR w5 (.cells (S.fs (.slice a7 S.cs.length k7) (.slice a8 S.bs.length k8) (.slice a9 S.us.length k9)) 26)
  have h6 := sb_new w5 S (.slice a7 S.cs.length k7) (.slice a8 S.bs.length k8) (.slice a9 S.us.length k9)
  have hb06 := hb05.trans (b6.mono hb05.size)
  have hb46 := hb5.trans (b6.mono hb5.size)
  have hr6 := hr5.below b6
  have hs6 := hs5.below b6
  have ht6 := ht5.below b6
  simp only [StD.fs] at b6 h6 hb06 hb46 hr6 hs6 ht6
  obtain ⟨w6, hw6⟩ : ∃ w6, w6 = w5.alloc (.cells #[.int .i64 S.nc, .int .i64 S.nb, .slice a7 S.cs.length k7, .slice a8 S.bs.length k8, .slice a9 S.us.length k9] 26) := ⟨_, rfl⟩
  rw [← hw6] at b6 h6 hb06 hb46 hr6 hs6 ht6
  have cS6 := cS _ _ _ _ _ _ w6 hs6 ht6
  have cP6 := fun W (h : Below w6.heap.size w6 W) => cP _ W (hb06.trans (h.mono hb06.size)) (hr6.below h)
  obtain ⟨y0, y1, y2, y3, y4⟩ := hY w6 hb46
  obtain ⟨x0, x1, x2, x3, x4⟩ := cellsSB (S := S) h6
  clear ho ht5 hs5 hr5 cS cP cM4 hY hs4 hr4
  simp only [StD.fs] at cS6
  go_upto_region 5 with fail
  rw [← hw6]
  clear hw6
  go_wp2_with fail
  refine cS6.mono ?_
  rintro e w7 ⟨rfl, hb7⟩
  have hb07 := hb06.trans (hb7.mono hb06.size)
  have cP7 := cP6 w7 hb7
  clear x0 x1 x2 x3 x4 y0 y1 y2 y3 y4 cS6 cP6
  go_wp2_with fail
  refine cP7.mono ?_
  rintro e w8 ⟨rfl, hb8⟩
  have hb08 := hb07.trans (hb8.mono hb07.size)
  have cl := live15_any w8
  clear cP7
  go_wp2_with fail
  refine cl.mono ?_
  rintro e w9 ⟨rfl, hb9⟩
  have hb09 := hb08.trans (hb9.mono hb08.size)
  go_wp2_with fail
  go_ret
  exact ⟨rfl, hb09⟩

theorem own : ownKnob Try.prog.godebug = none := by kernel_rfl
theorem laidOut : laidOutB Try.prog = true := by kernel_rfl

set_option maxRecDepth 20000 in
theorem contract (H : Type) (enc : TypeId × Value → H) (W : World) (base : Nat) (args : Array Value) (ds gs : List (DataW H)) (before : List MemPlace)
    (hval : ∀ (j : Nat) t v, Try.f4.params[j]? = some t → args[j]? = some v → Value.okWide Try.prog W .any base t v)
    (hW : DataW.Whole enc Try.prog Try.f4.params.toList Rows.recordLoadsSpec.vars false W args.toList ds gs before) (hk : Rows.uptoSmall H (ds ++ gs) = true) :
    Calls Try.prog 4 args W fun e W' => ∃ v, e = .returned v ∧ Rows.recordLoadsSpec.post enc Try.prog Try.f4 false true false false W args v W' := by
  have hW' := hW
  obtain ⟨p, q, hA0, hV, rfl, hfz, hnd⟩ := hW
  have hA : DataW.TrodAll enc Try.prog W 0 (fun _ => true) true Try.f4.params.toList args.toList ds p := hA0
  rw [Try.params4] at hA hval
  obtain ⟨v0, vs0, d0, ds0, p0, q0, hargs, rfl, rfl, h0, r0⟩ := trodAll_cons hA
  obtain ⟨rfl, rfl, rfl⟩ := trodAll_nil r0
  obtain rfl : args = #[v0] := by cases args; simp_all
  obtain ⟨rfl, rfl⟩ := trodVars_none hV
  have k0 := h0
  have lt0 : ∀ x ∈ p0, x.block < W.heap.size := by obtain ⟨m, hm⟩ := k0; exact DataW.trod_lt m _ _ _ hm
  have b0 : Rows.uptoBulk d0 ≤ 1048576 := up_mem hk (by simp)
  obtain ⟨a0, len0, cap0, rfl⟩ := okWide_slice Try.underlying28 (hval 0 28 v0 rfl rfl)
  obtain ⟨fuel0, hf0⟩ := h0
  obtain ⟨l0, rd0, ok0⟩ := open_pa hf0 b0
  clear hA0
  simp only [List.append_nil] at hW' hk
  refine (walk (.slice a0 len0 cap0) l0 W rd0 ok0).mono fun e W' ⟨he, bel⟩ => ?_
  subst he
  exact ⟨_, rfl, _, _, _, [], _, [], hW', trodAll_mk1 (shut_bool Try.underlying4 _), (trodAll_cons_mk (Below.trod laidOut (by kernel_rfl) (of_decide_eq_true (by kernel_rfl)) k0 bel lt0) trodAll_mk0), rfl, bel.frame _, fun h => by cases h⟩

set_option maxRecDepth 100000 in
theorem lifted (os : Os) (started : os.Started) (H : Type) (enc : TypeId × Value → H) (F : Stop.Interp) :
    ReturnsInHanded {} Try.checked os 4 .any ((Rows.OpenSpec.upto Rows.recordLoadsSpec).pre6 enc Try.prog Try.f4 Rows.recordLoadsUptoRow.domain false) (((Rows.OpenSpec.upto Rows.recordLoadsSpec).at F).post enc Try.prog Try.f4 false true false false) := by
  refine returnsInHanded_of_cond (C := Try.checked) (s := Rows.OpenSpec.upto Rows.recordLoadsSpec) (k := Rows.uptoSmall) rfl own started (by kernel_rfl) Try.func4
    (OpenSpec.witness (enc := enc) (C := Try.checked) (s := Rows.OpenSpec.upto Rows.recordLoadsSpec) (k := Rows.uptoSmall) rfl false ⟨#[], #[.slice none 0 0], []⟩ 8 (by kernel_rfl) (by kernel_rfl) (by kernel_rfl)
      (x := ([.nil], [], [])) (by kernel_rfl) rfl (by kernel_rfl)) ?_
  intro W base args ds gs before hval hW _ hk _
  exact contract H enc W base args ds gs before hval hW hk

theorem holds : Rows.RecordLoadsUptoSaid :=
  OpenClaim.holds_of_cond 4 Try.f4 rfl rfl rfl rfl rfl rfl rfl ⟨rfl, rfl, rfl, rfl, rfl⟩ rfl rfl rfl rfl rfl (by kernel_rfl) Try.func4 (by kernel_rfl)
    (of_decide_eq_true (by kernel_rfl)) (by unfold Func.isWrapper; first | (rw [if_pos (by decide +kernel)]; kernel_rfl) | (rw [if_neg (by decide +kernel)]; exact ⟨rfl, rfl⟩))
    (fun os started H enc _ F => lifted os started H enc F)
end Go.Proofs.Ytdheddgdlindmaa.recordLoads
namespace Go.Proofs.Ytdheddgdlindmaa
theorem recordLoads_holds : Rows.RecordLoadsUptoSaid := recordLoads.holds
#print axioms recordLoads_holds
end Go.Proofs.Ytdheddgdlindmaa
