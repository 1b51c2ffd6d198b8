/-
  Proved: any part of any document, and any two joined, are the reference's (the law DocParts), where what comes in is of bulk at most 1048576.
-/
import Derived.Test.YtnfnacjadmhclaaDoorDpI
import Derived.Test.YtnfnacjadmhclaaDoorDqH
import Derived.Test.YtnfnacjadmhclaaDoorDqJ
import Derived.ChangeOld
namespace Go.Proofs.YtnfnacjadmhclaaDoor.docParts
open Go.RowKit Go.ChangeShapes Go.WideShapes Go.ChangeAt Go.PlainAid

theorem sl_small (l : List RunD) (f t : Int) : (∀ r ∈ slL l f t, r.Bd ∧ r.t.size ≤ 4000) ∧ (slL l f t).length ≤ 1000 := by
  by_cases hg : ckG [] none l = true
  · have hG := (good_iff l).1 hg
    by_cases hc : 0 ≤ f ∧ f ≤ t ∧ t ≤ num l
    · obtain ⟨f, rfl⟩ : ∃ k : Nat, f = (k : Int) := ⟨f.toNat, by omega⟩
      obtain ⟨t, rfl⟩ : ∃ k : Nat, t = (k : Int) := ⟨t.toNat, by omega⟩
      have hS := sl_good hG (f := f) (t := t) (by omega) (by omega)
      have hb := hS.bound
      have hga := good_ats.1 hS
      exact ⟨fun r hr => ⟨bd_of hga.1 hga.2.1 r hr, Nat.le_trans (txB_mem hr) hb.1⟩, hb.2⟩
    · have : slL l f t = [] := by unfold slL; rw [if_pos hg, if_neg hc]
      rw [this]
      simp
  · have : slL l f t = [] := by unfold slL; rw [if_neg hg]
    rw [this]
    simp

set_option maxRecDepth 20000 in
set_option maxHeartbeats 1600000 in
theorem walk (v : Value) (l : List RunD) (f t : Int) (w : World) (hV : VS w) (hr : RdN w v l) (hm : l.length ≤ 1048576 ∧ (txB l).length ≤ 1048576) (hi : ∀ r ∈ l, r.Bd) (_ : -9223372036854775808 ≤ f) (_ : f ≤ 9223372036854775807) (_ : -9223372036854775808 ≤ t) (_ : t ≤ 9223372036854775807) :
    Calls Tryd.prog 5 #[v, .int .i64 f, .int .i64 t] w fun e w' => e = .returned (.bool true) ∧ Below w.heap.size w w' := by
  have hsz : ∀ r ∈ l, r.t.size ≤ 1048576 := fun r h => Nat.le_trans (txB_mem h) hm.2
  have hin : ∀ r ∈ l, r.In := fun r h => by have := hsz r h; show _ ≤ _; omega
  obtain ⟨hs1, hs2⟩ := sl_small l f t
  have hsi : ∀ r ∈ slL l f t, r.In := fun r h => by have := (hs1 r h).2; show _ ≤ _; omega
  have hjl : (jnL (slL l f t) l).length ≤ 1125899906842624 := jn_len _ _
  have cC := copied12_any v l w hr (by omega)
  have c1 := fun u W (hb : Below w.heap.size w W) (hu : RdN W u l) => slice_any u l f t W (hV.below hb) hu (by omega) hin
  have c2 := fun W (hb : Below w.heap.size w W) => rslice_any v l f t W (hr.below hb) (by omega) hi hsz
  have c3 := fun u W (hb : Below w.heap.size w W) (hu : RdN W u (slL l f t)) => join_any u v (slL l f t) l W (hV.below hb) hu (hr.below hb) (by omega) (by omega) hsi hin
  have c4 := fun u W (hb : Below w.heap.size w W) (hu : RdN W u (slL l f t)) => rjoin_any u v (slL l f t) l W hu (hr.below hb) (by omega) (by omega) (fun r h => (hs1 r h).1) hi (fun r h => Nat.le_trans (hs1 r h).2 (by decide)) hsz
  have c5 := fun u u' W (hu : RdN W u (slL l f t)) (hu' : RdN W u' (slL l f t)) => docSame_true u u' (slL l f t) W (by omega) hu hu'
  have c6 := fun u u' W (hu : RdN W u (jnL (slL l f t) l)) (hu' : RdN W u' (jnL (slL l f t) l)) => docSame_true u u' _ W hjl hu hu'
  have cL := fun W h => live12_any W (hV.below h)
  obtain ⟨ao, cp, hv, -⟩ := id hr
  subst hv
  clear hr hi hsz hin hV hs1 hs2 hsi hjl
  generalize jnL (slL l f t) l = J at *
  generalize jnE (slL l f t) l = E2 at *
  generalize slL l f t = S at *
  generalize slE l f t = E1 at *
  go_enter Tryd.func5, Tryd.ntmps5
  go_wp2_with fail
  refine cC.mono ?_
  rintro e w1 ⟨u1, rfl, ho1, hb⟩
  have r1 := rdn_own ho1
  obtain ⟨a1, k1, rfl⟩ := own_form ho1
  clear cC ho1
  go_wp2_with fail
  refine (c1 _ _ hb r1).mono ?_
  rintro e w2 ⟨u2, rfl, ho2, q2⟩
  have r2 := rdn_own ho2
  obtain ⟨a2, k2, rfl⟩ := own_form ho2
  replace hb := chain hb q2
  clear c1 q2 r1 ho2
  go_wp2_with fail
  refine (c2 _ hb).mono ?_
  rintro e w3 ⟨u3, rfl, ho3, q3⟩
  have r3 := rdn_own ho3
  obtain ⟨a3, k3, rfl⟩ := own_form ho3
  replace r2 := r2.below q3
  replace hb := chain hb q3
  clear c2 q3 ho3
  go_wp2_with fail
  refine (c3 _ _ hb r2).mono ?_
  rintro e w4 ⟨u4, rfl, ho4, q4⟩
  have r4 := rdn_own ho4
  obtain ⟨a4, k4, rfl⟩ := own_form ho4
  replace r2 := r2.below q4
  replace r3 := r3.below q4
  replace hb := chain hb q4
  clear c3 q4 ho4
  go_wp2_with fail
  refine (c4 _ _ hb r3).mono ?_
  rintro e w5 ⟨u5, rfl, ho5, q5⟩
  have r5 := rdn_own ho5
  obtain ⟨a5, k5, rfl⟩ := own_form ho5
  replace r2 := r2.below q5
  replace r3 := r3.below q5
  replace r4 := r4.below q5
  replace hb := chain hb q5
  clear c4 q5 ho5
  go_wp2_with fail
  refine (c5 _ _ _ r2 r3).mono ?_
  rintro e w6 ⟨rfl, q6⟩
  replace r4 := r4.below q6
  replace r5 := r5.below q6
  replace hb := chain hb q6
  clear c5 q6 r2 r3
  go_wp2_with fail
  refine (c6 _ _ _ r4 r5).mono ?_
  rintro e w7 ⟨rfl, q7⟩
  replace hb := chain hb q7
  clear c6 q7 r4 r5
  go_wp2_with fail
  refine (cL _ hb).mono ?_
  rintro e w8 ⟨rfl, q8⟩
  go_wp2_with fail
  go_ret
  exact ⟨rfl, chain hb q8⟩

theorem own : ownKnob Tryd.prog.godebug = none := by kernel_rfl
theorem laidOut : laidOutB Tryd.prog = true := by kernel_rfl

set_option maxRecDepth 20000 in
theorem contract (H : Type) (enc : TypeId × Value → H) (W : World) (base : Nat) (args : Array Value) (ds gs : List (DataW H)) (before : List MemPlace)
    (hval : ∀ (j : Nat) t v, Tryd.f5.params[j]? = some t → args[j]? = some v → Value.okWide Tryd.prog W .any base t v)
    (hW : DataW.Whole enc Tryd.prog Tryd.f5.params.toList Rows.docPartsSpec.vars false W args.toList ds gs before) (hk : Rows.uptoSmall H (ds ++ gs) = true) (hL : laidMetH Tryd.prog Rows.docPartsUptoRow.laid W) :
    Calls Tryd.prog 5 args W fun e W' => ∃ v, e = .returned v ∧ Rows.docPartsSpec.post enc Tryd.prog Tryd.f5 false true false false W args v W' := by
  have hW' := hW
  obtain ⟨p, q, hA0, hV, rfl, hfz, hnd⟩ := hW
  have hA : DataW.TrodAll enc Tryd.prog W 0 (fun _ => true) true Tryd.f5.params.toList args.toList ds p := hA0
  rw [Tryd.params5] at hA hval
  obtain ⟨v0, vs0, d0, ds0, p0, q0, hargs, rfl, rfl, h0, r0⟩ := trodAll_cons hA
  obtain ⟨v1, vs1, d1, ds1, p1, q1, rfl, rfl, rfl, h1, r1⟩ := trodAll_cons r0
  obtain ⟨v2, vs2, d2, ds2, p2, q2, rfl, rfl, rfl, h2, r2⟩ := trodAll_cons r1
  obtain ⟨rfl, rfl, rfl⟩ := trodAll_nil r2
  obtain rfl : args = #[v0, v1, v2] := by cases args; simp_all
  obtain ⟨rfl, rfl⟩ := trodVars_none hV
  have k0 := h0
  have lt0 : ∀ x ∈ p0, x.block < W.heap.size := by obtain ⟨m, hm⟩ := k0; exact DataW.trod_lt m _ _ _ hm
  have k1 := h1
  have lt1 : ∀ x ∈ p1, x.block < W.heap.size := by obtain ⟨m, hm⟩ := k1; exact DataW.trod_lt m _ _ _ hm
  have k2 := h2
  have lt2 : ∀ x ∈ p2, x.block < W.heap.size := by obtain ⟨m, hm⟩ := k2; exact DataW.trod_lt m _ _ _ hm
  have b0 : Rows.uptoBulk d0 ≤ 1048576 := up_mem hk (by simp)
  obtain ⟨a0, len0, cap0, rfl⟩ := okWide_slice Tryd.underlying22 (hval 0 22 v0 rfl rfl)
  obtain ⟨fuel0, hf0⟩ := h0
  obtain ⟨l0, rd0, ln0, ok0⟩ := open_rnu hf0 b0
  obtain ⟨a1, rfl, rfl, rfl, w1⟩ := open_int Tryd.underlying3 (hval 1 3 v1 rfl rfl) h1
  obtain ⟨a2, rfl, rfl, rfl, w2⟩ := open_int Tryd.underlying3 (hval 2 3 v2 rfl rfl) h2
  clear hA0
  simp only [List.append_nil] at hW'
  refine (walk (.slice a0 len0 cap0) l0 a1 a2 W (vs_of (tabs_of hL)) rd0 ln0 ok0 (wf_bd w1).1 (wf_bd w1).2 (wf_bd w2).1 (wf_bd w2).2).mono fun e W' ⟨he, bel⟩ => ?_
  subst he
  exact ⟨_, rfl, _, _, _, [], _, [], hW', trodAll_mk1 (shut_bool Tryd.underlying4 _), (trodAll_cons_mk (Below.trod laidOut (by kernel_rfl) (of_decide_eq_true (by kernel_rfl)) k0 bel lt0) (trodAll_cons_mk (Below.trod laidOut (by kernel_rfl) (of_decide_eq_true (by kernel_rfl)) k1 bel lt1) (trodAll_cons_mk (Below.trod laidOut (by kernel_rfl) (of_decide_eq_true (by kernel_rfl)) k2 bel lt2) trodAll_mk0))), rfl, bel.frame _, fun h => by cases h⟩

set_option maxRecDepth 100000 in
theorem laid_met (os : Os) : laidMet Tryd.prog Rows.docPartsUptoRow.laid ((laidWorld os).forCall (fun _ _ => 0) ⟨#[], #[.slice none 0 0, .int .i64 0, .int .i64 0], []⟩).memory :=
  (LaidIn.of_run (l := Rows.docPartsUptoRow.laid) [1, 0] 8 (by kernel_rfl) (by kernel_rfl) (by kernel_rfl) (by kernel_rfl)).met
theorem reads (os : Os) {H : Type} (enc : TypeId × Value → H) : ∃ places, DataW.whole enc Tryd.prog ((laidWorld os).forCall (fun _ _ => 0) ⟨#[], #[.slice none 0 0, .int .i64 0, .int .i64 0], []⟩).memory Tryd.f5.params.toList Rows.docPartsSpec.vars false (#[.slice none 0 0, .int .i64 0, .int .i64 0] : Array Value).toList 8 = some ([.nil, .lit (.int .i64 0), .lit (.int .i64 0)], [], places) :=
  ⟨[], by kernel_rfl⟩
set_option maxRecDepth 100000 in
theorem lifted (os : Os) (started : os.Started) (H : Type) (enc : TypeId × Value → H) (F : Stop.Interp) :
    ReturnsInHanded {} Tryd.checked os 5 .any ((Rows.OpenSpec.upto Rows.docPartsSpec).preRow enc Tryd.prog Tryd.f5 Rows.docPartsUptoRow.domain false Rows.docPartsUptoRow.laid) (((Rows.OpenSpec.upto Rows.docPartsSpec).at F).post enc Tryd.prog Tryd.f5 false true false false) := by
  obtain ⟨places, hx⟩ := reads os enc
  refine returnsInHanded_of_row (C := Tryd.checked) (s := Rows.OpenSpec.upto Rows.docPartsSpec) own started (by kernel_rfl) Tryd.func5
    (witness_row_atRef (enc := enc) (C := Tryd.checked) false (laidWorld os) #[.slice none 0 0, .int .i64 0, .int .i64 0] rfl (by kernel_rfl) (by kernel_rfl) (by kernel_rfl)
      (OpenSpec.preRow_of_cond 8 hx (by kernel_rfl) (fun k hk => by cases hk; kernel_rfl) (by kernel_rfl) (laid_met os))) ?_
  intro W base args ds gs before hval hW _ hcond _ hL _ _
  exact contract H enc W base args ds gs before hval hW (hcond _ rfl) hL

theorem holds : Rows.DocPartsUptoSaid :=
  OpenClaim.holds_of_cond 5 Tryd.f5 rfl rfl rfl rfl rfl rfl rfl ⟨rfl, rfl, rfl, rfl, rfl⟩ rfl rfl rfl rfl rfl (by kernel_rfl) Tryd.func5 (by kernel_rfl)
    (of_decide_eq_true (by kernel_rfl)) (by unfold Func.isWrapper; first | (rw [if_pos (by decide +kernel)]; kernel_rfl) | (rw [if_neg (by decide +kernel)]; exact ⟨rfl, rfl⟩))
    (fun os started H enc _ F => by rw [OpenClaim.pre_eq_preRow]; exact lifted os started H enc F)
theorem plain (f : FuncId) (fn : Func) (hf : Tryd.pinned.checked.prog.funcNamed "oxbow/oxbowlaw12.DocParts" = some f) (hfn : Tryd.pinned.checked.prog.funcs[f]? = some fn) :
    true = Tryd.pinned.checked.prog.looks [] ∧ ∀ (j : Nat) t, fn.params[j]? = some t → Tryd.pinned.checked.prog.wantsStandIn t = false := by
  obtain rfl : f = 5 := Option.some.inj ((show Tryd.prog.funcNamed "oxbow/oxbowlaw12.DocParts" = some 5 by kernel_rfl).symm.trans hf) |>.symm
  obtain rfl : fn = Tryd.f5 := (Option.some.inj (Tryd.func5.symm.trans hfn)).symm
  refine ⟨by kernel_rfl, fun j t ht => ?_⟩
  rw [Tryd.params5] at ht
  have hm := Array.mem_of_getElem? ht
  have h2 : t = 22 ∨ t = 3 := by simpa using hm
  rcases h2 with rfl | rfl
  · exact (show Tryd.prog.wantsStandIn 22 = false by kernel_rfl)
  · exact (show Tryd.prog.wantsStandIn 3 = false by kernel_rfl)
theorem card : Rows.DocPartsUptoCardSaid :=
  Claim7.holds_tied_plain_at .later [] _ _ _ _ holds (fun _ h => by cases h) (by kernel_rfl) (fun _ h => by cases h) docPartsUpto_row_tie rfl ⟨rfl, rfl⟩ (by kernel_rfl) rfl plain (by kernel_rfl)
end Go.Proofs.YtnfnacjadmhclaaDoor.docParts
namespace Go.Proofs.YtnfnacjadmhclaaDoor
theorem docParts_holds : Rows.DocPartsUptoCardSaid := docParts.card
#print axioms docParts_holds
end Go.Proofs.YtnfnacjadmhclaaDoor
