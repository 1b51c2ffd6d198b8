/-
  Proved: what any delta makes of any document is the reference's, atom by atom; what is handed in is as it was, what came out is the caller's (the law DocApplies), where what comes in is of bulk at most 1048576.
-/
import Derived.Test.YtnfnacjadmhclaaDoorDpHDpI
import Derived.Test.YtnfnacjadmhclaaDoorDqH
import Derived.Test.YtnfnacjadmhclaaDoorDqMDArU
import Derived.ChangeOld
namespace Go.Proofs.YtnfnacjadmhclaaDoor.docApplies
open Go.RowKit Go.ChangeShapes Go.WideShapes Go.ChangeAt Go.PlainAid

theorem dc_len {l : List RunD} {ds : List OpD} {c q : Int} (hi : ∀ o ∈ ds, o.In) : (dcL l ds c q).length ≤ 1000 := by
  by_cases h : dcE l ds c q = 0
  · exact (dc_facts hi h).2.1.bound.2
  · rw [dc_no h]
    simp
theorem own_any {W : World} {B n g cap : Nat} {L : List Value} (h : W.ownsRow B 41 4 (.slice (some ⟨g, 0, none⟩) n cap) n L) {j : Nat} (hj : j < n * 4) : ∃ v, W.cell? ⟨g, j, none⟩ = some v := by
  have hl : L.length = n * 4 := h.1
  have := h.cells (g := g) rfl j (L[j]'(by omega)) (by simp [show j < L.length by omega])
  rw [addr4, Nat.zero_add] at this
  exact ⟨_, this⟩

set_option maxRecDepth 20000 in
set_option maxHeartbeats 1600000 in
theorem walk (v : Value) (l : List RunD) (vd : Value) (ds : List OpD) (c q : Int) (w : World) (hV : VS w) (hr : RdN w v l) (hm : l.length ≤ 1048576 ∧ (txB l).length ≤ 1048576) (hi : ∀ r ∈ l, r.Bd) (hd : RdD w vd ds) (hm2 : ds.length ≤ 1048576) (hi2 : ∀ o ∈ ds, o.Sm) (_ : -9223372036854775808 ≤ c ∧ c ≤ 9223372036854775807) (_ : -9223372036854775808 ≤ q ∧ q ≤ 9223372036854775807) :
    Calls Tryd.prog 4 #[v, vd, .agg #[.int .i64 c, .int .i64 q]] w fun e w' => e = .returned (.bool true) ∧ Below w.heap.size w w' := by
  have hsz : ∀ r ∈ l, r.t.size ≤ 1048576 := fun r h => Nat.le_trans (txB_mem h) hm.2
  have hin : ∀ r ∈ l, r.In := fun r h => by have := hsz r h; show _ ≤ _; omega
  have hin2 : ∀ o ∈ ds, o.In := fun o ho => sm_in (hi2 o ho)
  have hml : ds.length ≤ maxLen := by unfold maxLen; omega
  have hdl := dc_len (l := l) (c := c) (q := q) hin2
  have hA0 : Below w.heap.size w (w.alloc (.cells #[.int .i64 c, .int .i64 q] 29)) := (Below.refl _ w).alloc (Nat.le_refl _) _
  have hO0 : OB (w.alloc (.cells #[.int .i64 c, .int .i64 q] 29)) w.heap.size c q := heap_alloc_new w _
  have cC := copied12_any v l _ (hr.below hA0) (by omega)
  have cD := fun W (hb : Below w.heap.size w W) => copied_any vd ds W (hd.below hb) (by omega)
  have c1 := fun u u2 W (hb : Below w.heap.size w W) (hu : RdN W u l) (hu2 : RdD W u2 ds) => docApply_any u u2 l ds c q W (hV.below hb) hu (by omega) hin hu2 hml hin2
  have c2 := fun W (hb : Below w.heap.size w W) => rapply_any v vd l ds c q W (hr.below hb) (by omega) hi hsz (hd.below hb) hml hi2
  have c3 := fun u u' W (hu : RdN W u (dcL l ds c q)) (hu' : RdN W u' (dcL l ds c q)) => docSame_true u u' (dcL l ds c q) W (by omega) hu hu'
  have c4 := fun u W (hb : Below w.heap.size w W) (hu : RdN W u l) => docSame_true u v l W (by omega) hu (hr.below hb)
  have c5 := fun u W (hb : Below w.heap.size w W) (hu : RdD W u ds) => same_true u vd ds W hml hu (hd.below hb)
  have cL := fun W h => live12_any W (hV.below h)
  obtain ⟨ao, cp, hv, -⟩ := id hr
  subst hv
  obtain ⟨aod, cpd, hvd, -⟩ := id hd
  subst hvd
  clear hr hi hsz hin hV hin2 hi2 hd hml
  generalize dcL l ds c q = R at *
  generalize dcE l ds c q = E at *
  go_enter Tryd.func4, Tryd.ntmps4
  go_wp2_with fail
  refine cC.mono ?_
  rintro e w1 ⟨u1, rfl, ho1, q1⟩
  have r1 := rdn_own ho1
  obtain ⟨a1, k1, rfl⟩ := own_form ho1
  have hO := hO0.below q1
  have hb := chain hA0 q1
  clear cC ho1 hO0 hA0 q1
  go_wp2_with fail
  refine (cD _ hb).mono ?_
  rintro e w2 ⟨u2, rfl, ho2, q2⟩
  have r2 := rdd_own ho2
  obtain ⟨a2, k2, rfl⟩ := own_form ho2
  replace hO := hO.below q2
  replace r1 := r1.below q2
  replace hb := chain hb q2
  obtain ⟨d0, d1, -, -⟩ := hO.facts
  clear cD q2 ho2
  go_wp2_with fail
  have r1b := r1
  refine (c1 _ _ _ hb r1 r2).mono ?_
  rintro e w3 ⟨u3, rfl, ho3, q3⟩
  have r3 := rdn_own ho3
  obtain ⟨a3, k3, rfl⟩ := own_form ho3
  replace hO := hO.below q3
  replace r1 := r1.below q3
  replace r2 := r2.below q3
  have hb2 := hb
  have hz := q3
  replace hb := chain hb q3
  clear d0 d1
  obtain ⟨d0, d1, -, -⟩ := hO.facts
  clear c1
  go_wp2_with fail
  refine (c2 _ hb).mono ?_
  rintro e w4 ⟨u4, rfl, ho4, q4⟩
  have r4 := rdn_own ho4
  obtain ⟨a4, k4, rfl⟩ := own_form ho4
  replace r1 := r1.below q4
  replace r2 := r2.below q4
  replace r3 := r3.below q4
  replace ho3 := own_belowG ho3 q4
  replace hb := chain hb q4
  replace hz := chain hz q4
  clear c2 q4 ho4 d0 d1 hO
  go_wp2_with fail
  refine (c3 _ _ _ r3 r4).mono ?_
  rintro e w5 ⟨rfl, q5⟩
  replace r1 := r1.below q5
  replace r2 := r2.below q5
  replace ho3 := own_belowG ho3 q5
  replace hb := chain hb q5
  replace hz := chain hz q5
  clear c3 q5 r3 r4
  go_wp2_with fail
  refine (c4 _ _ hb r1).mono ?_
  rintro e w6 ⟨rfl, q6⟩
  replace r1 := r1.below q6
  replace r2 := r2.below q6
  replace ho3 := own_belowG ho3 q6
  replace hb := chain hb q6
  replace hz := chain hz q6
  clear q6
  go_wp2_with fail
  refine (c5 _ _ hb r2).mono ?_
  rintro e w7 ⟨rfl, q7⟩
  replace r1 := r1.below q7
  replace ho3 := own_belowG ho3 q7
  replace hb := chain hb q7
  replace hz := chain hz q7
  clear c5 q7 r2
  go_wp2_with fail
  clear r1 hb q3
  obtain ⟨w8, rfl⟩ : ∃ y, y = w7 := ⟨_, rfl⟩
  go_loopw [13] (fun i wr => ∃ (k : Nat) (L : List Value), k ≤ R.length ∧ i = .int .i64 (k : Int) ∧ wr.ownsRow w2.heap.size 41 4 (.slice a3 R.length k3) R.length L ∧ Below w2.heap.size w2 wr) (fun i _ => R.length - (Go.RowKit.intOf i).toNat)
  case atStart => exact ⟨0, _, Nat.zero_le _, rfl, ho3, hz⟩
  case round =>
    obtain ⟨k, L, hk, rfl, ho, hbk⟩ := hrel
    clear ho3 hz
    by_cases hlt : k < R.length
    · have hlt' : (k : Int) < (R.length : Int) := by omega
      obtain ⟨g, cc, e5, -, -⟩ := ho.form (by omega)
      injection e5 with e51 _ e53
      subst e51
      subst e53
      have hgB := (ho.lt g rfl).1
      obtain ⟨old, hold⟩ := own_any ho (j := k * 4 + 2) (by omega)
      obtain ⟨-, cur, hcur⟩ := own_zero ho
      have f2 := frz hcur (k * 4 + 2)
      have HO : Hid ((wr.setCell ⟨g, k * 4 + 2, none⟩ (.int .i64 (-9))).ownsRow w2.heap.size 41 4 (.slice (some ⟨g, 0, none⟩) R.length k3) R.length (L.set (k * 4 + 2) (.int .i64 (-9)))) := own_cell ho _
      have HB : Hid (Below w2.heap.size w2 (wr.setCell ⟨g, k * 4 + 2, none⟩ (.int .i64 (-9)))) := hbk.setCell (p := ⟨g, k * 4 + 2, none⟩) hgB _
      clear hcur ho hbk
      go_wp2_with fail
      exact ⟨⟨k + 1, _, by omega, by go_num, HO.out, HB.out⟩, by simp [Go.RowKit.intOf]; omega⟩
    · obtain rfl : k = R.length := by omega
      clear ho
      have hB := chain hb2 hbk
      go_wp2_with fail
      refine (c4 _ _ hB (r1b.below hbk)).mono ?_
      rintro e w9 ⟨rfl, q9⟩
      replace hB := chain hB q9
      go_wp2_with fail
      refine (cL _ hB).mono ?_
      rintro e w10 ⟨rfl, q10⟩
      go_wp2_with fail
      go_ret
      exact ⟨rfl, chain hB q10⟩

theorem own : ownKnob Tryd.prog.godebug = none := by kernel_rfl
theorem laidOut : laidOutB Tryd.prog = true := by kernel_rfl

set_option maxRecDepth 20000 in
theorem contract (H : Type) (enc : TypeId × Value → H) (W : World) (base : Nat) (args : Array Value) (ds gs : List (DataW H)) (before : List MemPlace)
    (hval : ∀ (j : Nat) t v, Tryd.f4.params[j]? = some t → args[j]? = some v → Value.okWide Tryd.prog W .any base t v)
    (hW : DataW.Whole enc Tryd.prog Tryd.f4.params.toList Rows.docAppliesSpec.vars false W args.toList ds gs before) (hk : Rows.uptoSmall H (ds ++ gs) = true) (hL : laidMetH Tryd.prog Rows.docAppliesUptoRow.laid W) :
    Calls Tryd.prog 4 args W fun e W' => ∃ v, e = .returned v ∧ Rows.docAppliesSpec.post enc Tryd.prog Tryd.f4 false true false false W args v W' := by
  have hW' := hW
  obtain ⟨p, q, hA0, hV, rfl, hfz, hnd⟩ := hW
  have hA : DataW.TrodAll enc Tryd.prog W 0 (fun _ => true) true Tryd.f4.params.toList args.toList ds p := hA0
  rw [Tryd.params4] at hA hval
  obtain ⟨v0, vs0, d0, ds0, p0, q0, hargs, rfl, rfl, h0, r0⟩ := trodAll_cons hA
  obtain ⟨v1, vs1, d1, ds1, p1, q1, rfl, rfl, rfl, h1, r1⟩ := trodAll_cons r0
  obtain ⟨v2, vs2, d2, ds2, p2, q2, rfl, rfl, rfl, h2, r2⟩ := trodAll_cons r1
  obtain ⟨rfl, rfl, rfl⟩ := trodAll_nil r2
  obtain rfl : args = #[v0, v1, v2] := by cases args; simp_all
  obtain ⟨rfl, rfl⟩ := trodVars_none hV
  have k0 := h0
  have lt0 : ∀ x ∈ p0, x.block < W.heap.size := by obtain ⟨m, hm⟩ := k0; exact DataW.trod_lt m _ _ _ hm
  have k1 := h1
  have lt1 : ∀ x ∈ p1, x.block < W.heap.size := by obtain ⟨m, hm⟩ := k1; exact DataW.trod_lt m _ _ _ hm
  have k2 := h2
  have lt2 : ∀ x ∈ p2, x.block < W.heap.size := by obtain ⟨m, hm⟩ := k2; exact DataW.trod_lt m _ _ _ hm
  have b0 : Rows.uptoBulk d0 ≤ 1048576 := up_mem hk (by simp)
  have b1 : Rows.uptoBulk d1 ≤ 1048576 := up_mem hk (by simp)
  obtain ⟨a0, len0, cap0, rfl⟩ := okWide_slice Tryd.underlying22 (hval 0 22 v0 rfl rfl)
  obtain ⟨fuel0, hf0⟩ := h0
  obtain ⟨l0, rd0, ln0, ok0⟩ := open_rnu hf0 b0
  obtain ⟨a1, len1, cap1, rfl⟩ := okWide_slice Tryd.underlying35 (hval 1 35 v1 rfl rfl)
  obtain ⟨fuel1, hf1⟩ := h1
  obtain ⟨l1, rd1, ln1, ok1⟩ := open_dlu hf1 b1
  obtain ⟨fuel2, hf2⟩ := h2
  obtain ⟨c2, s2, hc2, bc2, bs2⟩ := open_or hf2
  obtain rfl := or_val hc2
  clear hA0
  simp only [List.append_nil] at hW'
  refine (walk (.slice a0 len0 cap0) l0 (.slice a1 len1 cap1) l1 c2 s2 W (vs_of (tabs_of hL)) rd0 ln0 ok0 rd1 ln1 ok1 bc2 bs2).mono fun e W' ⟨he, bel⟩ => ?_
  subst he
  exact ⟨_, rfl, _, _, _, [], _, [], hW', trodAll_mk1 (shut_bool Tryd.underlying4 _), (trodAll_cons_mk (Below.trod laidOut (by kernel_rfl) (of_decide_eq_true (by kernel_rfl)) k0 bel lt0) (trodAll_cons_mk (Below.trod laidOut (by kernel_rfl) (of_decide_eq_true (by kernel_rfl)) k1 bel lt1) (trodAll_cons_mk (Below.trod laidOut (by kernel_rfl) (of_decide_eq_true (by kernel_rfl)) k2 bel lt2) trodAll_mk0))), rfl, bel.frame _, fun h => by cases h⟩

set_option maxRecDepth 100000 in
theorem laid_met (os : Os) : laidMet Tryd.prog Rows.docAppliesUptoRow.laid ((laidWorld os).forCall (fun _ _ => 0) ⟨#[], #[.slice none 0 0, .slice none 0 0, .agg #[.int .i64 0, .int .i64 0]], []⟩).memory :=
  (LaidIn.of_run (l := Rows.docAppliesUptoRow.laid) [1, 0] 8 (by kernel_rfl) (by kernel_rfl) (by kernel_rfl) (by kernel_rfl)).met
theorem reads (os : Os) {H : Type} (enc : TypeId × Value → H) : ∃ places, DataW.whole enc Tryd.prog ((laidWorld os).forCall (fun _ _ => 0) ⟨#[], #[.slice none 0 0, .slice none 0 0, .agg #[.int .i64 0, .int .i64 0]], []⟩).memory Tryd.f4.params.toList Rows.docAppliesSpec.vars false (#[.slice none 0 0, .slice none 0 0, .agg #[.int .i64 0, .int .i64 0]] : Array Value).toList 8 = some ([.nil, .nil, .agg [.lit (.int .i64 0), .lit (.int .i64 0)]], [], places) :=
  ⟨[], by kernel_rfl⟩
set_option maxRecDepth 100000 in
theorem lifted (os : Os) (started : os.Started) (H : Type) (enc : TypeId × Value → H) (F : Stop.Interp) :
    ReturnsInHanded {} Tryd.checked os 4 .any ((Rows.OpenSpec.upto Rows.docAppliesSpec).preRow enc Tryd.prog Tryd.f4 Rows.docAppliesUptoRow.domain false Rows.docAppliesUptoRow.laid) (((Rows.OpenSpec.upto Rows.docAppliesSpec).at F).post enc Tryd.prog Tryd.f4 false true false false) := by
  obtain ⟨places, hx⟩ := reads os enc
  refine returnsInHanded_of_row (C := Tryd.checked) (s := Rows.OpenSpec.upto Rows.docAppliesSpec) own started (by kernel_rfl) Tryd.func4
    (witness_row_atRef (enc := enc) (C := Tryd.checked) false (laidWorld os) #[.slice none 0 0, .slice none 0 0, .agg #[.int .i64 0, .int .i64 0]] rfl (by kernel_rfl) (by kernel_rfl) (by kernel_rfl)
      (OpenSpec.preRow_of_cond 8 hx (by kernel_rfl) (fun k hk => by cases hk; kernel_rfl) (by kernel_rfl) (laid_met os))) ?_
  intro W base args ds gs before hval hW _ hcond _ hL _ _
  exact contract H enc W base args ds gs before hval hW (hcond _ rfl) hL

theorem holds : Rows.DocAppliesUptoSaid :=
  OpenClaim.holds_of_cond 4 Tryd.f4 rfl rfl rfl rfl rfl rfl rfl ⟨rfl, rfl, rfl, rfl, rfl⟩ rfl rfl rfl rfl rfl (by kernel_rfl) Tryd.func4 (by kernel_rfl)
    (of_decide_eq_true (by kernel_rfl)) (by unfold Func.isWrapper; first | (rw [if_pos (by decide +kernel)]; kernel_rfl) | (rw [if_neg (by decide +kernel)]; exact ⟨rfl, rfl⟩))
    (fun os started H enc _ F => by rw [OpenClaim.pre_eq_preRow]; exact lifted os started H enc F)
theorem plain (f : FuncId) (fn : Func) (hf : Tryd.pinned.checked.prog.funcNamed "oxbow/oxbowlaw12.DocApplies" = some f) (hfn : Tryd.pinned.checked.prog.funcs[f]? = some fn) :
    true = Tryd.pinned.checked.prog.looks [] ∧ ∀ (j : Nat) t, fn.params[j]? = some t → Tryd.pinned.checked.prog.wantsStandIn t = false := by
  obtain rfl : f = 4 := Option.some.inj ((show Tryd.prog.funcNamed "oxbow/oxbowlaw12.DocApplies" = some 4 by kernel_rfl).symm.trans hf) |>.symm
  obtain rfl : fn = Tryd.f4 := (Option.some.inj (Tryd.func4.symm.trans hfn)).symm
  refine ⟨by kernel_rfl, fun j t ht => ?_⟩
  rw [Tryd.params4] at ht
  have hm := Array.mem_of_getElem? ht
  have h2 : t = 22 ∨ t = 35 ∨ t = 29 := by simpa using hm
  rcases h2 with rfl | rfl | rfl
  · exact (show Tryd.prog.wantsStandIn 22 = false by kernel_rfl)
  · exact (show Tryd.prog.wantsStandIn 35 = false by kernel_rfl)
  · exact (show Tryd.prog.wantsStandIn 29 = false by kernel_rfl)
theorem card : Rows.DocAppliesUptoCardSaid :=
  Claim7.holds_tied_plain_at .later [] _ _ _ _ holds (fun _ h => by cases h) (by kernel_rfl) (fun _ h => by cases h) docAppliesUpto_row_tie rfl ⟨rfl, rfl⟩ (by kernel_rfl) rfl plain (by kernel_rfl)
end Go.Proofs.YtnfnacjadmhclaaDoor.docApplies
namespace Go.Proofs.YtnfnacjadmhclaaDoor
theorem docApplies_holds : Rows.DocAppliesUptoCardSaid := docApplies.card
#print axioms docApplies_holds
end Go.Proofs.YtnfnacjadmhclaaDoor
