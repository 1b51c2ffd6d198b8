/-
  Proved: a document, cut anywhere in two and joined again, is itself (the law DocBack), for every input.
-/
import Derived.Test.YtcmdnoohafhecaaDoorDpI
import Derived.ChangeOld
namespace Go.Proofs.YtcmdnoohafhecaaDoor.docBack
open Go.RowKit Go.ChangeShapes Go.WideShapes Go.ChangeAt Go.PlainAid

set_option maxRecDepth 20000 in
set_option maxHeartbeats 1000000 in
theorem walk (v : Value) (l : List RunD) (at0 : Int) (w : World) (hV : VS w) (hr : RdN w v l) (hm : l.length ≤ 4398046511104) (hi : ∀ r ∈ l, r.Bd ∧ r.In) (b0 : -9223372036854775808 ≤ at0) (b1 : at0 ≤ 9223372036854775807) :
    Calls Tryd.prog 6 #[v, .int .i64 at0] w fun e w' => e = .returned (.bool true) ∧ Below w.heap.size w w' := by
  have hi' : ∀ r ∈ l, r.In := fun r h => (hi r h).2
  have c1 := check_any v l w hV hr (by omega) hi'
  have cL := fun W h => live12_any W (hV.below h)
  obtain ⟨ao, cp, hv, -⟩ := id hr
  subst hv
  by_cases hG : Good l
  · rw [ckR_zero.2 hG] at c1
    have hbd := hG.bound
    have hnum : num l ≤ 1000 := hG.len
    have c2 : ∀ w1, Below w.heap.size w w1 → Calls Tryd.prog 12 #[.slice ao l.length cp] w1 fun e w' => e = .returned (.int .i64 (num l : Int)) ∧ Below w1.heap.size w1 w' := fun w1 hb => by
      have := docLen_any (.slice ao l.length cp) l w1 (hV.below hb) (hr.below hb) (by omega) (by omega)
      rw [txt_cpl l (fun r hr => (hG.fit r hr).ok)] at this
      exact this
    have c3 : ∀ k : Nat, k ≤ num l → ∀ w1, Below w.heap.size w w1 → _ := fun k hk w1 hb => slice_any (.slice ao l.length cp) l 0 (k : Int) w1 (hV.below hb) (hr.below hb) (by omega) hi'
    have c4 : ∀ k : Nat, k ≤ num l → ∀ w1, Below w.heap.size w w1 → _ := fun k hk w1 hb => slice_any (.slice ao l.length cp) l (k : Int) (num l : Int) w1 (hV.below hb) (hr.below hb) (by omega) hi'
    have c5 : ∀ k : Nat, k ≤ num l → ∀ (va vb : Value) (w1 : World), Below w.heap.size w w1 → RdN w1 va (slL l 0 (k : Int)) → RdN w1 vb (slL l (k : Int) (num l : Int)) →
        Calls Tryd.prog 26 #[va, vb] w1 fun e w' => ∃ u, e = .returned (.tuple #[u, .int .i64 0]) ∧ w'.ownsRow w1.heap.size 41 4 u l.length (rcs l) ∧ Below w1.heap.size w1 w' := fun k hk va vb w1 hb ra rb => by
      have g1 := sl_good hG (f := 0) (t := k) (by omega) hk
      have g2 := sl_good hG (f := k) (t := num l) hk (Nat.le_refl _)
      rw [show ((0 : Nat) : Int) = 0 from rfl] at g1
      have i1 := fun r hr => show RunD.In r from by have := (g1.fit r hr).sz; exact this
      have i2 := fun r hr => show RunD.In r from by have := (g2.fit r hr).sz; exact this
      have := join_any va vb _ _ w1 (hV.below hb) ra rb (by have := g1.bound; omega) (by have := g2.bound; omega) i1 i2
      rw [(back_eq hG hk).1, (back_eq hG hk).2] at this
      exact this
    have c6 : ∀ (u : Value) (w1 : World), Below w.heap.size w w1 → RdN w1 u l → _ := fun u w1 hb hu => docSame_true u (.slice ao l.length cp) l w1 (by omega) hu (hr.below hb)
    have e3 : ∀ k : Nat, k ≤ num l → slE l 0 (k : Int) = 0 ∧ slE l (k : Int) (num l : Int) = 0 := fun k hk => ⟨(sl_is hG (f := 0) (t := k) (by omega) hk).1, (sl_is hG (f := k) (t := num l) hk (Nat.le_refl _)).1⟩
    obtain ⟨p, hp⟩ : ∃ p : Nat, (if at0 < 0 then -(at0 + 1) else at0) = (p : Int) := ⟨(if at0 < 0 then -(at0 + 1) else at0).toNat, by split <;> omega⟩
    obtain ⟨k, hk⟩ : ∃ k, k = p % (num l + 1) := ⟨_, rfl⟩
    have hkn : k ≤ num l := by rw [hk]; have := Nat.mod_lt p (show 0 < num l + 1 by omega); omega
    have hm1 : (p : Int).tmod ((num l : Int) + 1) = (k : Int) := by rw [hk]; rfl
    have hm2 : (p : Int) % ((num l : Int) + 1) = (k : Int) := by rw [hk]; rfl
    replace c3 := c3 k hkn
    replace c4 := c4 k hkn
    replace c5 := c5 k hkn
    rw [(e3 k hkn).1] at c3
    rw [(e3 k hkn).2] at c4
    clear e3 hk hG hr hbd hi hi'
    generalize num l = n at *
    have hn0 : ¬ (n : Int) < 0 := by omega
    go_enter Tryd.func6, Tryd.ntmps6
    go_wp2_with fail
    refine c1.mono ?_
    rintro e w1 ⟨rfl, hb⟩
    clear c1
    go_wp2_with fail
    refine (c2 _ hb).mono ?_
    rintro e w2 ⟨rfl, q2⟩
    have hb := chain hb q2
    clear c2 q2
    by_cases hneg : at0 < 0
    · rw [if_pos hneg] at hp
      go_wp2_with fail
      refine (c3 _ hb).mono ?_
      rintro e w3 ⟨u3, rfl, ho3, q3⟩
      have r3 := rdn_own ho3
      obtain ⟨a3, k3, rfl⟩ := own_form ho3
      have hb := chain hb q3
      clear c3 ho3 q3
      go_wp2_with fail
      refine (c4 _ hb).mono ?_
      rintro e w4 ⟨u4, rfl, ho4, q4⟩
      have r4 := rdn_own ho4
      obtain ⟨a4, k4, rfl⟩ := own_form ho4
      have r3 := r3.below q4
      have hb := chain hb q4
      clear c4 ho4 q4
      go_wp2_with fail
      refine (c5 _ _ _ hb r3 r4).mono ?_
      rintro e w5 ⟨u5, rfl, ho5, q5⟩
      have r5 := rdn_own ho5
      obtain ⟨a5, k5, rfl⟩ := own_form ho5
      have hb := chain hb q5
      clear c5 ho5 q5 r3 r4
      go_wp2_with fail
      refine (c6 _ _ hb r5).mono ?_
      rintro e w6 ⟨rfl, q6⟩
      have hb := chain hb q6
      clear c6 q6 r5
      go_wp2_with fail
      refine (cL _ hb).mono ?_
      rintro e w7 ⟨rfl, q7⟩
      go_wp2_with fail
      go_ret
      exact ⟨rfl, chain hb q7⟩
    · rw [if_neg hneg] at hp
      subst hp
      go_wp2_with fail
      refine (c3 _ hb).mono ?_
      rintro e w3 ⟨u3, rfl, ho3, q3⟩
      have r3 := rdn_own ho3
      obtain ⟨a3, k3, rfl⟩ := own_form ho3
      have hb := chain hb q3
      clear c3 ho3 q3
      go_wp2_with fail
      refine (c4 _ hb).mono ?_
      rintro e w4 ⟨u4, rfl, ho4, q4⟩
      have r4 := rdn_own ho4
      obtain ⟨a4, k4, rfl⟩ := own_form ho4
      have r3 := r3.below q4
      have hb := chain hb q4
      clear c4 ho4 q4
      go_wp2_with fail
      refine (c5 _ _ _ hb r3 r4).mono ?_
      rintro e w5 ⟨u5, rfl, ho5, q5⟩
      have r5 := rdn_own ho5
      obtain ⟨a5, k5, rfl⟩ := own_form ho5
      have hb := chain hb q5
      clear c5 ho5 q5 r3 r4
      go_wp2_with fail
      refine (c6 _ _ hb r5).mono ?_
      rintro e w6 ⟨rfl, q6⟩
      have hb := chain hb q6
      clear c6 q6 r5
      go_wp2_with fail
      refine (cL _ hb).mono ?_
      rintro e w7 ⟨rfl, q7⟩
      go_wp2_with fail
      go_ret
      exact ⟨rfl, chain hb q7⟩
  · have h1 : ckR l = 120 := by
      unfold ckR
      rw [if_neg (fun h => hG ((good_iff l).1 h))]
    rw [h1] at c1
    clear h1 hr hi hi' hG
    go_enter Tryd.func6, Tryd.ntmps6
    go_wp2_with fail
    refine c1.mono ?_
    rintro e w1 ⟨rfl, hb⟩
    go_wp2_with fail
    refine (cL _ hb).mono ?_
    rintro e w2 ⟨rfl, q2⟩
    go_wp2_with fail
    go_ret
    exact ⟨rfl, chain hb q2⟩

theorem own : ownKnob Tryd.prog.godebug = none := by kernel_rfl
theorem laidOut : laidOutB Tryd.prog = true := by kernel_rfl

set_option maxRecDepth 20000 in
theorem contract (H : Type) (enc : TypeId × Value → H) (W : World) (base : Nat) (args : Array Value) (ds gs : List (DataW H)) (before : List MemPlace)
    (hval : ∀ (j : Nat) t v, Tryd.f6.params[j]? = some t → args[j]? = some v → Value.okWide Tryd.prog W .any base t v)
    (hW : DataW.Whole enc Tryd.prog Tryd.f6.params.toList Rows.docBackSpec.vars false W args.toList ds gs before) (hsz0 : (DataW.weightsEach Tryd.prog (Tryd.f6.params.toList ++ Rows.docBackSpec.plain.varTypes Tryd.prog) (ds ++ gs)).all (· ≤ reachBytes) = true) (hL : laidMetH Tryd.prog Rows.docBackRow.laid W) :
    Calls Tryd.prog 6 args W fun e W' => ∃ v, e = .returned v ∧ Rows.docBackSpec.post enc Tryd.prog Tryd.f6 false true false false W args v W' := by
  have hW' := hW
  obtain ⟨p, q, hA0, hV, rfl, hfz, hnd⟩ := hW
  have hA : DataW.TrodAll enc Tryd.prog W 0 (fun _ => true) true Tryd.f6.params.toList args.toList ds p := hA0
  rw [Tryd.params6] at hA hval hsz0
  obtain ⟨v0, vs0, d0, ds0, p0, q0, hargs, rfl, rfl, h0, r0⟩ := trodAll_cons hA
  obtain ⟨v1, vs1, d1, ds1, p1, q1, rfl, rfl, rfl, h1, r1⟩ := trodAll_cons r0
  obtain ⟨rfl, rfl, rfl⟩ := trodAll_nil r1
  obtain rfl : args = #[v0, v1] := by cases args; simp_all
  obtain ⟨rfl, rfl⟩ := trodVars_none hV
  have k0 := h0
  have lt0 : ∀ x ∈ p0, x.block < W.heap.size := by obtain ⟨m, hm⟩ := k0; exact DataW.trod_lt m _ _ _ hm
  have k1 := h1
  have lt1 : ∀ x ∈ p1, x.block < W.heap.size := by obtain ⟨m, hm⟩ := k1; exact DataW.trod_lt m _ _ _ hm
  obtain ⟨a0, len0, cap0, rfl⟩ := okWide_slice Tryd.underlying22 (hval 0 22 v0 rfl rfl)
  obtain ⟨fuel0, hf0⟩ := h0
  have z0 : ∀ n ∈ d0.weights Tryd.prog 22, n ≤ reachBytes := fun n hn => by simpa using List.all_eq_true.1 hsz0 n (DataW.weights_mem_each (j := 0) (t := 22) (d := d0) rfl rfl n hn)
  obtain ⟨l0, rd0, ln0, ok0⟩ := open_rnz hf0 z0
  obtain ⟨a1, rfl, rfl, rfl, w1⟩ := open_int Tryd.underlying3 (hval 1 3 v1 rfl rfl) h1
  clear hA0
  simp only [List.append_nil] at hW'
  refine (walk (.slice a0 len0 cap0) l0 a1 W (vs_of (tabs_of hL)) rd0 ln0 ok0 (wf_bd w1).1 (wf_bd w1).2).mono fun e W' ⟨he, bel⟩ => ?_
  subst he
  exact ⟨_, rfl, _, _, _, [], _, [], hW', trodAll_mk1 (shut_bool Tryd.underlying4 _), (trodAll_cons_mk (Below.trod laidOut (by kernel_rfl) (of_decide_eq_true (by kernel_rfl)) k0 bel lt0) (trodAll_cons_mk (Below.trod laidOut (by kernel_rfl) (of_decide_eq_true (by kernel_rfl)) k1 bel lt1) trodAll_mk0)), rfl, bel.frame _, fun h => by cases h⟩

set_option maxRecDepth 100000 in
theorem laid_met (os : Os) : laidMet Tryd.prog Rows.docBackRow.laid ((laidWorld os).forCall (fun _ _ => 0) ⟨#[], #[.slice none 0 0, .int .i64 0], []⟩).memory :=
  (LaidIn.of_run (l := Rows.docBackRow.laid) [1, 0] 8 (by kernel_rfl) (by kernel_rfl) (by kernel_rfl) (by kernel_rfl)).met
theorem reads (os : Os) {H : Type} (enc : TypeId × Value → H) : ∃ places, DataW.whole enc Tryd.prog ((laidWorld os).forCall (fun _ _ => 0) ⟨#[], #[.slice none 0 0, .int .i64 0], []⟩).memory Tryd.f6.params.toList Rows.docBackSpec.vars false (#[.slice none 0 0, .int .i64 0] : Array Value).toList 8 = some ([.nil, .lit (.int .i64 0)], [], places) :=
  ⟨[], by kernel_rfl⟩
set_option maxRecDepth 100000 in
theorem lifted (os : Os) (started : os.Started) (H : Type) (enc : TypeId × Value → H) (F : Stop.Interp) :
    ReturnsInHanded {} Tryd.checked os 6 .any ((OpenSpec.ofChange Rows.docBackSpec).preRow enc Tryd.prog Tryd.f6 Rows.docBackRow.domain false Rows.docBackRow.laid) (((OpenSpec.ofChange Rows.docBackSpec).at F).post enc Tryd.prog Tryd.f6 false true false false) := by
  obtain ⟨places, hx⟩ := reads os enc
  refine returnsInHanded_of_row (C := Tryd.checked) (s := OpenSpec.ofChange Rows.docBackSpec) own started (by kernel_rfl) Tryd.func6
    (witness_row_atRef (enc := enc) (C := Tryd.checked) false (laidWorld os) #[.slice none 0 0, .int .i64 0] rfl (by kernel_rfl) (by kernel_rfl) (by kernel_rfl)
      (OpenSpec.preRow_of_cond 8 hx (by kernel_rfl) (fun k hk => by cases hk) (by kernel_rfl) (laid_met os))) ?_
  intro W base args ds gs before hval hW _ _ hsz hL _ _
  exact contract H enc W base args ds gs before hval hW hsz hL

theorem holds : Rows.DocBackSaid :=
  OpenClaim.holds_of_cond 6 Tryd.f6 rfl rfl rfl rfl rfl rfl rfl ⟨rfl, rfl, rfl, rfl, rfl⟩ rfl rfl rfl rfl rfl (by kernel_rfl) Tryd.func6 (by kernel_rfl)
    (of_decide_eq_true (by kernel_rfl)) (by unfold Func.isWrapper; first | (rw [if_pos (by decide +kernel)]; kernel_rfl) | (rw [if_neg (by decide +kernel)]; exact ⟨rfl, rfl⟩))
    (fun os started H enc _ F => by rw [OpenClaim.pre_eq_preRow]; exact lifted os started H enc F)
theorem plain (f : FuncId) (fn : Func) (hf : Tryd.pinned.checked.prog.funcNamed "oxbow/oxbowlaw12.DocBack" = some f) (hfn : Tryd.pinned.checked.prog.funcs[f]? = some fn) :
    true = Tryd.pinned.checked.prog.looks [] ∧ ∀ (j : Nat) t, fn.params[j]? = some t → Tryd.pinned.checked.prog.wantsStandIn t = false := by
  obtain rfl : f = 6 := Option.some.inj ((show Tryd.prog.funcNamed "oxbow/oxbowlaw12.DocBack" = some 6 by kernel_rfl).symm.trans hf) |>.symm
  obtain rfl : fn = Tryd.f6 := (Option.some.inj (Tryd.func6.symm.trans hfn)).symm
  refine ⟨by kernel_rfl, fun j t ht => ?_⟩
  rw [Tryd.params6] at ht
  have hm := Array.mem_of_getElem? ht
  have h2 : t = 22 ∨ t = 3 := by simpa using hm
  rcases h2 with rfl | rfl
  · exact (show Tryd.prog.wantsStandIn 22 = false by kernel_rfl)
  · exact (show Tryd.prog.wantsStandIn 3 = false by kernel_rfl)
theorem card : Rows.DocBackCardSaid :=
  Claim7.holds_tied_plain_at .later [] _ _ _ _ holds (fun _ h => by cases h) (by kernel_rfl) (fun _ h => by cases h) docBack_row_tie rfl ⟨rfl, rfl⟩ (by kernel_rfl) rfl plain (by kernel_rfl)
end Go.Proofs.YtcmdnoohafhecaaDoor.docBack
namespace Go.Proofs.YtcmdnoohafhecaaDoor
theorem docBack_holds : Rows.DocBackCardSaid := docBack.card
#print axioms docBack_holds
end Go.Proofs.YtcmdnoohafhecaaDoor
