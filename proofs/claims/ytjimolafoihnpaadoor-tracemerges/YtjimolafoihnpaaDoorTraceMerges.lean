/-
  Proved: what is merged of documents that agree, agrees with each of them (the law TraceMerges), where what comes in is of bulk at most 1048576.
-/
import Derived.Test.YtjimolafoihnpaaDoorTsK
import Derived.Test.YtjimolafoihnpaaDoorTsC
import Derived.Test.YtjimolafoihnpaaDoorTrK
import Derived.Test.YtjimolafoihnpaaDoorMgJ
import Derived.Test.YtjimolafoihnpaaDoorMgR
import Derived.Test.YtjimolafoihnpaaDoorDpH
import Derived.Test.YtjimolafoihnpaaDoorRows
import Derived.ChangeOld
namespace Go.Proofs.YtjimolafoihnpaaDoor.traceMerges
open Go.ChangeShapes Go.WideShapes Go.ChangeAt Go.RowKit Go.PlainAid Go.Proofs.YtjimolafoihnpaaDoor.tc

theorem fine_merged {b x y z : List RunD} (hb : Good b) (hx : Good x) (hy : Good y) (hz : Good z) (hm : Mgd (ats b) (ats x) (ats y) (ats z)) (hF : FineL [b, x, y]) : FineL [b, x, y, z] := by
  obtain ⟨hn, ha⟩ := hF
  have nz : (keys z).Nodup := by rw [keys, aT_good hz]; exact hm.one
  have sx : ((ats z).filter (hasK (ats x))).Sublist (ats x) := by rw [hm.fx]; exact List.filter_sublist
  have sy : ((ats z).filter (hasK (ats y))).Sublist (ats y) := by rw [hm.fy]; exact List.filter_sublist
  have gx : AgL (aT z) (aT x) := by
    rw [aT_good hz, aT_good hx]
    refine ag_third sx (fun _ _ h => h) (ag_self ?_)
    rw [← aT_good hx]
    exact hn x (by simp)
  have gy : AgL (aT z) (aT y) := by
    rw [aT_good hz, aT_good hy]
    refine ag_third sy (fun _ _ h => h) (ag_self ?_)
    rw [← aT_good hy]
    exact hn y (by simp)
  have gb : AgL (aT z) (aT b) := by
    have := ha x (by simp) b (by simp)
    rw [aT_good hb, aT_good hx] at this
    rw [aT_good hz, aT_good hb]
    refine ag_third sx (fun u hu h => ?_) this
    rcases hm.all u hu with ⟨-, h2, -⟩ | ⟨h1, -, -⟩ | ⟨h1, -, -⟩
    · exact h2
    · rw [h] at h1; cases h1
    · rw [h] at h1; cases h1
  have gz : ∀ l ∈ [b, x, y], AgL (aT z) (aT l) := fun l hl => by
    simp only [List.mem_cons, List.not_mem_nil, or_false] at hl
    rcases hl with rfl | rfl | rfl
    · exact gb
    · exact gx
    · exact gy
  have hin : ∀ l ∈ [b, x, y, z], l ∈ [b, x, y] ∨ l = z := fun l hl => by
    simp only [List.mem_cons, List.not_mem_nil, or_false] at hl ⊢
    rcases hl with rfl | rfl | rfl | rfl
    · exact .inl (.inl rfl)
    · exact .inl (.inr (.inl rfl))
    · exact .inl (.inr (.inr rfl))
    · exact .inr rfl
  refine ⟨fun l hl => ?_, fun l hl l' hl' => ?_⟩
  · rcases hin l hl with h | rfl
    · exact hn l h
    · exact nz
  · rcases hin l hl with h | rfl
    · rcases hin l' hl' with h' | rfl
      · exact ha l h l' h'
      · exact ag_swap (gz l h)
    · rcases hin l' hl' with h' | rfl
      · exact gz l' h'
      · exact ag_self nz
set_option maxRecDepth 20000 in
set_option maxHeartbeats 1600000 in
theorem walk (vb vx vy : Value) (b x y : List RunD) (nx ny : Int) (w : World) (hV : VS w) (rb : RdN w vb b) (rx : RdN w vx x) (ry : RdN w vy y) (hU : Up [b, x, y]) :
    Calls Tryd.prog 4 #[vb, vx, vy, .int .i64 nx, .int .i64 ny] w fun e w' => e = .returned (.bool true) ∧ Below w.heap.size w w' := by
  have q0 := alloc_b w (.cells #[vb, vx, vy] 22)
  have hl0 : tc.RdL (w.alloc (.cells #[vb, vx, vy] 22)) (.slice (some ⟨w.heap.size, 0, none⟩) 3 3) [b, x, y] := by
    refine rdl_lit (L := [b, x, y]) (heap_alloc_new w _) (fun i l hl => ?_)
    have hi : i < 3 := (List.getElem?_eq_some_iff.1 hl).1
    match i, hl with
    | 0, hl => injection hl with hl; subst hl; exact ⟨_, rfl, rb.below q0⟩
    | 1, hl => injection hl with hl; subst hl; exact ⟨_, rfl, rx.below q0⟩
    | 2, hl => injection hl with hl; subst hl; exact ⟨_, rfl, ry.below q0⟩
  have cC := tc.check_any _ _ _ hl0 hU.len hU.row hU.atoms
  have h1 : ∀ l ∈ [b, x, y], l.length ≤ 1125899906842624 ∧ ∀ r ∈ l, r.In := fun l hl => by
    obtain ⟨g1, g2⟩ := hU.row l hl
    exact ⟨by omega, fun r hr => by have := (g2 r hr).1; show _ ≤ _; omega⟩
  have cD := fun W (hW : Below w.heap.size w W) => docs_any vb vx vy b x y nx ny W (hV.below hW) (rb.below hW) (rx.below hW) (ry.below hW) h1
  have cB := fun W (hW : Below w.heap.size w W) => Go.Proofs.YtjimolafoihnpaaDoor.check_any vb b W (hV.below hW) (rb.below hW) (h1 b (by simp)).1 (h1 b (by simp)).2
  obtain ⟨a1, k1, e1, -⟩ := id rb
  subst e1
  obtain ⟨a2, k2, e2, -⟩ := id rx
  subst e2
  obtain ⟨a3, k3, e3, -⟩ := id ry
  subst e3
  have hmd := md_facts (b := b) (x := x) (y := y) (nx := nx) (ny := ny)
  clear h1 hU hl0
  generalize mdE b x y nx ny = E at *
  generalize mdL b x y nx ny = M at *
  go_enter Tryd.func4, Tryd.ntmps4
  go_wp2_with fail
  refine cC.mono ?_
  rintro e w1 ⟨i, j, fine, rfl, hc, q1⟩
  have HF : Hid (fine = true → FineL [b, x, y]) := (chk_fine hc).1
  have hB := chain q0 q1
  clear cC hc q0 q1
  go_wp2_with fail
  refine (cD _ hB).mono ?_
  rintro e w2 ⟨u2, rfl, o2, q2⟩
  have r2 := rdn_own o2
  obtain ⟨p2, s2, rfl⟩ := own_form o2
  replace hB := chain hB q2
  clear cD o2 q2
  cases fine with
  | false =>
    go_wp2_with fail
    refine (live24_any _).mono ?_
    rintro e w3 ⟨rfl, q3⟩
    go_wp2_with fail
    go_ret
    exact ⟨rfl, chain hB q3⟩
  | true =>
    by_cases h0 : E = 0
    · subst h0
      obtain ⟨gb, gx, gy, gz, hm⟩ := hmd rfl
      have HFz := fine_merged gb gx gy gz hm (HF.out rfl)
      have hck : ckR b = 0 := ckR_zero.2 gb
      rw [hck] at cB
      clear hmd HF hm hck
      go_wp2_with fail
      refine (cB _ hB).mono ?_
      rintro e w3 ⟨rfl, q3⟩
      replace r2 := r2.below q3
      replace hB := chain hB q3
      clear cB q3
      have q4 := alloc_b w3 (.cells #[.slice a1 b.length k1, .slice a2 x.length k2, .slice a3 y.length k3, .slice p2 M.length s2] 22)
      have hB4 := chain hB q4
      have hl4 : tc.RdL (w3.alloc (.cells #[.slice a1 b.length k1, .slice a2 x.length k2, .slice a3 y.length k3, .slice p2 M.length s2] 22)) (.slice (some ⟨w3.heap.size, 0, none⟩) 4 4) [b, x, y, M] := by
        refine rdl_lit (L := [b, x, y, M]) (heap_alloc_new w3 _) (fun i l hl => ?_)
        have hi : i < 4 := (List.getElem?_eq_some_iff.1 hl).1
        match i, hl with
        | 0, hl => injection hl with hl; subst hl; exact ⟨_, rfl, rb.below hB4⟩
        | 1, hl => injection hl with hl; subst hl; exact ⟨_, rfl, rx.below hB4⟩
        | 2, hl => injection hl with hl; subst hl; exact ⟨_, rfl, ry.below hB4⟩
        | 3, hl => injection hl with hl; subst hl; exact ⟨_, rfl, r2.below q4⟩
      have hg : ∀ l ∈ [b, x, y, M], Good l := fun l hl => by
        simp only [List.mem_cons, List.not_mem_nil, or_false] at hl
        rcases hl with rfl | rfl | rfl | rfl
        · exact gb
        · exact gx
        · exact gy
        · exact gz
      have cC := tc.check_any _ _ _ hl4 (by simp) (fun l hl => tc.good_row (hg l hl)) (Nat.le_trans (good_sum hg) (by simp))
      clear hl4 hg gb gx gy gz
      go_wp2_with fail
      refine cC.mono ?_
      rintro e w5 ⟨i5, j5, fine, rfl, hc, q5⟩
      obtain rfl : fine = true := (chk_fine hc).2 HFz
      have hB5 := chain hB4 q5
      clear cC hc q5
      go_wp2_with fail
      refine (live24_any _).mono ?_
      rintro e w6 ⟨rfl, q6⟩
      go_wp2_with fail
      go_ret
      exact ⟨rfl, chain hB5 q6⟩
    · have h' : (E != 0) = true := by simpa using h0
      clear hmd HF h0
      go_wp2_with fail
      refine (live24_any _).mono ?_
      rintro e w3 ⟨rfl, q3⟩
      go_wp2_with fail
      go_ret
      exact ⟨rfl, chain hB q3⟩

theorem own : ownKnob Tryd.prog.godebug = none := by kernel_rfl
theorem laidOut : laidOutB Tryd.prog = true := by kernel_rfl

set_option maxRecDepth 20000 in
theorem contract (H : Type) (enc : TypeId × Value → H) (W : World) (base : Nat) (args : Array Value) (ds gs : List (DataW H)) (before : List MemPlace)
    (hval : ∀ (j : Nat) t v, Tryd.f4.params[j]? = some t → args[j]? = some v → Value.okWide Tryd.prog W .any base t v)
    (hW : DataW.Whole enc Tryd.prog Tryd.f4.params.toList Rows.traceMergesSpec.vars false W args.toList ds gs before) (hk : Rows.uptoSmall H (ds ++ gs) = true) (hL : laidMetH Tryd.prog Rows.traceMergesUptoRow.laid W) :
    Calls Tryd.prog 4 args W fun e W' => ∃ v, e = .returned v ∧ Rows.traceMergesSpec.post enc Tryd.prog Tryd.f4 false true false false W args v W' := by
  have hW' := hW
  obtain ⟨p, q, hA0, hV, rfl, hfz, hnd⟩ := hW
  have hA : DataW.TrodAll enc Tryd.prog W 0 (fun _ => true) true Tryd.f4.params.toList args.toList ds p := hA0
  rw [Tryd.params4] at hA hval
  obtain ⟨v0, vs0, d0, ds0, p0, q0, hargs, rfl, rfl, h0, r0⟩ := trodAll_cons hA
  obtain ⟨v1, vs1, d1, ds1, p1, q1, rfl, rfl, rfl, h1, r1⟩ := trodAll_cons r0
  obtain ⟨v2, vs2, d2, ds2, p2, q2, rfl, rfl, rfl, h2, r2⟩ := trodAll_cons r1
  obtain ⟨v3, vs3, d3, ds3, p3, q3, rfl, rfl, rfl, h3, r3⟩ := trodAll_cons r2
  obtain ⟨v4, vs4, d4, ds4, p4, q4, rfl, rfl, rfl, h4, r4⟩ := trodAll_cons r3
  obtain ⟨rfl, rfl, rfl⟩ := trodAll_nil r4
  obtain rfl : args = #[v0, v1, v2, v3, v4] := by cases args; simp_all
  obtain ⟨rfl, rfl⟩ := trodVars_none hV
  have k0 := h0
  have lt0 : ∀ x ∈ p0, x.block < W.heap.size := by obtain ⟨m, hm⟩ := k0; exact DataW.trod_lt m _ _ _ hm
  have k1 := h1
  have lt1 : ∀ x ∈ p1, x.block < W.heap.size := by obtain ⟨m, hm⟩ := k1; exact DataW.trod_lt m _ _ _ hm
  have k2 := h2
  have lt2 : ∀ x ∈ p2, x.block < W.heap.size := by obtain ⟨m, hm⟩ := k2; exact DataW.trod_lt m _ _ _ hm
  have k3 := h3
  have lt3 : ∀ x ∈ p3, x.block < W.heap.size := by obtain ⟨m, hm⟩ := k3; exact DataW.trod_lt m _ _ _ hm
  have k4 := h4
  have lt4 : ∀ x ∈ p4, x.block < W.heap.size := by obtain ⟨m, hm⟩ := k4; exact DataW.trod_lt m _ _ _ hm
  have hsum : Rows.uptoBulk d0 + Rows.uptoBulk d1 + Rows.uptoBulk d2 ≤ 1048576 := by
    have := of_decide_eq_true hk
    simp only [List.cons_append, Rows.uptoBulkAll] at this
    omega
  obtain ⟨a0, len0, cap0, rfl⟩ := okWide_slice Tryd.underlying22 (hval 0 22 v0 rfl rfl)
  obtain ⟨fuel0, hf0⟩ := h0
  obtain ⟨l0, ⟨u0, e0, rd0, bd0⟩, kd0⟩ := open_doc hf0
  obtain ⟨a1, len1, cap1, rfl⟩ := okWide_slice Tryd.underlying22 (hval 1 22 v1 rfl rfl)
  obtain ⟨fuel1, hf1⟩ := h1
  obtain ⟨l1, ⟨u1, e1, rd1, bd1⟩, kd1⟩ := open_doc hf1
  obtain ⟨a2, len2, cap2, rfl⟩ := okWide_slice Tryd.underlying22 (hval 2 22 v2 rfl rfl)
  obtain ⟨fuel2, hf2⟩ := h2
  obtain ⟨l2, ⟨u2, e2, rd2, bd2⟩, kd2⟩ := open_doc hf2
  obtain rfl : .slice a0 len0 cap0 = u0 := by simpa [Value.cells] using e0
  obtain rfl : .slice a1 len1 cap1 = u1 := by simpa [Value.cells] using e1
  obtain rfl : .slice a2 len2 cap2 = u2 := by simpa [Value.cells] using e2
  obtain ⟨a3, rfl, rfl, rfl, w3⟩ := open_int Tryd.underlying3 (hval 3 3 v3 rfl rfl) h3
  obtain ⟨a4, rfl, rfl, rfl, w4⟩ := open_int Tryd.underlying3 (hval 4 3 v4 rfl rfl) h4
  have hU : Up [l0, l1, l2] := up_of (fun l hl => by
    simp only [List.mem_cons, List.not_mem_nil, or_false] at hl
    rcases hl with rfl | rfl | rfl
    · exact bd0
    · exact bd1
    · exact bd2) (by
    change _ ≤ Rows.uptoBulk d0 at kd0
    change _ ≤ Rows.uptoBulk d1 at kd1
    change _ ≤ Rows.uptoBulk d2 at kd2
    simp only [List.map_cons, List.map_nil, List.sum_cons, List.sum_nil]
    omega)
  clear hA0
  simp only [List.append_nil] at hW'
  refine (walk _ _ _ l0 l1 l2 a3 a4 W (vs_of (tabs_of hL)) rd0 rd1 rd2 hU).mono fun e W' ⟨he, bel⟩ => ?_
  subst he
  exact ⟨_, rfl, _, _, _, [], _, [], hW', trodAll_mk1 (shut_bool Tryd.underlying4 _), (trodAll_cons_mk (Below.trod laidOut (by kernel_rfl) (of_decide_eq_true (by kernel_rfl)) k0 bel lt0) (trodAll_cons_mk (Below.trod laidOut (by kernel_rfl) (of_decide_eq_true (by kernel_rfl)) k1 bel lt1) (trodAll_cons_mk (Below.trod laidOut (by kernel_rfl) (of_decide_eq_true (by kernel_rfl)) k2 bel lt2) (trodAll_cons_mk (Below.trod laidOut (by kernel_rfl) (of_decide_eq_true (by kernel_rfl)) k3 bel lt3) (trodAll_cons_mk (Below.trod laidOut (by kernel_rfl) (of_decide_eq_true (by kernel_rfl)) k4 bel lt4) trodAll_mk0))))), rfl, bel.frame _, fun h => by cases h⟩

set_option maxRecDepth 100000 in
theorem laid_met (os : Os) : laidMet Tryd.prog Rows.traceMergesUptoRow.laid ((laidWorld os).forCall (fun _ _ => 0) ⟨#[], #[.slice none 0 0, .slice none 0 0, .slice none 0 0, .int .i64 0, .int .i64 0], []⟩).memory :=
  (LaidIn.of_run (l := Rows.traceMergesUptoRow.laid) [1, 0] 8 (by kernel_rfl) (by kernel_rfl) (by kernel_rfl) (by kernel_rfl)).met
theorem reads (os : Os) {H : Type} (enc : TypeId × Value → H) : ∃ places, DataW.whole enc Tryd.prog ((laidWorld os).forCall (fun _ _ => 0) ⟨#[], #[.slice none 0 0, .slice none 0 0, .slice none 0 0, .int .i64 0, .int .i64 0], []⟩).memory Tryd.f4.params.toList Rows.traceMergesSpec.vars false (#[.slice none 0 0, .slice none 0 0, .slice none 0 0, .int .i64 0, .int .i64 0] : Array Value).toList 8 = some ([.nil, .nil, .nil, .lit (.int .i64 0), .lit (.int .i64 0)], [], places) :=
  ⟨[], by kernel_rfl⟩
set_option maxRecDepth 100000 in
theorem lifted (os : Os) (started : os.Started) (H : Type) (enc : TypeId × Value → H) (F : Stop.Interp) :
    ReturnsInHanded {} Tryd.checked os 4 .any ((Rows.OpenSpec.upto Rows.traceMergesSpec).preRow enc Tryd.prog Tryd.f4 Rows.traceMergesUptoRow.domain false Rows.traceMergesUptoRow.laid) (((Rows.OpenSpec.upto Rows.traceMergesSpec).at F).post enc Tryd.prog Tryd.f4 false true false false) := by
  obtain ⟨places, hx⟩ := reads os enc
  refine returnsInHanded_of_row (C := Tryd.checked) (s := Rows.OpenSpec.upto Rows.traceMergesSpec) own started (by kernel_rfl) Tryd.func4
    (witness_row_atRef (enc := enc) (C := Tryd.checked) false (laidWorld os) #[.slice none 0 0, .slice none 0 0, .slice none 0 0, .int .i64 0, .int .i64 0] rfl (by kernel_rfl) (by kernel_rfl) (by kernel_rfl)
      (OpenSpec.preRow_of_cond 8 hx (by kernel_rfl) (fun k hk => by cases hk; kernel_rfl) (by kernel_rfl) (laid_met os))) ?_
  intro W base args ds gs before hval hW _ hcond _ hL _ _
  exact contract H enc W base args ds gs before hval hW (hcond _ rfl) hL

theorem holds : Rows.TraceMergesUptoSaid :=
  OpenClaim.holds_of_cond 4 Tryd.f4 rfl rfl rfl rfl rfl rfl rfl ⟨rfl, rfl, rfl, rfl, rfl⟩ rfl rfl rfl rfl rfl (by kernel_rfl) Tryd.func4 (by kernel_rfl)
    (of_decide_eq_true (by kernel_rfl)) (by unfold Func.isWrapper; first | (rw [if_pos (by decide +kernel)]; kernel_rfl) | (rw [if_neg (by decide +kernel)]; exact ⟨rfl, rfl⟩))
    (fun os started H enc _ F => by rw [OpenClaim.pre_eq_preRow]; exact lifted os started H enc F)
theorem plain (f : FuncId) (fn : Func) (hf : Tryd.pinned.checked.prog.funcNamed "oxbow/oxbowlaw24.TraceMerges" = some f) (hfn : Tryd.pinned.checked.prog.funcs[f]? = some fn) :
    true = Tryd.pinned.checked.prog.looks [] ∧ ∀ (j : Nat) t, fn.params[j]? = some t → Tryd.pinned.checked.prog.wantsStandIn t = false := by
  obtain rfl : f = 4 := Option.some.inj ((show Tryd.prog.funcNamed "oxbow/oxbowlaw24.TraceMerges" = some 4 by kernel_rfl).symm.trans hf) |>.symm
  obtain rfl : fn = Tryd.f4 := (Option.some.inj (Tryd.func4.symm.trans hfn)).symm
  refine ⟨by kernel_rfl, fun j t ht => ?_⟩
  rw [Tryd.params4] at ht
  have hm := Array.mem_of_getElem? ht
  have h2 : t = 22 ∨ t = 3 := by simpa using hm
  rcases h2 with rfl | rfl
  · exact (show Tryd.prog.wantsStandIn 22 = false by kernel_rfl)
  · exact (show Tryd.prog.wantsStandIn 3 = false by kernel_rfl)
theorem card : Rows.TraceMergesUptoCardSaid :=
  Claim7.holds_tied_plain_at .later [] _ _ _ _ holds (fun _ h => by cases h) (by kernel_rfl) (fun _ h => by cases h) traceMergesUpto_row_tie rfl ⟨rfl, rfl⟩ (by kernel_rfl) rfl plain (by kernel_rfl)
end Go.Proofs.YtjimolafoihnpaaDoor.traceMerges
namespace Go.Proofs.YtjimolafoihnpaaDoor
theorem traceMerges_holds : Rows.TraceMergesUptoCardSaid := traceMerges.card
#print axioms traceMerges_holds
end Go.Proofs.YtjimolafoihnpaaDoor
