/-
  Proved: the bytes of any editor, and what any bytes are read as, are the reference's (the law ClientWrites), where what comes in is of bulk at most 1048576.
-/
import Derived.Test.YtcdnlkhjlgaaoaaGreatDoorCmQ
import Derived.Test.YtcdnlkhjlgaaoaaGreatDoorCnV
import Derived.Test.YtcdnlkhjlgaaoaaGreatDoorClS
import Derived.ShutString
namespace Go.Proofs.YtcdnlkhjlgaaoaaGreatDoor.clientWrites
open Go.RowKit Go.ChangeShapes Go.WideShapes Go.ChangeAt Go.PlainAid
open Go.ChangeMaps (open_string shut_string)

theorem dcT_fit (s : ByteArray) (E : EdD) (f : Bool) : (dcT s E f).1.p.length ≤ 8 ∧ ∀ e ∈ (dcT s E f).1.p, e.d.length ≤ 3000 := by
  have z : (zeroE : EdD).p.length ≤ 8 ∧ ∀ e ∈ (zeroE : EdD).p, e.d.length ≤ 3000 := ⟨by decide, fun e he => by cases he⟩
  unfold dcT
  split
  · exact z
  · split
    · rename_i h
      have hM : mayE E = true := by
        by_cases hm : mayE E = true
        · exact hm
        · have h1 := h.1
          rw [encE, if_neg hm] at h1
          cases h1
      have hm := (may_iff E).1 hM
      exact ⟨hm.p8, fun e he => by have := may_ok hm e he; simp [okD] at this; exact (kchk_any this.1).2⟩
    · exact z
theorem dcN_fit (s : ByteArray) (c b r : Int) (t : ByteArray) (q n a : Int) (f : Bool) : (dcN s c b r t q n a f).1.p.length ≤ 8 ∧ ∀ e ∈ (dcN s c b r t q n a f).1.p, e.d.length ≤ 3000 := by
  unfold dcN
  split
  · exact ⟨by decide, fun e he => by cases he⟩
  · exact dcT_fit _ _ _
theorem dc_fit (s : ByteArray) : (dcC s).1.p.length ≤ 8 ∧ ∀ e ∈ (dcC s).1.p, e.d.length ≤ 3000 := by
  unfold dcC
  exact dcN_fit _ _ _ _ _ _ _ _ _
set_option maxRecDepth 20000 in
set_option maxHeartbeats 2000000 in
theorem walk (E : EdD) (v : Value) (s : ByteArray) (w : World) (hV : VS w) (hr : RdEd w v E.p) (hF : E.Fit) (ht : E.t.size ≤ 1048576) (hp : E.p.length ≤ 524288) (hS : ∀ e ∈ E.p, ∀ o ∈ e.d, o.Sm) (hl : ∀ e ∈ E.p, e.d.length ≤ 1048576) (hs : s.size ≤ maxLen) :
    Calls Tryz.prog 3 #[.agg (E.fs v), .string s] w fun e w' => e = .returned (.bool true) ∧ Below w.heap.size w w' := by
  have hx := eb_new w E v
  have hA := alloc_b w (.cells (E.fs v) 24)
  have c1 := fun W (h : Below w.heap.size w W) => rcopy_any E v W (hr.below h) (by omega) hl
  have c2 := fun W v' (h : Below w.heap.size w W) (h' : RdEd W v' E.p) => cencode_any E v' W h' (hV.below h) hF
  have c3 := fun W (h : Below w.heap.size w W) => rencode_any E v W (hr.below h) hF ht hS
  have c4 := fun W (h : Below w.heap.size w W) => cdecode_any s W hs (hV.below h)
  have c5 := fun W => rdecode_any s W hs
  have hfit := dc_fit s
  have c6 := fun W v1 v2 (h1 : RdEd W v1 (dcC s).1.p) (h2 : RdEd W v2 (dcC s).1.p) => rsame20_true (dcC s).1 v1 v2 W h1 h2 (by have := hfit.1; omega) (fun e he => by have := hfit.2 e he; unfold maxLen; omega)
  have cL := fun W h => live20_any W (hV.below h)
  obtain ⟨av, kv, rfl⟩ := rded_len hr
  generalize encE E = X at *
  generalize dcC s = R at *
  simp only [EdD.fs] at c1 c2 c3 c4 c5 c6 hx hA ⊢
  clear hV hr hF hS hl hfit
  go_enter Tryz.func3, Tryz.ntmps3
  go_wp2_with fail
  refine (c1 _ hA).mono ?_
  rintro e w1 ⟨v1, us1, rfl, ho1, hb1⟩
  obtain ⟨a1, k1, rfl⟩ := own_form ho1.row
  have hx1 := hx.below hb1
  have hB1 := chain hA hb1
  have r1 := ho1.rd
  clear c1 ho1 hx hA hb1
  go_wp2_with fail
  refine (c2 _ _ hB1 r1).mono ?_
  rintro e w2 ⟨rfl, hb2⟩
  have hx2 := hx1.below hb2
  have hB2 := chain hB1 hb2
  clear c2 hx1 hB1 hb2 r1
  obtain ⟨x0, x1, x2, x3, x4, x5⟩ := cellsEB hx2
  go_wp2_with fail
  clear x0 x1 x2 x3 x4 x5 hx2
  refine (c3 _ hB2).mono ?_
  rintro e w3 ⟨rfl, hb3⟩
  have hB3 := chain hB2 hb3
  clear c3 hB2 hb3
  go_wp2_with fail
  refine (c4 _ hB3).mono ?_
  rintro e w4 ⟨v4, us4, rfl, ho4, hb4⟩
  obtain ⟨a4, k4, rfl⟩ := own_form ho4.row
  have hn4 := eb_new w4 R.1 (.slice a4 R.1.p.length k4)
  have hal4 := alloc_b w4 (.cells #[.int .i64 R.1.c, .int .i64 R.1.b, .int .i64 R.1.r, .string R.1.t, .int .i64 R.1.s, .slice a4 R.1.p.length k4] 24)
  have r4 := ho4.rd.below hal4
  have hB4 := chain hB3 (chain hb4 hal4)
  clear c4 ho4 hB3 hb4 hal4
  go_wp2_with fail
  refine (c5 _).mono ?_
  rintro e w5 ⟨v5, us5, rfl, ho5, hb5⟩
  obtain ⟨a5, k5, rfl⟩ := own_form ho5.row
  have hn5 := eb_new w5 R.1 (.slice a5 R.1.p.length k5)
  have hal5 := alloc_b w5 (.cells #[.int .i64 R.1.c, .int .i64 R.1.b, .int .i64 R.1.r, .string R.1.t, .int .i64 R.1.s, .slice a5 R.1.p.length k5] 24)
  have hb45 := chain hb5 hal5
  have hn45 := hn4.below hb45
  have r45 := r4.below hb45
  have r5 := ho5.rd.below hal5
  have hB5 := chain hB4 hb45
  clear c5 ho5 hB4 hb5 hal5 hn4 r4 hb45
  obtain ⟨x0, x1, x2, x3, x4, x5⟩ := cellsEB hn45
  obtain ⟨y0, y1, y2, y3, y4, y5⟩ := cellsEB hn5
  go_wp2_with fail
  clear x0 x1 x2 x3 x4 x5 y0 y1 y2 y3 y4 y5
  refine (c6 _ _ _ r45 r5).mono ?_
  rintro e w6 ⟨rfl, hb6⟩
  have hB6 := chain hB5 hb6
  clear c6 hn45 hn5 r45 r5 hB5 hb6
  go_wp2_with fail
  refine (cL _ hB6).mono ?_
  rintro e w7 ⟨rfl, hb7⟩
  go_wp2_with fail
  go_ret
  exact ⟨rfl, chain hB6 hb7⟩

theorem own : ownKnob Tryz.prog.godebug = none := by kernel_rfl
theorem laidOut : laidOutB Tryz.prog = true := by kernel_rfl

set_option maxRecDepth 20000 in
theorem contract (H : Type) (enc : TypeId × Value → H) (W : World) (base : Nat) (args : Array Value) (ds gs : List (DataW H)) (before : List MemPlace)
    (hval : ∀ (j : Nat) t v, Tryz.f3.params[j]? = some t → args[j]? = some v → Value.okWide Tryz.prog W .any base t v)
    (hW : DataW.Whole enc Tryz.prog Tryz.f3.params.toList Rows.clientWritesSpec.vars false W args.toList ds gs before) (hk : Rows.uptoSmall H (ds ++ gs) = true) (hL : laidMetH Tryz.prog Rows.clientWritesUptoRow.laid W) :
    Calls Tryz.prog 3 args W fun e W' => ∃ v, e = .returned v ∧ Rows.clientWritesSpec.post enc Tryz.prog Tryz.f3 false true false false W args v W' := by
  have hW' := hW
  obtain ⟨p, q, hA0, hV, rfl, hfz, hnd⟩ := hW
  have hA : DataW.TrodAll enc Tryz.prog W 0 (fun _ => true) true Tryz.f3.params.toList args.toList ds p := hA0
  rw [Tryz.params3] at hA hval
  obtain ⟨v0, vs0, d0, ds0, p0, q0, hargs, rfl, rfl, h0, r0⟩ := trodAll_cons hA
  obtain ⟨v1, vs1, d1, ds1, p1, q1, rfl, rfl, rfl, h1, r1⟩ := trodAll_cons r0
  obtain ⟨rfl, rfl, rfl⟩ := trodAll_nil r1
  obtain rfl : args = #[v0, v1] := by cases args; simp_all
  obtain ⟨rfl, rfl⟩ := trodVars_none hV
  have k0 := h0
  have lt0 : ∀ x ∈ p0, x.block < W.heap.size := by obtain ⟨m, hm⟩ := k0; exact DataW.trod_lt m _ _ _ hm
  have k1 := h1
  have lt1 : ∀ x ∈ p1, x.block < W.heap.size := by obtain ⟨m, hm⟩ := k1; exact DataW.trod_lt m _ _ _ hm
  obtain ⟨fuel0, hf0⟩ := h0
  have bb0 : Rows.uptoBulk d0 ≤ 1048576 := up_mem hk (by simp)
  obtain ⟨E0, u0, hc0, rE0, fE0, tE0, pE0, sE0, lE0⟩ := open_edr hf0 bb0
  obtain rfl := agg_val hc0
  obtain ⟨a1, rfl, rfl, rfl, w1⟩ := open_string Tryz.underlying9 (hval 1 9 v1 rfl rfl) h1
  clear hA0
  simp only [List.append_nil] at hW'
  refine (walk E0 u0 a1 W (vs_of (tabs_of hL)) rE0 fE0 tE0 pE0 sE0 lE0 w1).mono fun e W' ⟨he, bel⟩ => ?_
  subst he
  exact ⟨_, rfl, _, _, _, [], _, [], hW', trodAll_mk1 (shut_bool Tryz.underlying4 _), (trodAll_cons_mk (Below.trod laidOut (by kernel_rfl) (of_decide_eq_true (by kernel_rfl)) k0 bel lt0) (trodAll_cons_mk (Below.trod laidOut (by kernel_rfl) (of_decide_eq_true (by kernel_rfl)) k1 bel lt1) trodAll_mk0)), rfl, bel.frame _, fun h => by cases h⟩

set_option maxRecDepth 100000 in
theorem laid_met (os : Os) : laidMet Tryz.prog Rows.clientWritesUptoRow.laid ((laidWorld os).forCall (fun _ _ => 0) ⟨#[], #[.agg #[.int .i64 0, .int .i64 0, .int .i64 0, .string ⟨#[]⟩, .int .i64 0, .slice none 0 0], .string ⟨#[]⟩], []⟩).memory :=
  (LaidIn.of_run (l := Rows.clientWritesUptoRow.laid) [1, 0] 8 (by kernel_rfl) (by kernel_rfl) (by kernel_rfl) (by kernel_rfl)).met
theorem reads (os : Os) {H : Type} (enc : TypeId × Value → H) : ∃ places, DataW.whole enc Tryz.prog ((laidWorld os).forCall (fun _ _ => 0) ⟨#[], #[.agg #[.int .i64 0, .int .i64 0, .int .i64 0, .string ⟨#[]⟩, .int .i64 0, .slice none 0 0], .string ⟨#[]⟩], []⟩).memory Tryz.f3.params.toList Rows.clientWritesSpec.vars false (#[.agg #[.int .i64 0, .int .i64 0, .int .i64 0, .string ⟨#[]⟩, .int .i64 0, .slice none 0 0], .string ⟨#[]⟩] : Array Value).toList 8 = some ([.agg [.lit (.int .i64 0), .lit (.int .i64 0), .lit (.int .i64 0), .lit (.string []), .lit (.int .i64 0), .nil], .lit (.string [])], [], places) :=
  ⟨[], by kernel_rfl⟩
set_option maxRecDepth 100000 in
theorem lifted (os : Os) (started : os.Started) (H : Type) (enc : TypeId × Value → H) (F : Stop.Interp) :
    ReturnsInHanded {} Tryz.checked os 3 .any ((Rows.OpenSpec.upto Rows.clientWritesSpec).preRow enc Tryz.prog Tryz.f3 Rows.clientWritesUptoRow.domain false Rows.clientWritesUptoRow.laid) (((Rows.OpenSpec.upto Rows.clientWritesSpec).at F).post enc Tryz.prog Tryz.f3 false true false false) := by
  obtain ⟨places, hx⟩ := reads os enc
  refine returnsInHanded_of_row (C := Tryz.checked) (s := Rows.OpenSpec.upto Rows.clientWritesSpec) own started (by kernel_rfl) Tryz.func3
    (witness_row_atRef (enc := enc) (C := Tryz.checked) false (laidWorld os) #[.agg #[.int .i64 0, .int .i64 0, .int .i64 0, .string ⟨#[]⟩, .int .i64 0, .slice none 0 0], .string ⟨#[]⟩] rfl (by kernel_rfl) (by kernel_rfl) (by kernel_rfl)
      (OpenSpec.preRow_of_cond 8 hx (by kernel_rfl) (fun k hk => by cases hk; kernel_rfl) (by kernel_rfl) (laid_met os))) ?_
  intro W base args ds gs before hval hW _ hcond _ hL _ _
  exact contract H enc W base args ds gs before hval hW (hcond _ rfl) hL

theorem holds : Rows.ClientWritesUptoSaid :=
  OpenClaim.holds_of_cond 3 Tryz.f3 rfl rfl rfl rfl rfl rfl rfl ⟨rfl, rfl, rfl, rfl, rfl⟩ rfl rfl rfl rfl rfl (by kernel_rfl) Tryz.func3 (by kernel_rfl)
    (of_decide_eq_true (by kernel_rfl)) (by unfold Func.isWrapper; first | (rw [if_pos (by decide +kernel)]; kernel_rfl) | (rw [if_neg (by decide +kernel)]; exact ⟨rfl, rfl⟩))
    (fun os started H enc _ F => by rw [OpenClaim.pre_eq_preRow]; exact lifted os started H enc F)
theorem plain (f : FuncId) (fn : Func) (hf : Tryz.pinned.checked.prog.funcNamed "oxbow/oxbowlaw20.ClientWrites" = some f) (hfn : Tryz.pinned.checked.prog.funcs[f]? = some fn) :
    true = Tryz.pinned.checked.prog.looks [] ∧ ∀ (j : Nat) t, fn.params[j]? = some t → Tryz.pinned.checked.prog.wantsStandIn t = false := by
  obtain rfl : f = 3 := Option.some.inj ((show Tryz.prog.funcNamed "oxbow/oxbowlaw20.ClientWrites" = some 3 by kernel_rfl).symm.trans hf) |>.symm
  obtain rfl : fn = Tryz.f3 := (Option.some.inj (Tryz.func3.symm.trans hfn)).symm
  refine ⟨by kernel_rfl, fun j t ht => ?_⟩
  rw [Tryz.params3] at ht
  have hm := Array.mem_of_getElem? ht
  have h2 : t = 24 ∨ t = 9 := by simpa using hm
  rcases h2 with rfl | rfl
  · exact (show Tryz.prog.wantsStandIn 24 = false by kernel_rfl)
  · exact (show Tryz.prog.wantsStandIn 9 = false by kernel_rfl)
theorem card : Rows.ClientWritesUptoCardSaid :=
  Claim7.holds_tied_plain_at .later [] _ _ _ _ holds (fun _ h => by cases h) (by kernel_rfl) (fun _ h => by cases h) clientWritesUpto_row_tie rfl ⟨rfl, rfl⟩ (by kernel_rfl) rfl plain (by kernel_rfl)
end Go.Proofs.YtcdnlkhjlgaaoaaGreatDoor.clientWrites
namespace Go.Proofs.YtcdnlkhjlgaaoaaGreatDoor
theorem clientWrites_holds : Rows.ClientWritesUptoCardSaid := clientWrites.card
#print axioms clientWrites_holds
end Go.Proofs.YtcdnlkhjlgaaoaaGreatDoor
