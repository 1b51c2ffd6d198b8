/-
  Proved: what any editor says is what the reference says, and writing into it leaves the editor as it was (the law ClientSays), where what comes in is of bulk at most 1048576.
-/
import Derived.Test.YtcdnlkhjlgaaoaaDoorCmH
import Derived.Test.YtcdnlkhjlgaaoaaDoorCnA
namespace Go.Proofs.YtcdnlkhjlgaaoaaDoor.clientSays
open Go.RowKit Go.ChangeShapes Go.WideShapes Go.ChangeAt Go.PlainAid

set_option maxRecDepth 20000 in
set_option maxHeartbeats 2000000 in
theorem walk (E : EdD) (v : Value) (w : World) (hV : VS w) (hr : RdEd w v E.p) (hF : E.Fit) (ht : E.t.size ≤ 1048576) (hp : E.p.length ≤ 524288) (hS : ∀ e ∈ E.p, ∀ o ∈ e.d, o.Sm) (hl : ∀ e ∈ E.p, e.d.length ≤ 1048576) :
    Calls Tryd.prog 6 #[.agg (E.fs v)] w fun e w' => e = .returned (.bool true) ∧ Below w.heap.size w w' := by
  have hx := eb_new w E v
  have hA := alloc_b w (.cells (E.fs v) 26)
  have c1 := fun W (h : Below w.heap.size w W) => rcopy_any E v W (hr.below h) (by omega) hl
  have c2 := fun W v' (h : Below w.heap.size w W) (h' : RdEd W v' E.p) => says_all E v' W h' (hV.below h) hF
  have c3 := fun W (h : Below w.heap.size w W) => rsays_all E v W (hr.below h) hF ht hS hl
  have hsl := say_len E
  have hsd := say_d hF
  have c4 := fun W v1 v2 (h1 : RdMs W v1 (sayE E)) (h2 : RdMs W v2 (sayE E)) => rsameM_true (sayE E) v1 v2 W h1 h2 (by omega) (fun m hm => by have := hsd m hm; unfold maxLen; omega)
  have c5 := fun W v1 (h1 : RdEd W v1 E.p) (h : Below w.heap.size w W) => rsame20_true E v1 v W h1 (hr.below h) (by omega) (fun e he => (hF.pf e he).dl)
  have cL := fun W h => live20_any W (hV.below h)
  obtain ⟨av, kv, rfl⟩ := rded_len hr
  generalize sayE E = M at *
  simp only [EdD.fs] at c1 c2 c3 c5 hx hA ⊢
  clear hV hr hF hS hl
  go_enter Tryd.func6, Tryd.ntmps6
  go_wp2_with fail
  refine (c1 _ hA).mono ?_
  rintro e w1 ⟨v1, us1, rfl, ho1, hb1⟩
  obtain ⟨a1, k1, rfl⟩ := own_form ho1.row
  have hn1 := eb_new w1 E (.slice a1 E.p.length k1)
  have hal1 := alloc_b w1 (.cells #[.int .i64 E.c, .int .i64 E.b, .int .i64 E.r, .string E.t, .int .i64 E.s, .slice a1 E.p.length k1] 26)
  have hx1 := (hx.below hb1).below hal1
  have r1 := ho1.rd.below hal1
  have hB1 := chain hA (chain hb1 hal1)
  clear c1 ho1 hx hA hb1 hal1
  go_wp2_with fail
  generalize hw5 : w1.alloc (.cells #[.int .i64 E.c, .int .i64 E.b, .int .i64 E.r, .string E.t, .int .i64 E.s, .slice a1 E.p.length k1] 26) = w5 at *
  clear hw5
  refine (c2 _ _ hB1 r1).mono ?_
  rintro e w2 ⟨v2, us2, rfl, ho2, hb2⟩
  obtain ⟨a2, k2, rfl⟩ := own_form ho2.row
  have hx2 := hx1.below hb2
  have hB2 := chain hB1 hb2
  obtain ⟨x0, x1, x2, x3, x4, x5⟩ := cellsEB hx2
  clear c2 hx2
  go_wp2_with fail
  clear x0 x1 x2 x3 x4 x5
  refine (c3 _ hB2).mono ?_
  rintro e w3 ⟨v3, us3, rfl, ho3, hb3⟩
  obtain ⟨a3, k3, rfl⟩ := own_form ho3.row
  have hM3 := (ho2.mut hsd).below hb3
  have c4' := c4 _ _ _ (ho2.rd.below hb3) ho3.rd
  have hb53 := chain hb2 hb3
  clear c3 c4 ho2 ho3 hB2 hb2 hb3
  go_wp2_with fail
  refine c4'.mono ?_
  rintro e w4 ⟨rfl, hb4⟩
  have hM4 := hM3.below hb4
  have hb54 := chain hb53 hb4
  clear c4' hM3 hb53 hb4 hsd
  go_wp2_with fail
  go_loopw [6] (fun i wr => ∃ (k : Nat), k ≤ M.length ∧ i = .int .i64 (k : Int) ∧ Mut w5.heap.size (.slice a2 M.length k2) M us2 wr ∧ Below w5.heap.size w5 wr) (fun i _ => M.length - (Go.RowKit.intOf i).toNat)
  case atStart => exact ⟨0, by omega, rfl, hM4, hb54⟩
  case round =>
    obtain ⟨k, hk, rfl, hM, hbl⟩ := hrel
    by_cases hlt : k < M.length
    · have hlt' : (k : Int) < (M.length : Int) := by omega
      go_wp2_with fail
      obtain ⟨gm, cm, u, ev, hu, -⟩ := hM.at hlt
      simp only [Value.slice.injEq] at ev
      obtain ⟨rfl, -, rfl⟩ := ev
      obtain ⟨ad, n, cd, rfl, hn, -⟩ := hM.dl k u hu
      go_loopw [7] (fun i wr2 => ∃ (j : Nat), j ≤ n ∧ i = .int .i64 (j : Int) ∧ Mut w5.heap.size (.slice (some ⟨gm, 0, none⟩) M.length k2) M us2 wr2 ∧ Below w5.heap.size w5 wr2) (fun i _ => n - (Go.RowKit.intOf i).toNat)
      case atStart => exact ⟨0, by omega, rfl, hM, hbl⟩
      case round =>
        obtain ⟨j, hj, rfl, hM2, hbl2⟩ := hrel
        obtain ⟨gm', cm', u', ev, hu', c6⟩ := hM2.at hlt
        simp only [Value.slice.injEq, Option.some.injEq, Addr.mk.injEq, and_true] at ev
        obtain ⟨rfl, -⟩ := ev
        rw [hu] at hu'
        cases hu'
        by_cases hjt : j < n
        · have hjt' : (j : Int) < (n : Int) := by omega
          obtain ⟨ad', n', cd', e', -, hd⟩ := hM2.dl k _ hu
          simp only [Value.slice.injEq] at e'
          obtain ⟨rfl, rfl, rfl⟩ := e'
          obtain ⟨gd, cs, rfl, hgB, hgd, hcs⟩ := hd.resolve_left (by omega)
          have q := cell_of_row _ gd (j * 3) _ _ (0, 0) hgd
          rw [Array.getElem?_eq_getElem (by omega)] at q
          have qf := frz hgd (j * 3)
          generalize cs[j * 3] = old at *
          go_wp2_with fail
          exact ⟨⟨j + 1, by omega, by go_num, hM2.set hgd, hbl2.setCell (by simp only; exact hgB) _⟩, by simp [Go.RowKit.intOf]; omega⟩
        · have hjt' : ¬ (j : Int) < (n : Int) := by omega
          go_wp2_with fail
          exact ⟨⟨k + 1, by omega, by go_num, hM2, hbl2⟩, by simp [Go.RowKit.intOf]; omega⟩
    · have hlt' : ¬ (k : Int) < (M.length : Int) := by omega
      have hB := chain hB1 hbl
      have hxr := hx1.below hbl
      have hnr := hn1.below hbl
      obtain ⟨x0, x1, x2, x3, x4, x5⟩ := cellsEB hxr
      obtain ⟨y0, y1, y2, y3, y4, y5⟩ := cellsEB hnr
      go_wp2_with fail
      refine (c5 _ _ (r1.below hbl) hB).mono ?_
      rintro e w6 ⟨rfl, hb6⟩
      clear x0 x1 x2 x3 x4 x5 y0 y1 y2 y3 y4 y5
      go_wp2_with fail
      refine (cL _ (chain hB hb6)).mono ?_
      rintro e w7 ⟨rfl, hb7⟩
      go_wp2_with fail
      go_ret
      exact ⟨rfl, chain hB (chain hb6 hb7)⟩

theorem own : ownKnob Tryd.prog.godebug = none := by kernel_rfl
theorem laidOut : laidOutB Tryd.prog = true := by kernel_rfl

set_option maxRecDepth 20000 in
theorem contract (H : Type) (enc : TypeId × Value → H) (W : World) (base : Nat) (args : Array Value) (ds gs : List (DataW H)) (before : List MemPlace)
    (hval : ∀ (j : Nat) t v, Tryd.f6.params[j]? = some t → args[j]? = some v → Value.okWide Tryd.prog W .any base t v)
    (hW : DataW.Whole enc Tryd.prog Tryd.f6.params.toList Rows.clientSaysSpec.vars false W args.toList ds gs before) (hk : Rows.uptoSmall H (ds ++ gs) = true) (hL : laidMetH Tryd.prog Rows.clientSaysUptoRow.laid W) :
    Calls Tryd.prog 6 args W fun e W' => ∃ v, e = .returned v ∧ Rows.clientSaysSpec.post enc Tryd.prog Tryd.f6 false true false false W args v W' := by
  have hW' := hW
  obtain ⟨p, q, hA0, hV, rfl, hfz, hnd⟩ := hW
  have hA : DataW.TrodAll enc Tryd.prog W 0 (fun _ => true) true Tryd.f6.params.toList args.toList ds p := hA0
  rw [Tryd.params6] at hA hval
  obtain ⟨v0, vs0, d0, ds0, p0, q0, hargs, rfl, rfl, h0, r0⟩ := trodAll_cons hA
  obtain ⟨rfl, rfl, rfl⟩ := trodAll_nil r0
  obtain rfl : args = #[v0] := by cases args; simp_all
  obtain ⟨rfl, rfl⟩ := trodVars_none hV
  have k0 := h0
  have lt0 : ∀ x ∈ p0, x.block < W.heap.size := by obtain ⟨m, hm⟩ := k0; exact DataW.trod_lt m _ _ _ hm
  obtain ⟨fuel0, hf0⟩ := h0
  have bb0 : Rows.uptoBulk d0 ≤ 1048576 := up_mem hk (by simp)
  obtain ⟨E0, u0, hc0, rE0, fE0, tE0, pE0, sE0, lE0⟩ := open_edr hf0 bb0
  obtain rfl := agg_val hc0
  clear hA0
  simp only [List.append_nil] at hW'
  refine (walk E0 u0 W (vs_of (tabs_of hL)) rE0 fE0 tE0 pE0 sE0 lE0).mono fun e W' ⟨he, bel⟩ => ?_
  subst he
  exact ⟨_, rfl, _, _, _, [], _, [], hW', trodAll_mk1 (shut_bool Tryd.underlying4 _), (trodAll_cons_mk (Below.trod laidOut (by kernel_rfl) (of_decide_eq_true (by kernel_rfl)) k0 bel lt0) trodAll_mk0), rfl, bel.frame _, fun h => by cases h⟩

set_option maxRecDepth 100000 in
theorem laid_met (os : Os) : laidMet Tryd.prog Rows.clientSaysUptoRow.laid ((laidWorld os).forCall (fun _ _ => 0) ⟨#[], #[.agg #[.int .i64 0, .int .i64 0, .int .i64 0, .string ⟨#[]⟩, .int .i64 0, .slice none 0 0]], []⟩).memory :=
  (LaidIn.of_run (l := Rows.clientSaysUptoRow.laid) [1, 0] 8 (by kernel_rfl) (by kernel_rfl) (by kernel_rfl) (by kernel_rfl)).met
theorem reads (os : Os) {H : Type} (enc : TypeId × Value → H) : ∃ places, DataW.whole enc Tryd.prog ((laidWorld os).forCall (fun _ _ => 0) ⟨#[], #[.agg #[.int .i64 0, .int .i64 0, .int .i64 0, .string ⟨#[]⟩, .int .i64 0, .slice none 0 0]], []⟩).memory Tryd.f6.params.toList Rows.clientSaysSpec.vars false (#[.agg #[.int .i64 0, .int .i64 0, .int .i64 0, .string ⟨#[]⟩, .int .i64 0, .slice none 0 0]] : Array Value).toList 8 = some ([.agg [.lit (.int .i64 0), .lit (.int .i64 0), .lit (.int .i64 0), .lit (.string []), .lit (.int .i64 0), .nil]], [], places) :=
  ⟨[], by kernel_rfl⟩
set_option maxRecDepth 100000 in
theorem lifted (os : Os) (started : os.Started) (H : Type) (enc : TypeId × Value → H) (F : Stop.Interp) :
    ReturnsInHanded {} Tryd.checked os 6 .any ((Rows.OpenSpec.upto Rows.clientSaysSpec).preRow enc Tryd.prog Tryd.f6 Rows.clientSaysUptoRow.domain false Rows.clientSaysUptoRow.laid) (((Rows.OpenSpec.upto Rows.clientSaysSpec).at F).post enc Tryd.prog Tryd.f6 false true false false) := by
  obtain ⟨places, hx⟩ := reads os enc
  refine returnsInHanded_of_row (C := Tryd.checked) (s := Rows.OpenSpec.upto Rows.clientSaysSpec) own started (by kernel_rfl) Tryd.func6
    (witness_row_atRef (enc := enc) (C := Tryd.checked) false (laidWorld os) #[.agg #[.int .i64 0, .int .i64 0, .int .i64 0, .string ⟨#[]⟩, .int .i64 0, .slice none 0 0]] rfl (by kernel_rfl) (by kernel_rfl) (by kernel_rfl)
      (OpenSpec.preRow_of_cond 8 hx (by kernel_rfl) (fun k hk => by cases hk; kernel_rfl) (by kernel_rfl) (laid_met os))) ?_
  intro W base args ds gs before hval hW _ hcond _ hL _ _
  exact contract H enc W base args ds gs before hval hW (hcond _ rfl) hL

theorem holds : Rows.ClientSaysUptoSaid :=
  OpenClaim.holds_of_cond 6 Tryd.f6 rfl rfl rfl rfl rfl rfl rfl ⟨rfl, rfl, rfl, rfl, rfl⟩ rfl rfl rfl rfl rfl (by kernel_rfl) Tryd.func6 (by kernel_rfl)
    (of_decide_eq_true (by kernel_rfl)) (by unfold Func.isWrapper; first | (rw [if_pos (by decide +kernel)]; kernel_rfl) | (rw [if_neg (by decide +kernel)]; exact ⟨rfl, rfl⟩))
    (fun os started H enc _ F => by rw [OpenClaim.pre_eq_preRow]; exact lifted os started H enc F)
theorem plain (f : FuncId) (fn : Func) (hf : Tryd.pinned.checked.prog.funcNamed "oxbow/oxbowlaw20.ClientSays" = some f) (hfn : Tryd.pinned.checked.prog.funcs[f]? = some fn) :
    true = Tryd.pinned.checked.prog.looks [] ∧ ∀ (j : Nat) t, fn.params[j]? = some t → Tryd.pinned.checked.prog.wantsStandIn t = false := by
  obtain rfl : f = 6 := Option.some.inj ((show Tryd.prog.funcNamed "oxbow/oxbowlaw20.ClientSays" = some 6 by kernel_rfl).symm.trans hf) |>.symm
  obtain rfl : fn = Tryd.f6 := (Option.some.inj (Tryd.func6.symm.trans hfn)).symm
  refine ⟨by kernel_rfl, fun j t ht => ?_⟩
  rw [Tryd.params6] at ht
  have hm := Array.mem_of_getElem? ht
  obtain rfl : t = 26 := by simpa using hm
  exact (show Tryd.prog.wantsStandIn 26 = false by kernel_rfl)
theorem card : Rows.ClientSaysUptoCardSaid :=
  Claim7.holds_tied_plain_at .later [] _ _ _ _ holds (fun _ h => by cases h) (by kernel_rfl) (fun _ h => by cases h) clientSaysUpto_row_tie rfl ⟨rfl, rfl⟩ (by kernel_rfl) rfl plain (by kernel_rfl)
end Go.Proofs.YtcdnlkhjlgaaoaaDoor.clientSays
namespace Go.Proofs.YtcdnlkhjlgaaoaaDoor
theorem clientSays_holds : Rows.ClientSaysUptoCardSaid := clientSays.card
#print axioms clientSays_holds
end Go.Proofs.YtcdnlkhjlgaaoaaDoor
