/-
  The contract of Join.
-/
import Derived.Test.YtnfnacjadmhclaaDoorDoQ
namespace Go.Proofs.YtnfnacjadmhclaaDoor
open Go.WideShapes Go.RowKit Go.ChangeShapes Go.ChangeAt Go.PlainAid

/-- Two documents, one behind the other. -/
def jn2 (a b : List RunD) : List RunD := wtL (wtL [] a) b
/-- May they be joined? -/
def jnB (a b : List RunD) : Bool := ckG [] none a && ckG [] none b && ckG [] none (jn2 a b)
def jnE (a b : List RunD) : Int := if jnB a b = true then 0 else 120
def jnL (a b : List RunD) : List RunD := if jnB a b = true then jn2 a b else []

theorem own_in {w : World} {v : Value} {l : List RunD} (h : RdN w v l) (hn : l ≠ []) : ∀ g, v.ownBlock = some g → g < w.heap.size := by
  intro g hg
  cases l with
  | nil => exact absurd rfl hn
  | cons r l =>
    obtain ⟨ao, cp, rfl, -, hc⟩ := h
    obtain ⟨b, o, rfl, hb, -⟩ := hc 0 r rfl
    simp [Value.ownBlock] at hg
    omega

set_option maxRecDepth 20000 in
set_option maxHeartbeats 1000000 in
theorem join_any (v1 v2 : Value) (a b : List RunD) (w : World) (hV : VS w) (hr1 : RdN w v1 a) (hr2 : RdN w v2 b) (hm1 : a.length ≤ 1125899906842624) (hm2 : b.length ≤ 1125899906842624) (hi1 : ∀ r ∈ a, r.In) (hi2 : ∀ r ∈ b, r.In) :
    Calls Tryd.prog 26 #[v1, v2] w fun e w' => ∃ u, e = .returned (.tuple #[u, .int .i64 (jnE a b)]) ∧ w'.ownsRow w.heap.size 41 4 u (jnL a b).length (rcs (jnL a b)) ∧ Below w.heap.size w w' := by
  have hc1 := check_any v1 a w hV hr1 hm1 hi1
  have hc2 : ∀ w1, Below w.heap.size w w1 → _ := fun w1 hb => check_any v2 b w1 (hV.below hb) (hr2.below hb) hm2 hi2
  have hin := own_in hr2
  obtain ⟨ao1, cp1, hv1, -⟩ := id hr1
  subst hv1
  obtain ⟨ao2, cp2, hv2, -⟩ := id hr2
  subst hv2
  cases hg1 : ckG [] none a with
  | false =>
    have e1 : ckR a = 120 := by unfold ckR; rw [hg1]; rfl
    have e2 : Hid (jnE a b = 120 ∧ jnL a b = []) := ⟨by unfold jnE jnB; rw [hg1]; rfl, by unfold jnL jnB; rw [hg1]; rfl⟩
    rw [e1] at hc1
    clear e1 hg1 hr1 hr2
    go_enter Tryd.func26, Tryd.ntmps26
    go_wp2_with (go_at_call 10; refine hc1.mono ?_; rintro e w1 ⟨rfl, hb1⟩)
    go_ret2
    rw [e2.out.1, e2.out.2]
    exact ⟨_, rfl, World.ownsRow_nil _ _ _ _, hb1⟩
  | true =>
    have hG1 := (good_iff a).1 hg1
    rw [ckR_zero.2 hG1] at hc1
    cases hg2 : ckG [] none b with
    | false =>
      have e1 : ckR b = 120 := by unfold ckR; rw [hg2]; rfl
      have e2 : Hid (jnE a b = 120 ∧ jnL a b = []) := ⟨by unfold jnE jnB; rw [hg1, hg2]; rfl, by unfold jnL jnB; rw [hg1, hg2]; rfl⟩
      rw [e1] at hc2
      clear e1 hg1 hg2 hr1 hr2
      go_enter Tryd.func26, Tryd.ntmps26
      go_wp2_with fail
      refine hc1.mono ?_
      rintro e w1 ⟨rfl, hb1⟩
      go_wp2_with fail
      refine (hc2 w1 hb1).mono ?_
      rintro e w2 ⟨rfl, hb2⟩
      go_wp2_with fail
      go_ret2
      rw [e2.out.1, e2.out.2]
      exact ⟨_, rfl, World.ownsRow_nil _ _ _ _, chain hb1 hb2⟩
    | true =>
      have hG2 := (good_iff b).1 hg2
      rw [ckR_zero.2 hG2] at hc2
      have hb1' := hG1.bound
      have hb2' := hG2.bound
      have hw1 : ∀ w2, Below w.heap.size w w2 → _ := fun w2 hB => with_any w hV w2.heap.size (.slice none 0 0) (.slice ao1 a.length cp1) [] a w2 hB hB.size (Nat.le_refl _) (World.ownsRow_nil _ _ _ _) (hr1.below hB) (fun _ g _ => by simp [Value.ownBlock]) (by simp; omega) (by simp [txB_nil]; omega) (by simp) (fun r hr => fit_wf (hG1.fit r hr))
      have hlen1 := wtL_len a []
      have htx1 := txB_wtL a []
      have hwf1 := wtL_wf (more := a) (X := []) (by simp) (fun r hr => fit_wf (hG1.fit r hr))
      have hlen2 := wtL_len b (wtL [] a)
      have htx2 := txB_wtL b (wtL [] a)
      have hJ : Hid (jnE a b = ckR (jn2 a b) ∧ jnL a b = if ckG [] none (jn2 a b) = true then jn2 a b else []) := ⟨by unfold jnE jnB ckR; rw [hg1, hg2]; simp, by unfold jnL jnB; rw [hg1, hg2]; simp⟩
      clear hg1 hg2
      go_enter Tryd.func26, Tryd.ntmps26
      go_wp2_with fail
      refine hc1.mono ?_
      rintro e w1 ⟨rfl, hb1⟩
      go_wp2_with fail
      refine (hc2 w1 hb1).mono ?_
      rintro e w2 ⟨rfl, hb2⟩
      have hB2 := chain hb1 hb2
      go_wp2_with fail
      refine (hw1 w2 hB2).mono ?_
      rintro e w3 ⟨u3, rfl, h3⟩
      have hB3 := hB2.trans (h3.on.below hB2.size (by simp [Value.ownBlock]))
      have hs3 := h3.on.size
      have hw2 := with_any w hV w2.heap.size u3 (.slice ao2 b.length cp2) (wtL [] a) b w3 hB3 hB2.size hs3 h3.own (hr2.below hB3) (fun hb g hg hm => by
        have q1 := hin hb g hg
        simp only [Option.mem_toList] at hm
        have q2 := (h3.own.lt g hm).1
        have q3 := hB2.size
        omega) (by simp at hlen1; omega) (by rw [htx1]; simp [txB_nil]; omega) hwf1 (fun r hr => fit_wf (hG2.fit r hr))
      obtain ⟨a3, c3, rfl⟩ := own_form h3.own
      go_wp2_with fail
      refine hw2.mono ?_
      rintro e w4 ⟨u4, rfl, h4⟩
      have hB4 := hB3.trans (h4.on.below hB3.size (fun k hk => by
        simp only [Option.mem_toList] at hk
        have q2 := (h3.own.lt k hk).1
        have q3 := hB2.size
        omega))
      have htxJ : (txB (jn2 a b)).length ≤ 8000 := by unfold jn2; rw [htx2, htx1]; simp [txB_nil]; omega
      have hlenJ : (jn2 a b).length ≤ 2000 := by unfold jn2; simp at hlen1; omega
      have h4o : w4.ownsRow w2.heap.size 41 4 u4 (jn2 a b).length (rcs (jn2 a b)) := h4.own
      have hc3 := check_any u4 (jn2 a b) w4 (hV.below hB4) (rdn_own h4o) (by omega) (fun r hr => by have := txB_mem hr; unfold RunD.In; omega)
      have hs2 := hB2.size
      clear hw1 hw2 h4 h3 hlen1 hlen2 htx1 htx2 hwf1
      generalize jn2 a b = J at *
      obtain ⟨a4, c4, rfl⟩ := own_form h4o
      cases hg3 : ckG [] none J with
      | false =>
        have e1 : ckR J = 120 := by unfold ckR; rw [hg3]; rfl
        have e2 : Hid (jnE a b = 120 ∧ jnL a b = []) := ⟨by rw [hJ.out.1, e1], by rw [hJ.out.2, hg3]; rfl⟩
        rw [e1] at hc3
        clear e1 hJ
        go_wp2_with fail
        refine hc3.mono ?_
        rintro e w5 ⟨rfl, hb5⟩
        go_wp2_with fail
        go_ret2
        rw [e2.out.1, e2.out.2]
        exact ⟨_, rfl, World.ownsRow_nil _ _ _ _, chain hB4 hb5⟩
      | true =>
        have e1 : ckR J = 0 := by unfold ckR; rw [hg3]; rfl
        have e2 : Hid (jnE a b = 0 ∧ jnL a b = J) := ⟨by rw [hJ.out.1, e1], by rw [hJ.out.2, hg3]; rfl⟩
        rw [e1] at hc3
        clear e1 hJ
        go_wp2_with fail
        refine hc3.mono ?_
        rintro e w5 ⟨rfl, hb5⟩
        have ho5 := own_belowG h4o hb5
        go_wp2_with fail
        go_ret2
        rw [e2.out.1, e2.out.2]
        exact ⟨_, rfl, own_lower ho5 hs2, chain hB4 hb5⟩
end Go.Proofs.YtnfnacjadmhclaaDoor

/-
  The contract of At.
-/
namespace Go.Proofs.YtnfnacjadmhclaaDoor
open Go.WideShapes Go.RowKit Go.ChangeShapes Go.ChangeAt Go.PlainAid

theorem results_c3 {P : Program} {fn : Func} {p a b : Tmp} {ty : TypeId} (h : fn.results = #[.cell p ty, .tmp a, .tmp b]) (tmps : Array Value) (w : World) (g : Nat) (t : TypeId) (cs : Array Value) (fr : Nat × Nat) (d : TypeDesc)
    (hp : tmps.getD p undef = .pointer (some ⟨g, 0, none⟩)) (hg : w.heap[g]? = some (.cells cs t fr))
    (hu : P.underlying ty = some d) (hd : (match d with | .struct _ | .array _ _ => true | _ => false) = true) (hi : (P.info? ty).map (·.size) = some cs.size) (x y : Value) (hx : tmps.getD a undef = x) (hy : tmps.getD b undef = y) :
    (results fn tmps).run P w = .ok (.tuple #[.agg cs, x, y]) w := by
  have hp' : tmps[p]?.getD undef = .pointer (some ⟨g, 0, none⟩) := by simpa using hp
  have hx' : tmps[a]?.getD undef = x := by simpa using hx
  have hy' : tmps[b]?.getD undef = y := by simpa using hy
  simp [results, h, hp', hx', hy', asAddr, run_loadVar_row w g t ty cs fr d hg hu hd hi]

/-- Where atom i is. -/
def atF : List RunD → Int → Int × Int × Int × Bool
  | [], _ => (0, 0, 0, false)
  | r :: l, i => if i < cpl r.t then (r.c, r.q, r.f + i, true) else atF l (i - cpl r.t)
/-- What At answers. -/
def atR (l : List RunD) (i : Int) : Int × Int × Int × Bool := if ckG [] none l = true ∧ 0 ≤ i then atF l i else (0, 0, 0, false)
/-- .. as a value. -/
def atA (x : Int × Int × Int × Bool) : Value := .tuple #[.agg #[.int .i64 x.1, .int .i64 x.2.1], .int .i64 x.2.2.1, .bool x.2.2.2]
theorem Tryd.sizeOr : (Tryd.prog.info? 29).map (·.size) = some 2 := by kernel_rfl
/-- An origin's box. -/
def OB (W : World) (b : Nat) (c q : Int) : Prop := W.heap[b]? = some (.cells #[.int .i64 c, .int .i64 q] 29)
theorem OB.below {W W' : World} {b : Nat} {c q : Int} (h : OB W b c q) (hb : Below W.heap.size W W') : OB W' b c q := (hb.block b (heap_lt h)).trans h
theorem OB.set {W : World} {b : Nat} {c q : Int} (h : OB W b c q) (c' q' : Int) : OB ((W.setCell ⟨b, 0, none⟩ (.int .i64 c')).setCell ⟨b, 1, none⟩ (.int .i64 q')) b c' q' := heap_setCell (heap_setCell h 0 _) 1 _
theorem OB.facts {W : World} {b : Nat} {c q : Int} (h : OB W b c q) : W.cell? ⟨b, 0, none⟩ = some (.int .i64 c) ∧ W.cell? ⟨b, 1, none⟩ = some (.int .i64 q) ∧ W.frozen? ⟨b, 0, none⟩ = false ∧ W.frozen? ⟨b, 1, none⟩ = false :=
  ⟨cell_of_row _ _ 0 _ _ (0, 0) h, cell_of_row _ _ 1 _ _ (0, 0) h, frz h 0, frz h 1⟩
theorem bl_set2 {B : Nat} {W X : World} {b : Nat} (h : Below B W X) (hb : B ≤ b) (x y : Value) : Below B W ((X.setCell ⟨b, 0, none⟩ x).setCell ⟨b, 1, none⟩ y) :=
  (h.setCell (p := ⟨b, 0, none⟩) hb x).setCell (p := ⟨b, 1, none⟩) hb y

set_option maxRecDepth 20000 in
set_option maxHeartbeats 1000000 in
theorem at_any (v : Value) (l : List RunD) (i : Int) (w : World) (hV : VS w) (hr : RdN w v l) (hm : l.length ≤ 1125899906842624) (hi : ∀ r ∈ l, r.In) (hir : i ≤ 9223372036854775807) :
    Calls Tryd.prog 13 #[v, .int .i64 i] w fun e w' => e = .returned (atA (atR l i)) ∧ Below w.heap.size w w' := by
  have hA0 : Below w.heap.size w (w.alloc (.cells #[.int .i64 0, .int .i64 0] 29)) := (Below.refl _ w).alloc (Nat.le_refl _) _
  have hO0 : OB (w.alloc (.cells #[.int .i64 0, .int .i64 0] 29)) w.heap.size 0 0 := heap_alloc_new w _
  have hck := check_any v l _ (hV.below hA0) (hr.below hA0) hm hi
  obtain ⟨ao, cp, hv, -⟩ := id hr
  subst hv
  by_cases hbad : ckG [] none l = true ∧ 0 ≤ i
  · obtain ⟨hg, h0⟩ := hbad
    have hE : Hid (atR l i = atF l i) := by show _ = _; unfold atR; rw [if_pos ⟨hg, h0⟩]
    have hG := (good_iff l).1 hg
    rw [ckR_zero.2 hG] at hck
    go_enter Tryd.func13, Tryd.ntmps13
    go_wp2_with (go_at_call 10; refine hck.mono ?_; rintro e w1 ⟨rfl, hb1⟩; have hO1 := hO0.below hb1; have hB1 := chain hA0 hb1)
    clear hO0 hA0 hck
    go_loopw [1, 20] (fun x j wr => ∃ (k : Nat) (i' : Int), k ≤ l.length ∧ j = .int .i64 (k : Int) ∧ x = .int .i64 i' ∧ 0 ≤ i' ∧ i' ≤ 9223372036854775807 ∧ atF l i = atF (l.drop k) i' ∧ OB wr w.heap.size 0 0 ∧ Below w.heap.size w wr) (fun _ j _ => l.length - (intOf j).toNat)
    case atStart => exact ⟨0, i, Nat.zero_le _, rfl, rfl, h0, hir, by simp, hO1, hB1⟩
    case round =>
      obtain ⟨k, i', hk, rfl, rfl, h0', hir', he, hO, hB⟩ := hrel
      clear hO1 hB1 h0 hir
      have HE : Hid (atF l i = atF (l.drop k) i') := he
      clear he
      by_cases hlt : k < l.length
      · have hlt' : (k : Int) < (l.length : Int) := by omega
        have hfit := hG.fit l[k] (List.getElem_mem hlt)
        obtain ⟨bb, off, e1, -, e2, e3, e4, e5⟩ := (hr.below hB).at k l[k] (by simp [hlt])
        have HD : Hid (atF (l.drop k) i' = if i' < cpl l[k].t then (l[k].c, l[k].q, l[k].f + i', true) else atF (l.drop (k + 1)) (i' - cpl l[k].t)) := by show _ = _; rw [drop_one hlt]; rfl
        generalize l[k] = r at *
        subst e1
        have hx1 : RB (wr.alloc (.cells #[.int .i64 r.c, .int .i64 r.q, .int .i64 r.f, .string r.t] 41)) wr.heap.size r := heap_alloc_new wr _
        have hb2 : Below wr.heap.size wr (wr.alloc (.cells #[.int .i64 r.c, .int .i64 r.q, .int .i64 r.f, .string r.t] 41)) := (Below.refl _ wr).alloc (Nat.le_refl _) _
        have hO2 := hO.below hb2
        have hB2 := chain hB hb2
        obtain ⟨c0, c1, c2, c3⟩ := hx1.cells
        have hcn := count_any r.t _ (hV.below hB2) hfit.sz
        have hcl := cpl_le r.t
        have hok := hfit.ok
        unfold RunD.Ok at hok
        have hfk := hfit.fk
        have hkk : (r.k : Int) = cpl r.t := by unfold RunD.k; omega
        have hf0 := hfit.f0
        have hwl := heap_lt hO
        clear hO hB hb2 hr
        by_cases hlt2 : i' < cpl r.t
        · have HF : Hid (atR l i = (r.c, r.q, r.f + i', true)) := by show _ = _; rw [hE.out, HE.out, HD.out, if_pos hlt2]
          clear HE HD hE
          go_upto_region 8 with (go_at_call 36; refine hcn.mono ?_; rintro e w3 ⟨rfl, hb3⟩; have hx3 := hx1.below hb3; have hO3 := hO2.below hb3; have hB3 := chain hB2 hb3)
          clear c0 c1 c2 c3
          obtain ⟨c0, c1, c2, c3⟩ := hx3.cells
          obtain ⟨d0, d1, f0, f1⟩ := hO3.facts
          have hne : ¬ wr.heap.size = w.heap.size := by omega
          have hFin : OB ((w3.setCell ⟨w.heap.size, 0, none⟩ (.int .i64 r.c)).setCell ⟨w.heap.size, 1, none⟩ (.int .i64 r.q)).drew w.heap.size r.c r.q := hO3.set r.c r.q
          have hBF := (bl_set2 hB3 (Nat.le_refl _) (.int .i64 r.c) (.int .i64 r.q)).drew
          clear hx3 hO3 hB3 hO2 hx1 hB2
          go_region
          all_goals
            go_wp2_with fail
          all_goals
            refine bodyPost_ret (results_c3 rfl _ _ w.heap.size 29 _ (0, 0) _ rfl hFin Tryd.underlying29 rfl Tryd.sizeOr _ _ rfl rfl) rfl ?_
            rw [HF.out]
            exact ⟨rfl, hBF⟩
        · have HF : Hid (atF l i = atF (l.drop (k + 1)) (i' - cpl r.t)) := by show _ = _; rw [HE.out, HD.out, if_neg hlt2]
          clear HE HD
          go_wp2_with (go_at_call 36; refine hcn.mono ?_; rintro e w3 ⟨rfl, hb3⟩; have hO3 := hO2.below hb3; have hB3 := chain hB2 hb3)
          refine ⟨⟨k + 1, i' - cpl r.t, by omega, by simp, rfl, by omega, by omega, HF.out, hO3, hB3⟩, ?_⟩
          simp [intOf]
          omega
      · obtain rfl : k = l.length := by omega
        have HF : Hid (atR l i = (0, 0, 0, false)) := by show _ = _; rw [hE.out, HE.out, List.drop_length]; rfl
        clear HE hE hr
        obtain ⟨d0, d1, f0, f1⟩ := hO.facts
        have hFin := hO.set 0 0
        have hBF := bl_set2 hB (Nat.le_refl _) (.int .i64 0) (.int .i64 0)
        go_wp2_with fail
        refine bodyPost_ret (results_c3 rfl _ _ w.heap.size 29 _ (0, 0) _ rfl hFin Tryd.underlying29 rfl Tryd.sizeOr _ _ rfl rfl) rfl ?_
        rw [HF.out]
        exact ⟨rfl, hBF⟩
  · have HF : Hid (atR l i = (0, 0, 0, false)) := by show _ = _; unfold atR; rw [if_neg hbad]
    clear hr
    cases hg : ckG [] none l with
    | false =>
      have e1 : ckR l = 120 := by unfold ckR; rw [hg]; rfl
      rw [e1] at hck
      clear e1 hg hbad
      go_enter Tryd.func13, Tryd.ntmps13
      go_wp2_with (go_at_call 10; refine hck.mono ?_; rintro e w1 ⟨rfl, hb1⟩; have hO1 := hO0.below hb1; have hB1 := chain hA0 hb1; obtain ⟨d0, d1, f0, f1⟩ := hO1.facts; have hFin := hO1.set 0 0; have hBF := bl_set2 hB1 (Nat.le_refl _) (.int .i64 0) (.int .i64 0))
      refine bodyPost_ret (results_c3 rfl _ _ w.heap.size 29 _ (0, 0) _ rfl hFin Tryd.underlying29 rfl Tryd.sizeOr _ _ rfl rfl) rfl ?_
      rw [HF.out]
      exact ⟨rfl, hBF⟩
    | true =>
      have hneg : i < 0 := Int.not_le.1 (fun h => hbad ⟨hg, h⟩)
      rw [ckR_zero.2 ((good_iff l).1 hg)] at hck
      clear hg hbad
      go_enter Tryd.func13, Tryd.ntmps13
      go_wp2_with (go_at_call 10; refine hck.mono ?_; rintro e w1 ⟨rfl, hb1⟩; have hO1 := hO0.below hb1; have hB1 := chain hA0 hb1; obtain ⟨d0, d1, f0, f1⟩ := hO1.facts; have hFin := hO1.set 0 0; have hBF := bl_set2 hB1 (Nat.le_refl _) (.int .i64 0) (.int .i64 0))
      refine bodyPost_ret (results_c3 rfl _ _ w.heap.size 29 _ (0, 0) _ rfl hFin Tryd.underlying29 rfl Tryd.sizeOr _ _ rfl rfl) rfl ?_
      rw [HF.out]
      exact ⟨rfl, hBF⟩
end Go.Proofs.YtnfnacjadmhclaaDoor

/-
  The contract of slices.ContainsFunc with the function that Apply hands to it.
-/
namespace Go.Proofs.YtnfnacjadmhclaaDoor
open Go.WideShapes Go.RowKit Go.ChangeShapes Go.ChangeAt Go.PlainAid

/-- Is a run of this origin? -/
def orQ (c q : Int) (r : RunD) : Bool := decide (r.c = c) && decide (r.q = q)

set_option maxRecDepth 20000 in
set_option maxHeartbeats 1000000 in
theorem apply1_any (r : RunD) (b : Nat) (c q : Int) (w : World) (hO : OB w b c q) :
    Calls Tryd.prog 43 #[r.v, .pointer (some ⟨b, 0, none⟩)] w fun e w' => e = .returned (.bool (orQ c q r)) ∧ Below w.heap.size w w' := by
  have hx : RB (w.alloc (.cells #[.int .i64 r.c, .int .i64 r.q, .int .i64 r.f, .string r.t] 41)) w.heap.size r := heap_alloc_new w _
  have hb : Below w.heap.size w (w.alloc (.cells #[.int .i64 r.c, .int .i64 r.q, .int .i64 r.f, .string r.t] 41)) := (Below.refl _ w).alloc (Nat.le_refl _) _
  have hO1 := hO.below hb
  obtain ⟨c0, c1, c2, c3⟩ := hx.cells
  obtain ⟨d0, d1, -, -⟩ := hO1.facts
  unfold RunD.v
  by_cases h1 : r.c = c
  · by_cases h2 : r.q = q
    · have HF : Hid (orQ c q r = true) := by show _ = _; simp [orQ, h1, h2]
      subst h1 h2
      clear hO hO1 hx
      go_enter Tryd.func43, Tryd.ntmps43
      go_wp2_with fail
      go_ret
      exact ⟨ret_b HF.out.symm, hb⟩
    · have HF : Hid (orQ c q r = false) := by show _ = _; simp [orQ, h2]
      have h2' : (r.q == q) = false := beq_eq_false_iff_ne.2 h2
      subst h1
      clear hO hO1 hx
      go_enter Tryd.func43, Tryd.ntmps43
      go_wp2_with fail
      go_ret
      exact ⟨ret_b HF.out.symm, hb⟩
  · have HF : Hid (orQ c q r = false) := by show _ = _; simp [orQ, h1]
    have h1' : (r.c == c) = false := beq_eq_false_iff_ne.2 h1
    clear hO hO1 hx
    go_enter Tryd.func43, Tryd.ntmps43
    go_wp2_with fail
    go_ret
    exact ⟨ret_b HF.out.symm, hb⟩

set_option maxRecDepth 20000 in
set_option maxHeartbeats 1000000 in
theorem index_any (v : Value) (l : List RunD) (b : Nat) (c q : Int) (w : World) (hr : RdN w v l) (hm : l.length ≤ 1125899906842624) (hO : OB w b c q) :
    Calls Tryd.prog 59 #[v, .func (.func 43) #[] #[.pointer (some ⟨b, 0, none⟩)]] w fun e w' => ∃ z : Int, e = .returned (.int .i64 z) ∧ decide (0 ≤ z) = l.any (orQ c q) ∧ Below w.heap.size w w' := by
  obtain ⟨ao, cp, hv, -⟩ := id hr
  subst hv
  go_enter Tryd.func59, Tryd.ntmps59
  go_wp2_with fail
  go_loopw [8] (fun i wr => ∃ (k : Nat), k ≤ l.length ∧ i = .int .i64 (k : Int) ∧ l.any (orQ c q) = (l.drop k).any (orQ c q) ∧ Below w.heap.size w wr) (fun i _ => l.length - (intOf i).toNat)
  case atStart => exact ⟨0, Nat.zero_le _, rfl, by simp, Below.refl _ _⟩
  case round =>
    obtain ⟨k, hk, rfl, he, hB⟩ := hrel
    have HE : Hid (l.any (orQ c q) = (l.drop k).any (orQ c q)) := he
    clear he
    by_cases hlt : k < l.length
    · have hlt' : (k : Int) < (l.length : Int) := by omega
      obtain ⟨bb, off, e1, -, e2, e3, e4, e5⟩ := (hr.below hB).at k l[k] (by simp [hlt])
      have HD : Hid ((l.drop k).any (orQ c q) = (orQ c q l[k] || (l.drop (k + 1)).any (orQ c q))) := by show _ = _; rw [drop_one hlt]; rfl
      generalize l[k] = r at *
      subst e1
      have hc := apply1_any r b c q wr (hO.below hB)
      unfold RunD.v at hc
      clear hr hO
      cases hq : orQ c q r
      · have HF : Hid (l.any (orQ c q) = (l.drop (k + 1)).any (orQ c q)) := by show _ = _; rw [HE.out, HD.out, hq]; rfl
        rw [hq] at hc
        clear HE HD hq
        go_wp2_with fail
        refine hc.mono ?_
        rintro e w1 ⟨rfl, hb1⟩
        go_wp2_with fail
        refine ⟨⟨k + 1, by omega, by simp, HF.out, chain hB hb1⟩, ?_⟩
        simp [intOf]
        omega
      · have HF : Hid (l.any (orQ c q) = true) := by show _ = _; rw [HE.out, HD.out, hq]; rfl
        rw [hq] at hc
        clear HE HD hq
        go_wp2_with fail
        refine hc.mono ?_
        rintro e w1 ⟨rfl, hb1⟩
        go_wp2_with fail
        go_ret
        exact ⟨(k : Int), rfl, by rw [HF.out]; simp, chain hB hb1⟩
    · obtain rfl : k = l.length := by omega
      have HF : Hid (l.any (orQ c q) = false) := by show _ = _; rw [HE.out, List.drop_length]; rfl
      clear HE hr hO
      go_wp2_with fail
      go_ret
      exact ⟨-1, rfl, by rw [HF.out]; rfl, hB⟩

set_option maxRecDepth 20000 in
set_option maxHeartbeats 1000000 in
theorem contains_any (v : Value) (l : List RunD) (b : Nat) (c q : Int) (w : World) (hr : RdN w v l) (hm : l.length ≤ 1125899906842624) (hO : OB w b c q) :
    Calls Tryd.prog 42 #[v, .func (.func 43) #[] #[.pointer (some ⟨b, 0, none⟩)]] w fun e w' => e = .returned (.bool (l.any (orQ c q))) ∧ Below w.heap.size w w' := by
  have hI := index_any v l b c q w hr hm hO
  obtain ⟨ao, cp, hv, -⟩ := id hr
  subst hv
  clear hr hO
  go_enter Tryd.func42, Tryd.ntmps42
  go_wp2_with (go_at_call 59; refine hI.mono ?_; rintro e w1 ⟨z, rfl, hz, hb1⟩)
  go_ret
  exact ⟨rfl, hb1⟩
end Go.Proofs.YtnfnacjadmhclaaDoor
