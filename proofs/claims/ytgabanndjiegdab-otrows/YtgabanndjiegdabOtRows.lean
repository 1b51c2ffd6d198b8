/-
  Proved: a delta behind two, one behind the other, is the delta behind both as one (the law OtRows), for every input.
-/
import Derived.Test.YtgabanndjiegdabOtRa
import Derived.Test.YtgabanndjiegdabDArg
import Derived.BigQuiet
import Derived.ChangeOld
import Derived.ShutString
namespace Go.Proofs.Ytgabanndjiegdab.otRows
open Go.RowKit Go.ChangeShapes Go.WideShapes Go.ChangeAt Go.PlainAid

theorem row_val {v vA vB vC : Value} {f : Bool} (h : v.cells.toList = [vA, vB, vC, .bool f]) : v = .agg #[vA, vB, vC, .bool f] := by
  cases v <;> simp [Value.cells] at h
  rename_i cs
  congr 1
  exact Array.toList_inj.1 (by simpa using h)

theorem open_dlv {H : Type} {enc : TypeId × Value → H} {w : World} {spare : Nat → Bool} {held : Bool} {fuel : Nat} {v : Value} {x : DataW H × List MemPlace}
    (h : DataW.trod enc Try.prog w 0 spare held fuel 22 [v] = some x) (hz : ∀ n ∈ x.1.weights Try.prog 22, n ≤ reachBytes) :
    ∃ l : List OpD, RdD w v l ∧ l.length ≤ 4398046511104 ∧ ∀ o ∈ l, o.In ∧ o.Ok := by
  obtain ⟨ao, len, cap, rfl⟩ : ∃ ao len cap, v = .slice ao len cap := by
    rcases Go.Deep.open_slice Try.underlying22 h with ⟨hcs, _⟩ | ⟨a, l, c, m, n, D, Pl, hcs, _⟩
    · simp at hcs
      exact ⟨_, _, _, hcs⟩
    · simp at hcs
      exact ⟨_, _, _, hcs⟩
  exact open_dlz (ao := ao) (len := len) (cap := cap) h hz

set_option maxRecDepth 20000 in
theorem open_row {H : Type} {enc : TypeId × Value → H} {w : World} {spare : Nat → Bool} {held : Bool} {n : Nat} {cs : List Value} {x : DataW H × List MemPlace} (h : DataW.trod enc Try.prog w 0 spare held n 41 cs = some x) (hz : ∀ n ∈ x.1.weights Try.prog 41, n ≤ reachBytes) :
    ∃ (vA vB vC : Value) (f : Bool) (A B C : List OpD), cs = [vA, vB, vC, .bool f] ∧ RdD w vA A ∧ A.length ≤ 4398046511104 ∧ (∀ o ∈ A, o.In ∧ o.Ok) ∧ RdD w vB B ∧ B.length ≤ 4398046511104 ∧ (∀ o ∈ B, o.In ∧ o.Ok) ∧ RdD w vC C ∧ C.length ≤ 4398046511104 ∧ (∀ o ∈ C, o.In ∧ o.Ok) := by
  obtain ⟨xs, m, _, hx, hl, _, hf⟩ := DataW.trod_struct Try.underlying41 h
  have h4 : Try.prog.cellsOf 41 = 4 := by kernel_rfl
  have c3 : Try.prog.cellsOf 4 = 1 := by kernel_rfl
  have c9 : Try.prog.cellsOf 22 = 1 := by kernel_rfl
  rw [h4] at hl
  have hxl : xs.length = 4 := by assumption
  match xs, hxl, cs, hl with
  | [y0, y1, y2, y3], _, [v0, v1, v2, v3], _ =>
    have g0 := hf 0 _ rfl
    have g1 := hf 1 _ rfl
    have g2 := hf 2 _ rfl
    have g3 := hf 3 _ rfl
    simp [c3, c9] at g0 g1 g2 g3
    have z0 : ∀ n ∈ y0.1.weights Try.prog 22, n ≤ reachBytes := fun n hn => hz n (by
      rw [hx]
      simp only [List.map]
      unfold DataW.weights
      rw [Try.underlying41]
      exact DataW.weights_mem_each (j := 0) (t := 22) (d := y0.1) rfl rfl n hn)
    have z1 : ∀ n ∈ y1.1.weights Try.prog 22, n ≤ reachBytes := fun n hn => hz n (by
      rw [hx]
      simp only [List.map]
      unfold DataW.weights
      rw [Try.underlying41]
      exact DataW.weights_mem_each (j := 1) (t := 22) (d := y1.1) rfl rfl n hn)
    have z2 : ∀ n ∈ y2.1.weights Try.prog 22, n ≤ reachBytes := fun n hn => hz n (by
      rw [hx]
      simp only [List.map]
      unfold DataW.weights
      rw [Try.underlying41]
      exact DataW.weights_mem_each (j := 2) (t := 22) (d := y2.1) rfl rfl n hn)
    obtain ⟨A, rA, mA, oA⟩ := open_dlv g0 z0
    obtain ⟨B, rB, mB, oB⟩ := open_dlv g1 z1
    obtain ⟨C, rC, mC, oC⟩ := open_dlv g2 z2
    obtain ⟨f, e3, -⟩ := DataW.trod_bool Try.underlying4 g3
    simp at e3
    exact ⟨v0, v1, v2, f, A, B, C, by rw [e3], rA, mA, oA, rB, mB, oB, rC, mC, oC⟩

set_option maxRecDepth 20000 in
set_option maxHeartbeats 1000000 in
theorem walk (vA vB vC : Value) (f : Bool) (A B C : List OpD) (w : World) (hA : RdD w vA A) (mA : A.length ≤ 4398046511104) (oA : ∀ o ∈ A, o.In ∧ o.Ok) (hB : RdD w vB B) (mB : B.length ≤ 4398046511104) (oB : ∀ o ∈ B, o.In ∧ o.Ok) (hC : RdD w vC C) (mC : C.length ≤ 4398046511104) (oC : ∀ o ∈ C, o.In ∧ o.Ok) :
    Calls Try.prog 5 #[.agg #[vA, vB, vC, .bool f]] w fun e w' => e = .returned (.bool true) ∧ Below w.heap.size w w' := by
  have mA' : A.length ≤ maxLen := by unfold maxLen; omega
  have mB' : B.length ≤ maxLen := by unfold maxLen; omega
  have mC' : C.length ≤ maxLen := by unfold maxLen; omega
  have iA : ∀ o ∈ A, o.In := fun o ho => (oA o ho).1
  have iB : ∀ o ∈ B, o.In := fun o ho => (oB o ho).1
  have iC : ∀ o ∈ C, o.In := fun o ho => (oC o ho).1
  have gA := fun W h => gentle_any vA A W h mA'
  have gB := fun W h => gentle_any vB B W h mB'
  have gC := fun W h => gentle_any vC C W h mC'
  have hb0 : Below w.heap.size w (w.alloc (.cells #[vA, vB, vC, .bool f] 41)) := (Below.refl _ w).alloc (Nat.le_refl _) _
  have hx : (w.alloc (.cells #[vA, vB, vC, .bool f] 41)).heap[w.heap.size]? = some (.cells #[vA, vB, vC, .bool f] 41) := heap_alloc_last w _
  have rA := hA.below hb0
  have rB := hB.below hb0
  have rC := hC.below hb0
  clear mA mB mC hA hB hC oA oB oC
  go_enter Try.func5, Try.ntmps5
  go_upto_region 1 with fail
  generalize w.alloc (.cells #[vA, vB, vC, .bool f] 41) = w0 at *
  have x0 := cell_of_row _ _ 0 _ _ (0, 0) hx
  have x1 := cell_of_row _ _ 1 _ _ (0, 0) hx
  have x2 := cell_of_row _ _ 2 _ _ (0, 0) hx
  have x3 := cell_of_row _ _ 3 _ _ (0, 0) hx
  simp at x0 x1 x2 x3
  clear hx
  go_quiet (fail)
  clear x0 x1 x2 x3
  have hD : Below w0.heap.size w0 (w0.drewN nq) := below_drewN (Below.refl _ _) _
  have rA := rA.below hD
  have rB := rB.below hD
  have rC := rC.below hD
  have hb0 := chain hb0 hD
  clear hD
  generalize w0.drewN nq = w0' at *
  by_cases qA : ∀ o ∈ A, o.k ≠ 3
  · rw [decide_eq_true qA] at gA
    by_cases qB : ∀ o ∈ B, o.k ≠ 3
    · rw [decide_eq_true qB] at gB
      by_cases qC : ∀ o ∈ C, o.k ≠ 3
      · rw [decide_eq_true qC] at gC
        have c1 := fun W h1 h2 => transform_any vA vB f A B W h1 h2 mA' mB' iA iB
        by_cases z1 : (trR f A B).2 = 0
        · obtain ⟨a1, a2, a3, a4, a5⟩ := tr_zero z1
          obtain ⟨x0, x1, -⟩ := tr_good iA iB z1
          have lX : (trR f A B).1.length ≤ maxLen := by have := (kchk_any x1).2; unfold maxLen; omega
          have c2 := fun v W h1 h2 => transform_any v vC f (trR f A B).1 C W h1 h2 lX mC' x0 iC
          have c3 := fun W h1 h2 => compose_any vB vC B C W h1 h2 mB' mC' iB iC
          rw [z1] at c1
          by_cases z2 : (trR f (trR f A B).1 C).2 = 0
          · rw [z2] at c2
            by_cases z3 : (coR B C).2 = 0
            · obtain ⟨k1, k2, k3, k4, k5⟩ := tr_zero z2
              obtain ⟨j1, j2⟩ := rows_same iA iB iC qA qB qC z1 z2 z3
              obtain ⟨y0, y1, -⟩ := tr_good x0 iC z2
              obtain ⟨d0, d1, -⟩ := co_facts iB iC z3
              have lD : (coR B C).1.length ≤ maxLen := by have := (kchk_any d1).2; unfold maxLen; omega
              have lR : (trR f (trR f A B).1 C).1.length ≤ maxLen := by have := (kchk_any y1).2; unfold maxLen; omega
              have c4 := fun v W h1 h2 => transform_any vA v f A (coR B C).1 W h1 h2 mA' lD iA d0
              rw [j1, ← j2] at c4
              rw [z3] at c3
              have sm : ∀ {l : List OpD}, (∀ o ∈ l, o.In) → chk l = 0 → ∀ o ∈ l, o.Sm := fun i h o ho => Nat.le_trans (chk_sm i h o ho) (by decide)
              have c5 := fun W h1 h2 h3 => apart_any vB vC vA B C A W h1 h2 h3 mB' mC' mA' (sm iB a2) (sm iC k2) (sm iA a1) z3 a1
              have cS := fun a b W h1 h2 => same_true a b (trR f (trR f A B).1 C).1 W lR h1 h2
              have lD' : (coR B C).1.length ≤ 3000 := (kchk_any d1).2
              clear a1 a2 a3 a4 a5 x0 x1 k1 k2 k3 k4 k5 j1 j2 y0 y1 d0 d1 sm z1 z2 z3 lR lX lD iA iB iC mA' mB' mC' qA qB qC
              generalize (trR f (trR f A B).1 C).1 = R at *
              generalize (trR f A B).1 = X at *
              generalize (coR B C).1 = D at *
              go_wp2_with fail
              refine (gA _ rA).mono ?_
              rintro e WA ⟨rfl, rfl⟩
              go_wp2_with fail
              refine (gB _ rB).mono ?_
              rintro e WB ⟨rfl, rfl⟩
              go_wp2_with fail
              refine (gC _ rC).mono ?_
              rintro e WC ⟨rfl, rfl⟩
              go_wp2_with fail
              clear gA gB gC
              refine (c1 _ rA rB).mono ?_
              rintro e w1 ⟨u1, rfl, ho1, hb1⟩
              have r1 := rdd_own ho1
              have rA := rA.below hb1
              have rB := rB.below hb1
              have rC := rC.below hb1
              have hb := chain hb0 hb1
              clear c1 ho1 hb1 hb0
              go_wp2_with fail
              refine (c2 _ _ r1 rC).mono ?_
              rintro e w2 ⟨u2, rfl, ho2, hb2⟩
              have r2 := rdd_own ho2
              have rA := rA.below hb2
              have rB := rB.below hb2
              have rC := rC.below hb2
              have hb := chain hb hb2
              clear c2 ho2 hb2 r1
              go_wp2_with fail
              refine (c3 _ rB rC).mono ?_
              rintro e w3 ⟨u3, rfl, ho3, hb3⟩
              have r3 := rdd_own ho3
              have rA := rA.below hb3
              have rB := rB.below hb3
              have rC := rC.below hb3
              have r2 := r2.below hb3
              have hb := chain hb hb3
              clear c3 ho3 hb3
              obtain ⟨ao, cp, rfl, -⟩ := id r3
              go_wp2_with fail
              refine (c4 _ _ rA r3).mono ?_
              rintro e w4 ⟨u4, rfl, ho4, hb4⟩
              have r4 := rdd_own ho4
              have rA := rA.below hb4
              have rB := rB.below hb4
              have rC := rC.below hb4
              have r2 := r2.below hb4
              have hb := chain hb hb4
              clear c4 ho4 hb4 r3
              by_cases hd : D.length = 0
              · have hd' : (D.length : Int) = 0 := by omega
                generalize D.length = dl at *
                subst hd
                clear c5
                go_wp2_with (first | (go_at_call 10; refine (cS _ _ _ r2 r4).mono ?_; rintro e w5 ⟨rfl, hb5⟩) | (go_at_call 8; refine (live10_any _).mono ?_; rintro e w9 ⟨rfl, hb9⟩))
                go_ret
                exact ⟨rfl, chain (chain hb hb5) hb9⟩
              · have hd' : ¬ (D.length : Int) = 0 := by omega
                generalize D.length = dl at *
                go_wp2_with fail
                refine (c5 _ rB rC rA).mono ?_
                rintro e w5 ⟨⟨bb, rfl⟩, hb5⟩
                have r2 := r2.below hb5
                have r4 := r4.below hb5
                have hb := chain hb hb5
                clear c5 hb5 rA rB rC
                cases bb
                · go_wp2_with (go_at_call 8; refine (live10_any _).mono ?_; rintro e w9 ⟨rfl, hb9⟩)
                  go_ret
                  exact ⟨rfl, chain hb hb9⟩
                · go_wp2_with (first | (go_at_call 10; refine (cS _ _ _ r2 r4).mono ?_; rintro e w6 ⟨rfl, hb6⟩) | (go_at_call 8; refine (live10_any _).mono ?_; rintro e w9 ⟨rfl, hb9⟩))
                  go_ret
                  exact ⟨rfl, chain (chain hb hb6) hb9⟩
            · generalize (coR B C).2 = e3 at *
              have z3' : (e3 != 0) = true := by simpa using z3
              generalize (coR B C).1 = D at *
              generalize (trR f (trR f A B).1 C).1 = R at *
              generalize (trR f A B).1 = X at *
              clear a1 a2 a3 a4 a5 x0 x1 lX iA iB iC mA' mB' mC' qA qB qC z1 z2
              go_wp2_with fail
              refine (gA _ rA).mono ?_
              rintro e WA ⟨rfl, rfl⟩
              go_wp2_with fail
              refine (gB _ rB).mono ?_
              rintro e WB ⟨rfl, rfl⟩
              go_wp2_with fail
              refine (gC _ rC).mono ?_
              rintro e WC ⟨rfl, rfl⟩
              go_wp2_with fail
              clear gA gB gC
              refine (c1 _ rA rB).mono ?_
              rintro e w1 ⟨u1, rfl, ho1, hb1⟩
              have r1 := rdd_own ho1
              have rB := rB.below hb1
              have rC := rC.below hb1
              have hb := chain hb0 hb1
              clear c1 ho1 hb1 hb0 rA
              go_wp2_with fail
              refine (c2 _ _ r1 rC).mono ?_
              rintro e w2 ⟨u2, rfl, ho2, hb2⟩
              have rB := rB.below hb2
              have rC := rC.below hb2
              have hb := chain hb hb2
              clear c2 ho2 hb2 r1
              go_wp2_with fail
              refine (c3 _ rB rC).mono ?_
              rintro e w3 ⟨u3, rfl, ho3, hb3⟩
              have hb := chain hb hb3
              clear c3 ho3 hb3 rB rC
              go_wp2_with (go_at_call 8; refine (live10_any _).mono ?_; rintro e w9 ⟨rfl, hb9⟩)
              go_ret
              exact ⟨rfl, chain hb hb9⟩
          · generalize (coR B C).2 = e3 at *
            generalize (coR B C).1 = D at *
            generalize (trR f (trR f A B).1 C).2 = e2 at *
            have z2' : (e2 != 0) = true := by simpa using z2
            generalize (trR f (trR f A B).1 C).1 = R at *
            generalize (trR f A B).1 = X at *
            clear a1 a2 a3 a4 a5 x0 x1 lX iA iB iC mA' mB' mC' qA qB qC z1
            go_wp2_with fail
            refine (gA _ rA).mono ?_
            rintro e WA ⟨rfl, rfl⟩
            go_wp2_with fail
            refine (gB _ rB).mono ?_
            rintro e WB ⟨rfl, rfl⟩
            go_wp2_with fail
            refine (gC _ rC).mono ?_
            rintro e WC ⟨rfl, rfl⟩
            go_wp2_with fail
            clear gA gB gC
            refine (c1 _ rA rB).mono ?_
            rintro e w1 ⟨u1, rfl, ho1, hb1⟩
            have r1 := rdd_own ho1
            have rB := rB.below hb1
            have rC := rC.below hb1
            have hb := chain hb0 hb1
            clear c1 ho1 hb1 hb0 rA
            go_wp2_with fail
            refine (c2 _ _ r1 rC).mono ?_
            rintro e w2 ⟨u2, rfl, ho2, hb2⟩
            have rB := rB.below hb2
            have rC := rC.below hb2
            have hb := chain hb hb2
            clear c2 ho2 hb2 r1
            go_wp2_with fail
            refine (c3 _ rB rC).mono ?_
            rintro e w3 ⟨u3, rfl, ho3, hb3⟩
            have hb := chain hb hb3
            clear c3 ho3 hb3 rB rC
            go_wp2_with (go_at_call 8; refine (live10_any _).mono ?_; rintro e w9 ⟨rfl, hb9⟩)
            go_ret
            exact ⟨rfl, chain hb hb9⟩
        · generalize (trR f A B).2 = e1 at *
          have z1' : (e1 != 0) = true := by simpa using z1
          generalize (trR f A B).1 = X at *
          clear iA iB iC mA' mB' mC' qA qB qC
          go_wp2_with fail
          refine (gA _ rA).mono ?_
          rintro e WA ⟨rfl, rfl⟩
          go_wp2_with fail
          refine (gB _ rB).mono ?_
          rintro e WB ⟨rfl, rfl⟩
          go_wp2_with fail
          refine (gC _ rC).mono ?_
          rintro e WC ⟨rfl, rfl⟩
          go_wp2_with fail
          clear gA gB gC
          refine (c1 _ rA rB).mono ?_
          rintro e w1 ⟨u1, rfl, ho1, hb1⟩
          have hb := chain hb0 hb1
          clear c1 ho1 hb1 hb0 rA
          go_wp2_with (go_at_call 8; refine (live10_any _).mono ?_; rintro e w9 ⟨rfl, hb9⟩)
          go_ret
          exact ⟨rfl, chain hb hb9⟩
      · rw [decide_eq_false qC] at gC
        clear qA qB qC iA iB iC mA' mB' mC'
        go_wp2_with fail
        refine (gA _ rA).mono ?_
        rintro e WA ⟨rfl, rfl⟩
        go_wp2_with fail
        refine (gB _ rB).mono ?_
        rintro e WB ⟨rfl, rfl⟩
        go_wp2_with fail
        refine (gC _ rC).mono ?_
        rintro e WC ⟨rfl, rfl⟩
        go_wp2_with (go_at_call 8; refine (live10_any _).mono ?_; rintro e w9 ⟨rfl, hb9⟩)
        go_ret
        exact ⟨rfl, chain hb0 hb9⟩
    · rw [decide_eq_false qB] at gB
      clear qA qB iA iB iC mA' mB' mC'
      go_wp2_with fail
      refine (gA _ rA).mono ?_
      rintro e WA ⟨rfl, rfl⟩
      go_wp2_with fail
      refine (gB _ rB).mono ?_
      rintro e WB ⟨rfl, rfl⟩
      go_wp2_with (go_at_call 8; refine (live10_any _).mono ?_; rintro e w9 ⟨rfl, hb9⟩)
      go_ret
      exact ⟨rfl, chain hb0 hb9⟩
  · rw [decide_eq_false qA] at gA
    clear qA iA iB iC mA' mB' mC'
    go_wp2_with fail
    refine (gA _ rA).mono ?_
    rintro e WA ⟨rfl, rfl⟩
    go_wp2_with (go_at_call 8; refine (live10_any _).mono ?_; rintro e w9 ⟨rfl, hb9⟩)
    go_ret
    exact ⟨rfl, chain hb0 hb9⟩

theorem own : ownKnob Try.prog.godebug = none := by kernel_rfl
theorem laidOut : laidOutB Try.prog = true := by kernel_rfl

set_option maxRecDepth 20000 in
theorem contract (H : Type) (enc : TypeId × Value → H) (W : World) (base : Nat) (args : Array Value) (ds gs : List (DataW H)) (before : List MemPlace)
    (hval : ∀ (j : Nat) t v, Try.f5.params[j]? = some t → args[j]? = some v → Value.okWide Try.prog W .any base t v)
    (hW : DataW.Whole enc Try.prog Try.f5.params.toList Rows.otRowsSpec.vars false W args.toList ds gs before) (hsz0 : (DataW.weightsEach Try.prog (Try.f5.params.toList ++ Rows.otRowsSpec.plain.varTypes Try.prog) (ds ++ gs)).all (· ≤ reachBytes) = true) :
    Calls Try.prog 5 args W fun e W' => ∃ v, e = .returned v ∧ Rows.otRowsSpec.post enc Try.prog Try.f5 false true false false W args v W' := by
  have hW' := hW
  obtain ⟨p, q, hA0, hV, rfl, hfz, hnd⟩ := hW
  have hA : DataW.TrodAll enc Try.prog W 0 (fun _ => true) true Try.f5.params.toList args.toList ds p := hA0
  rw [Try.params5] at hA hval hsz0
  obtain ⟨v0, vs0, d0, ds0, p0, q0, hargs, rfl, rfl, h0, r0⟩ := trodAll_cons hA
  obtain ⟨rfl, rfl, rfl⟩ := trodAll_nil r0
  obtain rfl : args = #[v0] := by cases args; simp_all
  obtain ⟨rfl, rfl⟩ := trodVars_none hV
  have k0 := h0
  have lt0 : ∀ x ∈ p0, x.block < W.heap.size := by obtain ⟨m, hm⟩ := k0; exact DataW.trod_lt m _ _ _ hm
  obtain ⟨fuel0, hf0⟩ := h0
  have z0 : ∀ n ∈ d0.weights Try.prog 41, n ≤ reachBytes := fun n hn => by simpa using List.all_eq_true.1 hsz0 n (DataW.weights_mem_each (j := 0) (t := 41) (d := d0) rfl rfl n hn)
  obtain ⟨vA, vB, vC, f, A, B, C, hc0, rA, mA, oA, rB, mB, oB, rC, mC, oC⟩ := open_row hf0 z0
  obtain rfl := row_val hc0
  clear hA0
  simp only [List.append_nil] at hW'
  refine (walk vA vB vC f A B C W rA mA oA rB mB oB rC mC oC).mono fun e W' ⟨he, bel⟩ => ?_
  subst he
  exact ⟨_, rfl, _, _, _, [], _, [], hW', trodAll_mk1 (shut_bool Try.underlying4 _), (trodAll_cons_mk (Below.trod laidOut (by kernel_rfl) (of_decide_eq_true (by kernel_rfl)) k0 bel lt0) trodAll_mk0), rfl, bel.frame _, fun h => by cases h⟩

set_option maxRecDepth 100000 in
theorem lifted (os : Os) (started : os.Started) (H : Type) (enc : TypeId × Value → H) :
    ReturnsInHanded {} Try.checked os 5 .any (Rows.otRowsSpec.pre6 enc Try.prog Try.f5 Rows.otRowsRow.domain false) (Rows.otRowsSpec.post enc Try.prog Try.f5 false true false false) := by
  refine returnsInHanded_of_change_sized (C := Try.checked) own started (by kernel_rfl) Try.func5
    (ChangeSpec.witness6 (enc := enc) (C := Try.checked) false ⟨#[], #[.agg #[.slice none 0 0, .slice none 0 0, .slice none 0 0, .bool false]], []⟩ 8 (by kernel_rfl) (by kernel_rfl) (by kernel_rfl) (by kernel_rfl)) ?_
  intro W base args ds gs before hval hW _ hsz _
  exact contract H enc W base args ds gs before hval hW hsz

theorem holds : Rows.OtRowsSaid :=
  OpenClaim.holds_of_wide 5 Try.f5 rfl rfl rfl rfl rfl rfl rfl ⟨rfl, rfl, rfl, rfl, rfl⟩ rfl rfl rfl rfl rfl (by kernel_rfl) Try.func5 (by kernel_rfl)
    (of_decide_eq_true (by kernel_rfl)) (by unfold Func.isWrapper; first | (rw [if_pos (by decide +kernel)]; kernel_rfl) | (rw [if_neg (by decide +kernel)]; exact ⟨rfl, rfl⟩))
    (fun os started H enc _ => lifted os started H enc)
end Go.Proofs.Ytgabanndjiegdab.otRows
namespace Go.Proofs.Ytgabanndjiegdab
theorem otRows_holds : Rows.OtRowsSaid := otRows.holds
#print axioms otRows_holds
end Go.Proofs.Ytgabanndjiegdab
