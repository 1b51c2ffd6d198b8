/-
  The reference of record: Form.
-/
import Derived.Test.YtdheddgdlindmaaRfB
namespace Go.Proofs.Ytdheddgdlindmaa
open Go.ChangeShapes Go.WideShapes Go.ChangeAt Go.RowKit Go.PlainAid

/-- It has a form, but for its keys. -/
def frR (S : StD) : Bool := (decide (1 ≤ S.nc) && decide (S.nc ≤ 1000000)) && ((decide (1 ≤ S.nb) && decide (S.nb ≤ 1000000)) && (rwB CoD.n coF 300 (S.nc - 1) S.cs && (rwB BrD.i brF 20 (S.nb - 1) S.bs && rwB CuD.c cuF 8 8 S.us)))
def StD.Sm (S : StD) : Prop := ∀ x ∈ S.cs, (∀ o ∈ x.d, o.Sm) ∧ ∀ o ∈ x.o, o.Sm
set_option maxRecDepth 20000 in
set_option maxHeartbeats 2000000 in
theorem form15_any (S : StD) (v1 v2 v3 : Value) (w : World) (hr : RdSt w v1 v2 v3 S) (hF : S.Fit) (hS : S.Sm) :
    Calls Try.prog 24 #[.agg (S.fs v1 v2 v3)] w fun e w' => e = .returned (.bool (frR S)) ∧ Below w.heap.size w w' := by
  have hal := alloc_bR w (.cells (S.fs v1 v2 v3) 26)
  have hx := sb_new w S v1 v2 v3
  have hr1 := hr.below hal
  obtain ⟨a1, k1, e1, -⟩ := hr.c
  subst e1
  obtain ⟨a2, k2, e2, -⟩ := hr.b
  subst e2
  obtain ⟨a3, k3, e3, -⟩ := hr.u
  subst e3
  generalize hw1 : w.alloc (.cells (S.fs (.slice a1 S.cs.length k1) (.slice a2 S.bs.length k2) (.slice a3 S.us.length k3)) 26) = w1 at *
  have c1 := within15_any S.nc 1 1000000 w1
  have c2 := within15_any S.nb 1 1000000 w1
  have c3 := fun h0 h1 => commits15_any S _ (.slice a2 S.bs.length k2) (.slice a3 S.us.length k3) w1 hr1.c hF.cs hS h0 h1
  have c4 := fun W (h : Below w1.heap.size w1 W) h0 h1 => branches15_any S (.slice a1 S.cs.length k1) _ (.slice a3 S.us.length k3) W (hr1.b.below h) hF.bs h0 h1
  have c5 := fun W (h : Below w1.heap.size w1 W) => clients15_any S (.slice a1 S.cs.length k1) (.slice a2 S.bs.length k2) _ W (hr1.u.below h)
  have hX : ∀ W', Below w1.heap.size w1 W' → _ := fun W' h => cellsSB (hx.below h)
  obtain ⟨x0, x1, x2, x3, x4⟩ := hX w1 (Below.refl _ _)
  obtain ⟨R, HR⟩ : ∃ R, Hid (frR S = R) := ⟨_, rfl⟩
  rw [HR.out]
  have Hr : Hid (((decide (1 ≤ S.nc) && decide (S.nc ≤ 1000000)) && ((decide (1 ≤ S.nb) && decide (S.nb ≤ 1000000)) && (rwB CoD.n coF 300 (S.nc - 1) S.cs && (rwB BrD.i brF 20 (S.nb - 1) S.bs && rwB CuD.c cuF 8 8 S.us)))) = R) := HR
  simp only [StD.fs] at *
  have hb1 : (decide (1 ≤ S.nc) && decide (S.nc ≤ 1000000)) = true → 1 ≤ S.nc ∧ S.nc ≤ 1000000 := fun h => by simpa using h
  have hb2 : (decide (1 ≤ S.nb) && decide (S.nb ≤ 1000000)) = true → 1 ≤ S.nb ∧ S.nb ≤ 1000000 := fun h => by simpa using h
  generalize (decide (1 ≤ S.nc) && decide (S.nc ≤ 1000000)) = t1 at *
  generalize (decide (1 ≤ S.nb) && decide (S.nb ≤ 1000000)) = t2 at *
  generalize rwB CoD.n coF 300 (S.nc - 1) S.cs = t3 at *
  generalize rwB BrD.i brF 20 (S.nb - 1) S.bs = t4 at *
  generalize rwB CuD.c cuF 8 8 S.us = t5 at *
  clear HR hr hF hS hr1 hx
  go_enter Try.func24, Try.ntmps24
  go_wp2_with fail
  refine c1.mono ?_
  rintro e wx ⟨rfl, rfl⟩
  cases t1 with
  | false =>
    have e : R = false := Hr.out.symm
    subst e
    clear Hr
    go_wp2_with fail
    go_ret
    exact ⟨rfl, hal⟩
  | true =>
    rw [Bool.true_and] at Hr
    go_wp2_with fail
    refine c2.mono ?_
    rintro e wy ⟨rfl, rfl⟩
    cases t2 with
    | false =>
      have e : R = false := Hr.out.symm
      subst e
      clear Hr
      go_wp2_with fail
      go_ret
      exact ⟨rfl, hal⟩
    | true =>
      rw [Bool.true_and] at Hr
      have q1 : 1 ≤ S.nc ∧ S.nc ≤ 1000000 := by first | exact hb1 rfl | exact hb1 trivial
      have q2 : 1 ≤ S.nb ∧ S.nb ≤ 1000000 := by first | exact hb2 rfl | exact hb2 trivial
      go_wp2_with fail
      refine (c3 q1.1 q1.2).mono ?_
      rintro e w3 ⟨rfl, hb3⟩
      clear x0 x1 x2 x3 x4
      obtain ⟨x0, x1, x2, x3, x4⟩ := hX w3 hb3
      cases t3 with
      | false =>
        have e : R = false := Hr.out.symm
        subst e
        clear Hr
        go_wp2_with fail
        go_ret
        exact ⟨rfl, hal.trans (hb3.mono hal.size)⟩
      | true =>
        rw [Bool.true_and] at Hr
        go_wp2_with fail
        refine (c4 w3 hb3 q2.1 q2.2).mono ?_
        rintro e w4 ⟨rfl, hb4⟩
        have hb34 := hb3.trans (hb4.mono hb3.size)
        clear x0 x1 x2 x3 x4
        obtain ⟨x0, x1, x2, x3, x4⟩ := hX w4 hb34
        cases t4 with
        | false =>
          have e : R = false := Hr.out.symm
          subst e
          clear Hr
          go_wp2_with fail
          go_ret
          exact ⟨rfl, hal.trans (hb34.mono hal.size)⟩
        | true =>
          rw [Bool.true_and] at Hr
          have e := Hr.out
          subst e
          clear Hr
          go_wp2_with fail
          refine (c5 w4 hb34).mono ?_
          rintro e w5 ⟨rfl, hb5⟩
          have hb35 := hb34.trans (hb5.mono hb34.size)
          go_wp2_with fail
          go_ret
          exact ⟨rfl, hal.trans (hb35.mono hal.size)⟩
/-- A form whose keys tell all its numbers. -/
theorem rwG_last {α : Type} {num : α → Int} {right : α → Bool} {last M : Int} : ∀ {l : List α} {a : Int}, rwG num right (min last M) a l = (rwG num right last a l && l.all fun x => decide (num x ≤ M))
  | [], _ => rfl
  | x :: l, a => by
    rw [rwG, rwG]
    by_cases h1 : num x ≤ a ∨ last < num x ∨ right x = false
    · rw [if_pos h1, if_pos (h1.imp id (fun h => h.imp (fun h => by omega) id))]
      rfl
    · rw [if_neg h1]
      by_cases h2 : num x ≤ M
      · rw [if_neg (fun h => h1 (h.imp id (fun h => h.imp (fun h => by omega) id))), rwG_last, List.all_cons, decide_eq_true h2, Bool.true_and]
      · rw [if_pos (.inr (.inl (by omega))), List.all_cons, decide_eq_false h2, Bool.false_and, Bool.and_false]
theorem rwB_last {α : Type} {num : α → Int} {right : α → Bool} {most : Nat} {last M : Int} {l : List α} : rwB num right most (min last M) l = (rwB num right most last l && l.all fun x => decide (num x ≤ M)) := by
  unfold rwB
  rw [rwG_last, Bool.and_assoc]
theorem stF_eq (S : StD) : stF S = (frR S && (S.cs.all (fun x => decide (x.n ≤ 65535)) && S.bs.all (fun x => decide (x.i ≤ 65535)))) := by
  unfold stF frR
  rw [rwB_last, rwB_last]
  have e : wtl 1 1000000 [S.nc, S.nb] = ((decide (1 ≤ S.nc) && decide (S.nc ≤ 1000000)) && (decide (1 ≤ S.nb) && decide (S.nb ≤ 1000000))) := by simp [wtl]
  rw [e]
  cases (decide (1 ≤ S.nc) && decide (S.nc ≤ 1000000)) <;> cases (decide (1 ≤ S.nb) && decide (S.nb ≤ 1000000)) <;> cases rwB CoD.n coF 300 (S.nc - 1) S.cs <;> cases rwB BrD.i brF 20 (S.nb - 1) S.bs <;> cases rwB CuD.c cuF 8 8 S.us <;> cases (S.cs.all fun x => decide (x.n ≤ 65535)) <;> cases (S.bs.all fun x => decide (x.i ≤ 65535)) <;> rfl
end Go.Proofs.Ytdheddgdlindmaa
