/-
  commits.
-/
import Derived.Test.YtblhmfkohbdmeaaWLawJ
namespace Go.Proofs.Ytblhmfkohbdmeaa
open Go.RowKit Go.Maps

set_option maxRecDepth 20000 in
theorem run_copyW {w : World} {v : Value} {l : List WrD} (hv : RdWr w v l) (hl : l.length ≤ 5864062014800) (ty : TypeId) : ∃ v' w', (Builtin.append_ #[48, 48] ty #[.slice none 0 0, v]).run Try.prog w = .ok v' w' ∧ RdWT w' v' l ∧ Below w.heap.size w w' := by
  obtain ⟨i0, hi, hz0, hz1, hz2⟩ := info_parts Try.infoWr
  obtain ⟨ao, cp, rfl, ⟨hcp, hnn⟩, h3⟩ := id hv
  have hn0 : w.ownsRow w.heap.size 57 2 (.slice none 0 0) 0 [] := World.ownsRow_nil _ _ _ _
  cases ao with
  | none =>
    have hc0 := hnn rfl
    have hl0 : l.length = 0 := by omega
    have : l = [] := List.eq_nil_of_length_eq_zero hl0
    subst this
    subst hc0
    exact ⟨_, _, run_append_owned_none w w.heap.size 48 ty 57 i0 2 Try.underlying48 hi _ 0 [] hn0, RdWT.nil w, Below.refl _ _⟩
  | some a =>
    have hsrc : ∀ (j : Nat) (u : Value), (wcs l)[j]? = some u → w.cell? (a.add j) = some u := by
      by_cases hz : l.length = 0
      · have : l = [] := List.eq_nil_of_length_eq_zero hz
        subst this
        intro j u hu
        simp [wcs_nil] at hu
      · obtain ⟨b, off, e, _⟩ := h3 0 (l[0]'(by omega)) (by simp)
        cases e
        exact wcs_src hv
    obtain ⟨v', w', hr, h2, h4, _, _⟩ := run_append_own_at (P := Try.prog) w w.heap.size 48 ty 57 i0 _ 2 24 Try.underlying48 hi hz0 hz1 hz2 rfl (by decide) (.slice none 0 0) 0 [] hn0 a l.length cp (wcs l) (wcs_len l) hsrc (wcs_one l) (by unfold maxLen; omega) (by omega) (Nat.le_refl _)
    rw [Nat.zero_add, List.nil_append] at h2
    exact ⟨v', w', hr, rdwt_own h2, (Below.refl _ _).grown h4 (Nat.le_refl _) (by intro k hk; cases hk)⟩

section
variable {ops : Array Oper} {rest : List Oper} {o : Oper} {a : Act} {w : World} {Q : Exit → Act → World → Prop}
theorem wpList_copyW (hg : o.guard = none) (sx x : Operand) (hop : o.op = Op.call { callee := Callee.builtin Builtin.append, args := #[sx, x], argTypes := #[48, 48] }) {v : Value} {l : List WrD} (hs : a.eval sx = .slice none 0 0) (hx : a.eval x = v) (hv : RdWr w v l) (hl : l.length ≤ 5864062014800)
    (hK : ∀ v' w', RdWT w' v' l → Below w.heap.size w w' → wpList Try.prog ops Q rest (a.put o.dst v') w') : wpList Try.prog ops Q (o :: rest) a w := by
  refine wpList_plain hg fun K hK' => ?_
  obtain ⟨v', w', hrun, h1, h2⟩ := run_copyW hv hl o.type
  unfold Oper.wp
  simp [execOp, hop, resolve, invoke, builtin, hs, hx, hrun, Result.andThen]
  exact hK' _ _ (hK v' w' h1 h2)
end

/-- What holds of a pair between two calls. -/
structure PI (N : Nat) (pl : Bool) (s : DevS) (M : Nat → List ByteArray) (late : List WrD) (B : Nat) : Prop where
  live : pl = false → Live N s M ∧ late = []
  cr : CrOK N s M late
  len : ∀ i, (M i).length ≤ B
  one : 1 ≤ B
  ll : late.length ≤ 5864062014800

/-- Behind a call. -/
def After (W0 w' : World) (A : PA) (B : Nat) : Prop := ∃ pl s M vl late, IsP W0 w' A pl pl s M vl late ∧ PI A.N pl s M late B

section
variable {W0 W : World} {A : PA} {pl : Bool} {s : DevS} {M : Nat → List ByteArray} {vl v : Value} {late l : List WrD} {B : Nat}

set_option maxRecDepth 20000 in
set_option maxHeartbeats 4000000 in
theorem commits_down (h : IsP W0 W A pl pl s M vl late) (hI : PI A.N pl s M late B) (hvb : ∀ W, Below W0.heap.size W0 W → RdWr W v l) (hl : l.length ≤ 5864062014800) (hd : (s.up && !pl) = false) :
    Calls Try.prog 49 #[.pointer (some ⟨A.q, 0, none⟩), v] W fun e w' => e = .returned (.bool true) ∧ After W0 w' A B := by
  have hv := hvb W h.b
  have hrd : rdy s s.age pl = false := by
    unfold rdy
    cases hu : s.up <;> cases hp : pl <;> simp_all
  have HI : Hid (PI A.N true s M late B) := ⟨fun h => (by cases h), hI.cr, hI.len, hI.one, hI.ll⟩
  clear hI
  go_enter Try.func49, Try.ntmps49
  go_wp2_with (first | (at_builtin; refine wpList_copyW rfl _ _ rfl rfl rfl hv hl ?_; intro vo w1 hvo hb1; have hP1 := h.below hb1; obtain ⟨c0, c1, c2, c3, c4⟩ := hP1.cells; have cU := up_any hP1.dev; clear hb1 h; go_frame))
  refine cU.mono ?_
  rintro e w' ⟨rfl, hw⟩
  rw [hw]
  clear hw w' cU
  have hup : Hid (s.up = false ∨ pl = true) := by
    show s.up = false ∨ pl = true
    cases hu : s.up <;> cases hp : pl <;> simp_all
  have cK := ccopy_any hP1.dev
  have HP1 : Hid (IsP W0 w1 A pl pl s M vl late) := hP1
  clear hP1 hd
  generalize hsu : s.up = su at *
  have HSU : Hid (s.up = su) := hsu
  clear hsu
  have hbb : (su && !pl) = false := by
    rcases hup.out with h | h <;> simp [h]
  cases su with
  | true =>
    obtain rfl : pl = true := by
      rcases hup.out with h | h
      · cases h
      · exact h
    clear hbb hup
    go_wp2_with fail
    refine cK.mono ?_
    rintro e w2 ⟨pb, bsb, bwb, rfl, hNb⟩
    have hP2 := HP1.out.below hNb.b
    have hvo2 := hvo.keepT (keepT_below hNb.b)
    clear cK HP1 hvo hNb
    obtain ⟨d0, d1, d2, d3, d4⟩ := hP2.cells
    have cM := commit_down hP2.wal hP2.dev vo hrd
    go_wp2_with fail
    refine cM.mono ?_
    rintro e w3 ⟨rfl, hw3, hd3, ho3⟩
    have hP3 := hP2.step hd3 hw3 ho3 rfl
    have hvo3 := hvo2.keepT (hP2.keepT ho3)
    clear cM hP2 hvo2 hw3 hd3 ho3 d0 d1 d2 d3 d4
    have cL := alike_any hvo3.rd (hvb _ hP3.b) hl
    go_wp2_with fail
    refine cL.mono ?_
    rintro e w4 ⟨rfl, hb4⟩
    have hP4 := hP3.below hb4
    clear cL hP3 hvo3 hb4
    obtain ⟨d0, d1, d2, d3, d4⟩ := hP4.cells
    have hz := hP4.frz 4
    have hP5 := hP4.setLost true
    go_wp2_with fail
    go_ret
    exact ⟨rfl, true, s, M, vl, late, hP5, HI.out⟩
  | false =>
    clear hbb hup
    go_wp2_with fail
    refine cK.mono ?_
    rintro e w2 ⟨pb, bsb, bwb, rfl, hNb⟩
    have hP2 := HP1.out.below hNb.b
    have hvo2 := hvo.keepT (keepT_below hNb.b)
    clear cK HP1 hvo hNb
    obtain ⟨d0, d1, d2, d3, d4⟩ := hP2.cells
    have cM := commit_down hP2.wal hP2.dev vo hrd
    go_wp2_with fail
    refine cM.mono ?_
    rintro e w3 ⟨rfl, hw3, hd3, ho3⟩
    have hP3 := hP2.step hd3 hw3 ho3 rfl
    have hvo3 := hvo2.keepT (hP2.keepT ho3)
    clear cM hP2 hvo2 hw3 hd3 ho3 d0 d1 d2 d3 d4
    have cL := alike_any hvo3.rd (hvb _ hP3.b) hl
    go_wp2_with fail
    refine cL.mono ?_
    rintro e w4 ⟨rfl, hb4⟩
    have hP4 := hP3.below hb4
    clear cL hP3 hvo3 hb4
    obtain ⟨d0, d1, d2, d3, d4⟩ := hP4.cells
    have hz := hP4.frz 4
    have hP5 := hP4.setLost true
    go_wp2_with fail
    go_ret
    exact ⟨rfl, true, s, M, vl, late, hP5, HI.out⟩
end
end Go.Proofs.Ytblhmfkohbdmeaa
