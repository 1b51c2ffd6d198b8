/-
  The program's follows.
-/
import Derived.Test.YtjimolafoihnpaaTrF
import Derived.Test.YtjimolafoihnpaaTrG
namespace Go.Proofs.Ytjimolafoihnpaa.tc
open Go.Maps Go.ChangeShapes Go.WideShapes Go.ChangeAt Go.RowKit Go.PlainAid

/-- Is a name the next one of the other one's origin? -/
def flw (x y : AtK) : Bool := decide (x.1 = y.1) && decide (x.2.1 = y.2.1) && decide (x.2.2 + 1 = y.2.2)
set_option maxRecDepth 20000 in
set_option maxHeartbeats 2000000 in
theorem follows_any (b i j : Nat) (D : List (List (Nat × Int))) (N : List AtK) (x y : AtK) (w : World) (hr : BkR w b D N) (hx : N[i]? = some x) (hy : N[j]? = some y) (h1 : 0 ≤ x.2.2 ∧ x.2.2 ≤ 9223372036854775000) :
    Calls Try.prog 32 #[.pointer (some ⟨b, 0, none⟩), .int .i64 (i : Int), .int .i64 (j : Int)] w fun e w' => e = .returned (.bool (flw x y)) ∧ Below w.heap.size w w' := by
  obtain ⟨dv, nv, hbx, htb, hln⟩ := hr
  obtain ⟨an, cn, rfl, hcn⟩ := hln.form
  have hiN : i < N.length := (List.getElem?_eq_some_iff.1 hx).1
  have hjN : j < N.length := (List.getElem?_eq_some_iff.1 hy).1
  have hiN' : (i : Int) < (N.length : Int) := by omega
  have hjN' : (j : Int) < (N.length : Int) := by omega
  have f0 := flat_at cN 3 cN_len N i x hx 0 (by decide)
  have f1 := flat_at cN 3 cN_len N i x hx 1 (by decide)
  have f2 := flat_at cN 3 cN_len N i x hx 2 (by decide)
  have g0 := flat_at cN 3 cN_len N j y hy 0 (by decide)
  have g1 := flat_at cN 3 cN_len N j y hy 1 (by decide)
  have g2 := flat_at cN 3 cN_len N j y hy 2 (by decide)
  obtain ⟨gn, on, cur, rfl, hgn, hc⟩ := hln.at f0
  have c0 : w.cell? ⟨gn, on + i * 3, none⟩ = some (.int .i64 x.1) := hc _ _ f0
  have c1 : w.cell? ⟨gn, on + i * 3 + 1, none⟩ = some (.int .i64 x.2.1) := hc _ _ f1
  have c2 : w.cell? ⟨gn, on + i * 3 + 2, none⟩ = some (.int .i64 x.2.2) := hc _ _ f2
  have d0 : w.cell? ⟨gn, on + j * 3, none⟩ = some (.int .i64 y.1) := hc _ _ g0
  have d1 : w.cell? ⟨gn, on + j * 3 + 1, none⟩ = some (.int .i64 y.2.1) := hc _ _ g1
  have d2 : w.cell? ⟨gn, on + j * 3 + 2, none⟩ = some (.int .i64 y.2.2) := hc _ _ g2
  obtain ⟨-, x1, -, -⟩ := hbx.cells
  have al := fun {p : Addr} {v : Value} (h : w.cell? p = some v) (o : Obj) => cell_alN h o
  have al2 := fun {p : Addr} {v : Value} (h : w.cell? p = some v) (o o2 : Obj) => cell_alN (cell_alN h o) o2
  have c0a := al c0
  have c1a := al c1
  have c2a := al c2
  have d0a := al d0
  have d1a := al d1
  have d2a := al d2
  have x1a := al x1
  have c0b := al2 c0
  have c1b := al2 c1
  have c2b := al2 c2
  have d0b := al2 d0
  have d1b := al2 d1
  have d2b := al2 d2
  have x1b := al2 x1
  clear al al2 f0 f1 f2 g0 g1 g2 hc hgn hln htb hx hy cur hbx
  have hwk : IntKind.i64.wrap (x.2.2 + 1) = x.2.2 + 1 := by rw [IntKind.wrap_i64]; omega
  obtain ⟨T, HT⟩ : ∃ T, Hid (flw x y = T) := ⟨_, rfl⟩
  rw [HT.out]
  go_enter Try.func32, Try.ntmps32
  go_upto_region 1 with fail
  go_big_region
  all_goals
    clear c0 c1 c2 d0 d1 d2 x1 c0a c1a c2a d0a d1a d2a x1a c0b c1b c2b d0b d1b d2b x1b
    by_cases e1 : x.1 = y.1
    · have e1' : (x.1 == y.1) = true := beq_iff_eq.2 e1
      by_cases e2 : x.2.1 = y.2.1
      · have e2' : (x.2.1 == y.2.1) = true := beq_iff_eq.2 e2
        by_cases e3 : x.2.2 + 1 = y.2.2
        · have e3' : (x.2.2 + 1 == y.2.2) = true := beq_iff_eq.2 e3
          have HX : Hid (T = true) := by show _ = _; rw [← HT.out, flw, decide_eq_true e1, decide_eq_true e2, decide_eq_true e3]; rfl
          clear e1 e2 e3 HT
          go_wp2_with fail
          go_ret
          exact ⟨by rw [HX.out]; rfl, (chain (alloc_b _ _) (alloc_b _ _)).drew⟩
        · have e3' : (x.2.2 + 1 == y.2.2) = false := beq_eq_false_iff_ne.2 e3
          have HX : Hid (T = false) := by show _ = _; rw [← HT.out, flw, decide_eq_false e3, Bool.and_false]
          clear e1 e2 e3 HT
          go_wp2_with fail
          go_ret
          exact ⟨by rw [HX.out]; rfl, (chain (alloc_b _ _) (alloc_b _ _)).drew⟩
      · have e2' : (x.2.1 == y.2.1) = false := beq_eq_false_iff_ne.2 e2
        have HX : Hid (T = false) := by show _ = _; rw [← HT.out, flw, decide_eq_false e2, Bool.and_false, Bool.false_and]
        clear e1 e2 HT
        go_wp2_with fail
        go_ret
        exact ⟨by rw [HX.out]; rfl, (chain (alloc_b _ _) (alloc_b _ _)).drew⟩
    · have e1' : (x.1 == y.1) = false := beq_eq_false_iff_ne.2 e1
      have HX : Hid (T = false) := by show _ = _; rw [← HT.out, flw, decide_eq_false e1, Bool.false_and, Bool.false_and]
      clear e1 HT
      go_wp2_with fail
      go_ret
      exact ⟨by rw [HX.out]; rfl, (chain (alloc_b _ _) (alloc_b _ _)).drew⟩
end Go.Proofs.Ytjimolafoihnpaa.tc
