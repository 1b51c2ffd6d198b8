/-
  The law's spoils: it writes to the rows that a state owns, and to nothing else.
-/
import Derived.Test.YthhdpabelcgfjaaGcJ
namespace Go.Proofs.Ythhdpabelcgfjaa
open Go.Maps Go.ChangeShapes Go.WideShapes Go.ChangeAt Go.RowKit Go.PlainAid

/-- A row of one's own, whatever it holds. -/
def AnyR (W : World) (B : Nat) (e : TypeId) (z : Nat) (u : Value) (n : Nat) : Prop := ∃ xs, W.ownsRow B e z u n xs
theorem AnyR.set {W : World} {B z n : Nat} {e : TypeId} {u : Value} (h : AnyR W B e z u n) (g j : Nat) (x : Value) : AnyR (W.setCell ⟨g, j, none⟩ x) B e z u n := by
  obtain ⟨xs, h⟩ := h
  rcases id h.2 with ⟨e0, h0⟩ | ⟨g', cap, cur, e0, -⟩
  · exact ⟨xs, h.1, .inl ⟨e0, h0⟩⟩
  · subst e0
    by_cases hgg : g' = g
    · subst hgg
      exact ⟨_, (h.stored j x).1⟩
    · exact ⟨xs, h.kept (grown_set W g j x) (.inr (by simpa [Value.ownBlock] using hgg))⟩
theorem AnyR.form {W : World} {B z n : Nat} {e : TypeId} {u : Value} (h : AnyR W B e z u n) : ∃ a k, u = .slice a n k ∧ n ≤ maxLen := by
  obtain ⟨xs, h⟩ := h
  obtain ⟨a, k, rfl⟩ := own_form h
  rcases id h.2 with ⟨e0, h0⟩ | ⟨g', cap, cur, e0, hB, hg, h1, h2, -⟩
  · exact ⟨a, k, rfl, by omega⟩
  · exact ⟨a, k, rfl, by omega⟩
theorem AnyR.at_ {W : World} {B z n k : Nat} {e : TypeId} {a : Option Addr} (h : AnyR W B e z (.slice a n k) n) (hn : n ≠ 0) : ∃ g, a = some ⟨g, 0, none⟩ ∧ B ≤ g ∧ (∃ c, W.heap[g]? = some (.cells c e)) ∧ ∀ j, j < n * z → ∃ x, W.cell? ⟨g, j, none⟩ = some x ∧ W.frozen? ⟨g, j, none⟩ = false := by
  obtain ⟨xs, h⟩ := h
  rcases id h.2 with ⟨e0, h0⟩ | ⟨g', cap, cur, e0, hB, hg, -⟩
  · exact absurd h0 hn
  · simp only [Value.slice.injEq] at e0
    obtain ⟨rfl, -, -⟩ := e0
    refine ⟨g', rfl, hB, ⟨_, hg⟩, fun j hj => ?_⟩
    have hl := h.1
    have hx : xs[j]? = some (xs[j]'(by omega)) := by simp
    have hc := h.cells (g := g') rfl j _ hx
    rw [adK, Nat.zero_add] at hc
    exact ⟨_, hc, own_fz h j⟩
/-- A state's rows on the way. -/
structure Sp (W0 : World) (B q : Nat) (nc nb : Int) (v1 v2 v3 : Value) (us : List (Value × Value × Value × Nat × Nat × Nat)) (ls : List (Value × Nat)) (m : Nat) (W : World) : Prop where
  c : ∃ C, W.ownsRow B 40 6 v1 us.length C ∧ ∀ i u, us[i]? = some u → C[i * 6 + 1]? = some u.1 ∧ C[i * 6 + 2]? = some u.2.1 ∧ C[i * 6 + 3]? = some u.2.2.1
  ci : ∀ (i : Nat) u, us[i]? = some u → AnyR W B 3 1 u.1 u.2.2.2.1 ∧ AnyR W B 67 3 u.2.1 u.2.2.2.2.1 ∧ AnyR W B 67 3 u.2.2.1 u.2.2.2.2.2
  b : ∃ D, W.ownsRow B 47 3 v2 ls.length D ∧ ∀ i u, ls[i]? = some u → D[i * 3 + 2]? = some u.1
  bi : ∀ (i : Nat) u, ls[i]? = some u → AnyR W B 3 1 u.1 u.2
  u : AnyR W B 65 3 v3 m
  bx : W.heap[q]? = some (.cells #[.int .i64 nc, .int .i64 nb, v1, v2, v3] 26)
  bl : Below B W0 W
section
variable {W0 W : World} {B q : Nat} {nc nb : Int} {v1 v2 v3 : Value} {us : List (Value × Value × Value × Nat × Nat × Nat)} {ls : List (Value × Nat)} {m : Nat}
theorem box_set {g j q : Nat} {c d : Array Value} {t : TypeId} {x : Value} (hg : W.heap[g]? = some (.cells c t)) (hq : W.heap[q]? = some (.cells d 26)) (ht : t ≠ 26) : (W.setCell ⟨g, j, none⟩ x).heap[q]? = some (.cells d 26) :=
  (Below.heap_setCell W ⟨g, j, none⟩ x q (fun e => by
    simp only at e
    subst e
    rw [hg] at hq
    cases hq
    exact ht rfl)).trans hq
theorem Sp.set (h : Sp W0 B q nc nb v1 v2 v3 us ls m W) {g j : Nat} {c : Array Value} {t : TypeId} (x : Value) (hg : W.heap[g]? = some (.cells c t)) (hB : B ≤ g) (h1 : 40 ≠ t) (h2 : 47 ≠ t) (h3 : t ≠ 26) : Sp W0 B q nc nb v1 v2 v3 us ls m (W.setCell ⟨g, j, none⟩ x) := by
  have hrk := rk_set (x := x) (j := j) hg
  obtain ⟨C, c1, c2⟩ := h.c
  obtain ⟨D, d1, d2⟩ := h.b
  exact ⟨⟨C, hrk _ _ _ _ _ _ h1 c1, c2⟩, fun i u hu => ⟨(h.ci i u hu).1.set _ _ _, (h.ci i u hu).2.1.set _ _ _, (h.ci i u hu).2.2.set _ _ _⟩, ⟨D, hrk _ _ _ _ _ _ h2 d1, d2⟩, fun i u hu => (h.bi i u hu).set _ _ _, h.u.set _ _ _, box_set hg h.bx h3, h.bl.setCell (p := ⟨g, j, none⟩) hB _⟩
theorem Sp.cell (h : Sp W0 B q nc nb v1 v2 v3 us ls m W) {i : Nat} {u : Value × Value × Value × Nat × Nat × Nat} (hu : us[i]? = some u) : ∃ g k, v1 = .slice (some ⟨g, 0, none⟩) us.length k ∧ W.cell? ⟨g, i * 6 + 1, none⟩ = some u.1 ∧ W.cell? ⟨g, i * 6 + 2, none⟩ = some u.2.1 ∧ W.cell? ⟨g, i * 6 + 3, none⟩ = some u.2.2.1 ∧ (∃ y, W.cell? ⟨g, i * 6, none⟩ = some y ∧ W.frozen? ⟨g, i * 6, none⟩ = false) := by
  obtain ⟨C, c1, c2⟩ := h.c
  have hil : i < us.length := (List.getElem?_eq_some_iff.1 hu).1
  obtain ⟨a, k, rfl⟩ := own_form c1
  obtain ⟨g, rfl, hB, -, hx⟩ := AnyR.at_ ⟨C, c1⟩ (by omega)
  obtain ⟨e1, e2, e3⟩ := c2 i u hu
  have q := c1.cells (g := g) rfl
  have hadd : ∀ k, (⟨g, 0, none⟩ : Addr).add k = ⟨g, k, none⟩ := fun k => by rw [adK, Nat.zero_add]
  simp only [hadd] at q
  exact ⟨g, k, rfl, q _ _ e1, q _ _ e2, q _ _ e3, hx (i * 6) (by omega)⟩
theorem Sp.setC {g k n : Nat} (h : Sp W0 B q nc nb (.slice (some ⟨g, 0, none⟩) n k) v2 v3 us ls m W) (i : Nat) (x : Value) : Sp W0 B q nc nb (.slice (some ⟨g, 0, none⟩) n k) v2 v3 us ls m (W.setCell ⟨g, i * 6, none⟩ x) := by
  obtain ⟨C, c1, c2⟩ := h.c
  obtain ⟨D, d1, d2⟩ := h.b
  rcases id c1.2 with ⟨e0, -⟩ | ⟨g', cap, cur, e0, hB, hg, -⟩
  · cases e0
  · simp only [Value.slice.injEq, Option.some.injEq, Addr.mk.injEq, and_true] at e0
    obtain ⟨rfl, rfl, rfl⟩ := e0
    have hrk := rk_set (x := x) (j := i * 6) hg
    refine ⟨⟨_, (c1.stored (i * 6) x).1, fun j u hu => ?_⟩, fun i u hu => ⟨(h.ci i u hu).1.set _ _ _, (h.ci i u hu).2.1.set _ _ _, (h.ci i u hu).2.2.set _ _ _⟩, ⟨D, hrk _ _ _ _ _ _ (by decide) d1, d2⟩, fun i u hu => (h.bi i u hu).set _ _ _, h.u.set _ _ _, box_set hg h.bx (by decide), h.bl.setCell (p := ⟨g, i * 6, none⟩) hB _⟩
    obtain ⟨e1, e2, e3⟩ := c2 j u hu
    exact ⟨by rw [List.getElem?_set_ne (by omega)]; exact e1, by rw [List.getElem?_set_ne (by omega)]; exact e2, by rw [List.getElem?_set_ne (by omega)]; exact e3⟩
theorem Sp.cellB (h : Sp W0 B q nc nb v1 v2 v3 us ls m W) {i : Nat} {u : Value × Nat} (hu : ls[i]? = some u) : ∃ g k, v2 = .slice (some ⟨g, 0, none⟩) ls.length k ∧ W.cell? ⟨g, i * 3 + 2, none⟩ = some u.1 ∧ (∃ y, W.cell? ⟨g, i * 3, none⟩ = some y ∧ W.frozen? ⟨g, i * 3, none⟩ = false) := by
  obtain ⟨C, c1, c2⟩ := h.b
  have hil : i < ls.length := (List.getElem?_eq_some_iff.1 hu).1
  obtain ⟨a, k, rfl⟩ := own_form c1
  obtain ⟨g, rfl, hB, -, hx⟩ := AnyR.at_ ⟨C, c1⟩ (by omega)
  have e1 := c2 i u hu
  have q := c1.cells (g := g) rfl
  have hadd : ∀ k, (⟨g, 0, none⟩ : Addr).add k = ⟨g, k, none⟩ := fun k => by rw [adK, Nat.zero_add]
  simp only [hadd] at q
  exact ⟨g, k, rfl, q _ _ e1, hx (i * 3) (by omega)⟩
theorem Sp.setB {g k n : Nat} (h : Sp W0 B q nc nb v1 (.slice (some ⟨g, 0, none⟩) n k) v3 us ls m W) (i : Nat) (x : Value) : Sp W0 B q nc nb v1 (.slice (some ⟨g, 0, none⟩) n k) v3 us ls m (W.setCell ⟨g, i * 3, none⟩ x) := by
  obtain ⟨C, c1, c2⟩ := h.b
  obtain ⟨D, d1, d2⟩ := h.c
  rcases id c1.2 with ⟨e0, -⟩ | ⟨g', cap, cur, e0, hB, hg, -⟩
  · cases e0
  · simp only [Value.slice.injEq, Option.some.injEq, Addr.mk.injEq, and_true] at e0
    obtain ⟨rfl, rfl, rfl⟩ := e0
    have hrk := rk_set (x := x) (j := i * 3) hg
    refine ⟨⟨D, hrk _ _ _ _ _ _ (by decide) d1, d2⟩, fun i u hu => ⟨(h.ci i u hu).1.set _ _ _, (h.ci i u hu).2.1.set _ _ _, (h.ci i u hu).2.2.set _ _ _⟩, ⟨_, (c1.stored (i * 3) x).1, fun j u hu => ?_⟩, fun i u hu => (h.bi i u hu).set _ _ _, h.u.set _ _ _, box_set hg h.bx (by decide), h.bl.setCell (p := ⟨g, i * 3, none⟩) hB _⟩
    rw [List.getElem?_set_ne (by omega)]
    exact c2 j u hu
theorem cellsSp (h : Sp W0 B q nc nb v1 v2 v3 us ls m W) : W.cell? ⟨q, 0, none⟩ = some (.int .i64 nc) ∧ W.cell? ⟨q, 1, none⟩ = some (.int .i64 nb) ∧ W.cell? ⟨q, 2, none⟩ = some v1 ∧ W.cell? ⟨q, 3, none⟩ = some v2 ∧ W.cell? ⟨q, 4, none⟩ = some v3 := by
  have q := fun j => cell_of_row W q j _ _ (0, 0) h.bx
  exact ⟨q 0, q 1, q 2, q 3, q 4⟩
end
set_option maxRecDepth 20000 in
set_option maxHeartbeats 2000000 in
theorem spoils_sp {W0 w : World} {B : Nat} {nc nb : Int} {a1 a2 a3 : Option Addr} {k1 k2 k3 : Nat} {us : List (Value × Value × Value × Nat × Nat × Nat)} {ls : List (Value × Nat)} {m : Nat} (h0 : Sp W0 B w.heap.size nc nb (.slice a1 us.length k1) (.slice a2 ls.length k2) (.slice a3 m k3) us ls m (w.alloc (.cells #[.int .i64 nc, .int .i64 nb, .slice a1 us.length k1, .slice a2 ls.length k2, .slice a3 m k3] 26))) (hu : us.length ≤ maxLen) (hl : ls.length ≤ maxLen) :
    Calls Try.prog 14 #[.agg #[.int .i64 nc, .int .i64 nb, .slice a1 us.length k1, .slice a2 ls.length k2, .slice a3 m k3]] w fun e w' => e = .returned (.tuple #[]) ∧ Below B W0 w' := by
  have hml : m ≤ maxLen := by
    obtain ⟨a, k, -, h⟩ := h0.u.form
    exact h
  unfold maxLen at hu hl hml
  go_enter Try.func14, Try.ntmps14
  go_upto_region 2 with fail
  generalize w.alloc (.cells #[.int .i64 nc, .int .i64 nb, .slice a1 us.length k1, .slice a2 ls.length k2, .slice a3 m k3] 26) = w1 at *
  generalize w.heap.size = q at *
  go_loopw [2] (fun i wr => ∃ k : Nat, k ≤ us.length ∧ i = .int .i64 (k : Int) ∧ Sp W0 B q nc nb (.slice a1 us.length k1) (.slice a2 ls.length k2) (.slice a3 m k3) us ls m wr) (fun i _ => us.length - (Go.RowKit.intOf i).toNat)
  case atStart => exact ⟨0, by omega, rfl, h0⟩
  case round =>
    clear h0
    obtain ⟨i, hi, rfl, hS⟩ := hrel
    obtain ⟨x0, x1, x2, x3, x4⟩ := cellsSp hS
    by_cases hlt : i < us.length
    · have hlt' : (i : Int) < (us.length : Int) := by omega
      have hui : us[i]? = some us[i] := by simp [hlt]
      generalize us[i] = u at *
      obtain ⟨u1, u2, u3, n1, n2, n3⟩ := u
      obtain ⟨r1, r2, r3⟩ := hS.ci i _ hui
      obtain ⟨a4, k4, e4, m4⟩ := r1.form
      obtain ⟨a5, k5, e5, m5⟩ := r2.form
      obtain ⟨a6, k6, e6, m6⟩ := r3.form
      simp only at e4 e5 e6 m4 m5 m6
      subst e4 e5 e6
      unfold maxLen at m4 m5 m6
      clear r1 r2 r3
      obtain ⟨g, k', e', c1, c2, c3, ⟨y0, z0, z1⟩⟩ := hS.cell hui
      cases e'
      clear c1 c2 c3 z0 z1
      go_upto_region 5 with fail
      clear x0 x1 x2 x3 x4
      have hS0 := hS
      clear hS
      generalize wr = wa at *
      go_loopw [3] (fun j wr => ∃ k : Nat, k ≤ n1 ∧ j = .int .i64 (k : Int) ∧ Sp W0 B q nc nb (.slice (some ⟨g, 0, none⟩) us.length k1) (.slice a2 ls.length k2) (.slice a3 m k3) us ls m wr) (fun j _ => n1 - (Go.RowKit.intOf j).toNat)
      case atStart => exact ⟨0, by omega, rfl, hS0⟩
      case round =>
        clear hS0
        obtain ⟨k, hk, rfl, hS⟩ := hrel
        obtain ⟨x0, x1, x2, x3, x4⟩ := cellsSp hS
        obtain ⟨g', k', e', c1, c2, c3, ⟨y0, z0, z1⟩⟩ := hS.cell hui; cases e'; simp only at c1 c2 c3
        by_cases hlt2 : k < n1
        · have hlt3 : (k : Int) < (n1 : Int) := by omega
          obtain ⟨g2, ea, hB2, ⟨cc, hg2⟩, hx2⟩ := ((hS.ci i _ hui).1).at_ (by omega)
          obtain ⟨y, y1, y2⟩ := hx2 k (by omega)
          subst ea
          have hS2 := fun x => hS.set (j := k) x hg2 hB2 (by decide) (by decide) (by decide)
          clear hS hx2 hg2
          go_wp2_with fail
          exact ⟨⟨k + 1, by omega, by go_num, hS2 _⟩, by simp [Go.RowKit.intOf]; omega⟩
        · have hlt3 : ¬ (k : Int) < (n1 : Int) := by omega
          clear hlt2
          go_upto_region 9 with fail
          clear x0 x1 x2 x3 x4 c1 c2 c3 z0 z1
          have hS0 := hS
          clear hS
          generalize wr = wa at *
          go_loopw [4] (fun j wr => ∃ k : Nat, k ≤ n2 ∧ j = .int .i64 (k : Int) ∧ Sp W0 B q nc nb (.slice (some ⟨g, 0, none⟩) us.length k1) (.slice a2 ls.length k2) (.slice a3 m k3) us ls m wr) (fun j _ => n2 - (Go.RowKit.intOf j).toNat)
          case atStart => exact ⟨0, by omega, rfl, hS0⟩
          case round =>
            clear hS0
            obtain ⟨k, hk, rfl, hS⟩ := hrel
            obtain ⟨x0, x1, x2, x3, x4⟩ := cellsSp hS
            obtain ⟨g', k', e', c1, c2, c3, ⟨y0, z0, z1⟩⟩ := hS.cell hui; cases e'; simp only at c1 c2 c3
            by_cases hlt2 : k < n2
            · have hlt3 : (k : Int) < (n2 : Int) := by omega
              obtain ⟨g2, ea, hB2, ⟨cc, hg2⟩, hx2⟩ := ((hS.ci i _ hui).2.1).at_ (by omega)
              obtain ⟨y, y1, y2⟩ := hx2 (k * 3) (by omega)
              subst ea
              have hS2 := fun x => hS.set (j := k * 3) x hg2 hB2 (by decide) (by decide) (by decide)
              clear hS hx2 hg2
              go_wp2_with fail
              exact ⟨⟨k + 1, by omega, by go_num, hS2 _⟩, by simp [Go.RowKit.intOf]; omega⟩
            · have hlt3 : ¬ (k : Int) < (n2 : Int) := by omega
              clear hlt2
              go_upto_region 13 with fail
              clear x0 x1 x2 x3 x4 c1 c2 c3 z0 z1
              have hS0 := hS
              clear hS
              generalize wr = wa at *
              go_loopw [5] (fun j wr => ∃ k : Nat, k ≤ n3 ∧ j = .int .i64 (k : Int) ∧ Sp W0 B q nc nb (.slice (some ⟨g, 0, none⟩) us.length k1) (.slice a2 ls.length k2) (.slice a3 m k3) us ls m wr) (fun j _ => n3 - (Go.RowKit.intOf j).toNat)
              case atStart => exact ⟨0, by omega, rfl, hS0⟩
              case round =>
                clear hS0
                obtain ⟨k, hk, rfl, hS⟩ := hrel
                obtain ⟨x0, x1, x2, x3, x4⟩ := cellsSp hS
                obtain ⟨g', k', e', c1, c2, c3, ⟨y0, z0, z1⟩⟩ := hS.cell hui; cases e'; simp only at c1 c2 c3
                by_cases hlt2 : k < n3
                · have hlt3 : (k : Int) < (n3 : Int) := by omega
                  obtain ⟨g2, ea, hB2, ⟨cc, hg2⟩, hx2⟩ := ((hS.ci i _ hui).2.2).at_ (by omega)
                  obtain ⟨y, y1, y2⟩ := hx2 (k * 3) (by omega)
                  subst ea
                  have hS2 := fun x => hS.set (j := k * 3) x hg2 hB2 (by decide) (by decide) (by decide)
                  clear hS hx2 hg2
                  go_wp2_with fail
                  exact ⟨⟨k + 1, by omega, by go_num, hS2 _⟩, by simp [Go.RowKit.intOf]; omega⟩
                · have hlt3 : ¬ (k : Int) < (n3 : Int) := by omega
                  clear hlt2
                  have hS2 := fun x => hS.setC i x
                  clear hS
                  go_wp2_with fail
                  exact ⟨⟨i + 1, by omega, by go_num, hS2 _⟩, by simp [Go.RowKit.intOf]; omega⟩
    · have hlt' : ¬ (i : Int) < (us.length : Int) := by omega
      go_upto_region 18 with fail
      clear x0 x1 x2 x3 x4
      have hS0 := hS
      clear hS
      generalize wr = wa at *
      go_loopw [6] (fun i wr => ∃ k : Nat, k ≤ ls.length ∧ i = .int .i64 (k : Int) ∧ Sp W0 B q nc nb (.slice a1 us.length k1) (.slice a2 ls.length k2) (.slice a3 m k3) us ls m wr) (fun i _ => ls.length - (Go.RowKit.intOf i).toNat)
      case atStart => exact ⟨0, by omega, rfl, hS0⟩
      case round =>
        clear hS0 hlt hlt' hi
        obtain ⟨i, hi, rfl, hS⟩ := hrel
        obtain ⟨x0, x1, x2, x3, x4⟩ := cellsSp hS
        by_cases hlt : i < ls.length
        · have hlt' : (i : Int) < (ls.length : Int) := by omega
          have hui : ls[i]? = some ls[i] := by simp [hlt]
          generalize ls[i] = u at *
          obtain ⟨u1, n1⟩ := u
          obtain ⟨a4, k4, e4, m4⟩ := (hS.bi i _ hui).form
          simp only at e4 m4
          subst e4
          unfold maxLen at m4
          obtain ⟨g, k', e', c1, ⟨y0, z0, z1⟩⟩ := hS.cellB hui
          cases e'
          clear c1 z0 z1
          go_upto_region 21 with fail
          clear x0 x1 x2 x3 x4
          have hS0 := hS
          clear hS
          generalize wr = wa at *
          go_loopw [7] (fun j wr => ∃ k : Nat, k ≤ n1 ∧ j = .int .i64 (k : Int) ∧ Sp W0 B q nc nb (.slice a1 us.length k1) (.slice (some ⟨g, 0, none⟩) ls.length k2) (.slice a3 m k3) us ls m wr) (fun j _ => n1 - (Go.RowKit.intOf j).toNat)
          case atStart => exact ⟨0, by omega, rfl, hS0⟩
          case round =>
            clear hS0
            obtain ⟨k, hk, rfl, hS⟩ := hrel
            obtain ⟨x0, x1, x2, x3, x4⟩ := cellsSp hS
            obtain ⟨g', k', e', c1, ⟨y0, z0, z1⟩⟩ := hS.cellB hui; cases e'; simp only at c1
            by_cases hlt2 : k < n1
            · have hlt3 : (k : Int) < (n1 : Int) := by omega
              obtain ⟨g2, ea, hB2, ⟨cc, hg2⟩, hx2⟩ := (hS.bi i _ hui).at_ (by omega)
              obtain ⟨y, y1, y2⟩ := hx2 k (by omega)
              subst ea
              have hS2 := fun x => hS.set (j := k) x hg2 hB2 (by decide) (by decide) (by decide)
              clear hS hx2 hg2
              go_wp2_with fail
              exact ⟨⟨k + 1, by omega, by go_num, hS2 _⟩, by simp [Go.RowKit.intOf]; omega⟩
            · have hlt3 : ¬ (k : Int) < (n1 : Int) := by omega
              clear hlt2
              have hS2 := fun x => hS.setB i x
              clear hS
              go_wp2_with fail
              exact ⟨⟨i + 1, by omega, by go_num, hS2 _⟩, by simp [Go.RowKit.intOf]; omega⟩
        · have hlt' : ¬ (i : Int) < (ls.length : Int) := by omega
          go_upto_region 26 with fail
          clear x0 x1 x2 x3 x4
          have hS0 := hS
          clear hS
          generalize wr = wb at *
          go_loopw [8] (fun i wr => ∃ k : Nat, k ≤ m ∧ i = .int .i64 (k : Int) ∧ Sp W0 B q nc nb (.slice a1 us.length k1) (.slice a2 ls.length k2) (.slice a3 m k3) us ls m wr) (fun i _ => m - (Go.RowKit.intOf i).toNat)
          case atStart => exact ⟨0, by omega, rfl, hS0⟩
          case round =>
            clear hS0 hlt hlt' hi
            obtain ⟨i, hi, rfl, hS⟩ := hrel
            obtain ⟨x0, x1, x2, x3, x4⟩ := cellsSp hS
            by_cases hlt : i < m
            · have hlt' : (i : Int) < (m : Int) := by omega
              obtain ⟨g2, ea, hB2, ⟨cc, hg2⟩, hx2⟩ := hS.u.at_ (by omega)
              obtain ⟨y, y1, y2⟩ := hx2 (i * 3 + 2) (by omega)
              subst ea
              have hS2 := fun x => hS.set (j := i * 3 + 2) x hg2 hB2 (by decide) (by decide) (by decide)
              clear hS hx2 hg2
              go_wp2_with fail
              exact ⟨⟨i + 1, by omega, by go_num, hS2 _⟩, by simp [Go.RowKit.intOf]; omega⟩
            · have hlt' : ¬ (i : Int) < (m : Int) := by omega
              have hbl := hS.bl
              clear hS
              go_wp2_with fail
              go_end0
              exact ⟨rfl, hbl⟩
def usOf (cs : List CoD) (us : List (Value × Value × Value)) : List (Value × Value × Value × Nat × Nat × Nat) := List.zipWith (fun x u => (u.1, u.2.1, u.2.2, x.ps.length, x.d.length, x.o.length)) cs us
def lsOf (bs : List BrD) (ls : List Value) : List (Value × Nat) := List.zipWith (fun x u => (u, x.lg.length)) bs ls
theorem usOf_at {cs : List CoD} {us : List (Value × Value × Value)} {i : Nat} {y : Value × Value × Value × Nat × Nat × Nat} (h : (usOf cs us)[i]? = some y) : ∃ x u, cs[i]? = some x ∧ us[i]? = some u ∧ y = (u.1, u.2.1, u.2.2, x.ps.length, x.d.length, x.o.length) := by
  unfold usOf at h
  rw [List.getElem?_zipWith] at h
  cases hc : cs[i]? with
  | none => rw [hc] at h; simp at h
  | some x =>
    cases hu : us[i]? with
    | none => rw [hc, hu] at h; simp at h
    | some u => rw [hc, hu] at h; simp at h; exact ⟨x, u, rfl, rfl, h.symm⟩
theorem lsOf_at {bs : List BrD} {ls : List Value} {i : Nat} {y : Value × Nat} (h : (lsOf bs ls)[i]? = some y) : ∃ x u, bs[i]? = some x ∧ ls[i]? = some u ∧ y = (u, x.lg.length) := by
  unfold lsOf at h
  rw [List.getElem?_zipWith] at h
  cases hc : bs[i]? with
  | none => rw [hc] at h; simp at h
  | some x =>
    cases hu : ls[i]? with
    | none => rw [hc, hu] at h; simp at h
    | some u => rw [hc, hu] at h; simp at h; exact ⟨x, u, rfl, rfl, h.symm⟩
theorem sp_of {w : World} {B : Nat} {v1 v2 v3 : Value} {S : StD} {us : List (Value × Value × Value)} {ls : List Value} (h : OwSt w B v1 v2 v3 S us ls) (hB : B ≤ w.heap.size) : Sp w B w.heap.size S.nc S.nb v1 v2 v3 (usOf S.cs us) (lsOf S.bs ls) S.us.length (w.alloc (.cells (S.fs v1 v2 v3) 26)) := by
  have hal := alloc_bR w (.cells (S.fs v1 v2 v3) 26)
  have h2 := h.below hal
  have l1 : (usOf S.cs us).length = S.cs.length := by simp [usOf, h.c.ul]
  have l2 : (lsOf S.bs ls).length = S.bs.length := by simp [lsOf, h.b.ul]
  refine ⟨⟨_, by rw [l1]; exact h2.c.row, fun i y hy => ?_⟩, fun i y hy => ?_, ⟨_, by rw [l2]; exact h2.b.row, fun i y hy => ?_⟩, fun i y hy => ?_, ⟨_, h2.u⟩, sb_new w S v1 v2 v3, hal.mono hB⟩
  · obtain ⟨x, u, hx, hu, rfl⟩ := usOf_at hy
    obtain ⟨u', hu', q0, q1, q2, q3, -⟩ := ccs_at S.cs us i x h.c.ul hx
    rw [hu] at hu'
    cases hu'
    exact ⟨q1, q2, q3⟩
  · obtain ⟨x, u, hx, hu, rfl⟩ := usOf_at hy
    obtain ⟨i1, i2, i3⟩ := h2.c.inn i x u hx hu
    exact ⟨⟨_, i1⟩, ⟨_, i2⟩, ⟨_, i3⟩⟩
  · obtain ⟨x, u, hx, hu, rfl⟩ := lsOf_at hy
    obtain ⟨u', hu', q0, q1, q2⟩ := bcs_at S.bs ls i x h.b.ul hx
    rw [hu] at hu'
    cases hu'
    exact q2
  · obtain ⟨x, u, hx, hu, rfl⟩ := lsOf_at hy
    exact ⟨_, h2.b.inn i x u hx hu⟩
theorem spoils_any {w : World} {B : Nat} {v1 v2 v3 : Value} {S : StD} {us : List (Value × Value × Value)} {ls : List Value} (h : OwSt w B v1 v2 v3 S us ls) (hB : B ≤ w.heap.size) :
    Calls Try.prog 14 #[.agg (S.fs v1 v2 v3)] w fun e w' => e = .returned (.tuple #[]) ∧ Below B w w' := by
  have h0 := sp_of h hB
  have l1 : (usOf S.cs us).length = S.cs.length := by simp [usOf, h.c.ul]
  have l2 : (lsOf S.bs ls).length = S.bs.length := by simp [lsOf, h.b.ul]
  obtain ⟨a1, k1, e1, m1⟩ := AnyR.form ⟨_, h.c.row⟩
  obtain ⟨a2, k2, e2, m2⟩ := AnyR.form ⟨_, h.b.row⟩
  obtain ⟨a3, k3, e3, m3⟩ := AnyR.form ⟨_, h.u⟩
  subst e1 e2 e3
  rw [← l1] at m1 h0
  rw [← l2] at m2 h0
  have := spoils_sp (by simpa only [StD.fs, l1, l2] using h0) m1 m2
  simpa only [StD.fs, l1, l2] using this
end Go.Proofs.Ythhdpabelcgfjaa
