/-
  record: hasForm.
-/
import Derived.Test.YtdheddgdlindmaaRcF
namespace Go.Proofs.Ytdheddgdlindmaa
open Go.WideShapes Go.RowKit Go.ChangeShapes Go.ChangeAt Go.PlainAid

/-- A state. -/
structure StD where
  nc : Int
  nb : Int
  cs : List CoD
  bs : List BrD
  us : List CuD
structure StD.Fit (S : StD) : Prop where
  c0 : -9223372036854775808 ≤ S.nc
  c1 : S.nc ≤ 9223372036854775807
  b0 : -9223372036854775808 ≤ S.nb
  b1 : S.nb ≤ 9223372036854775807
  cs : ∀ x ∈ S.cs, x.Fit
  bs : ∀ x ∈ S.bs, x.Fit
/-- A state's rows, at their values. -/
structure RdSt (W : World) (v1 v2 v3 : Value) (S : StD) : Prop where
  c : RdCo W v1 S.cs
  b : RdBr W v2 S.bs
  u : RdCu W v3 S.us
theorem RdSt.below {W W' : World} {v1 v2 v3 : Value} {S : StD} (h : RdSt W v1 v2 v3 S) (hb : Below W.heap.size W W') : RdSt W' v1 v2 v3 S := ⟨h.c.below hb, h.b.below hb, h.u.below hb⟩
def StD.fs (S : StD) (v1 v2 v3 : Value) : Array Value := #[.int .i64 S.nc, .int .i64 S.nb, v1, v2, v3]
/-- It has a form. -/
def stF (S : StD) : Bool := wtl 1 1000000 [S.nc, S.nb] && (rwB CoD.n coF 300 (min (S.nc - 1) 65535) S.cs && (rwB BrD.i brF 20 (min (S.nb - 1) 65535) S.bs && rwB CuD.c cuF 8 8 S.us))
def SB (W : World) (g : Nat) (S : StD) (v1 v2 v3 : Value) : Prop := W.heap[g]? = some (.cells (S.fs v1 v2 v3) 26)
theorem SB.below {W W' : World} {g : Nat} {S : StD} {v1 v2 v3 : Value} (h : SB W g S v1 v2 v3) (hb : Below W.heap.size W W') : SB W' g S v1 v2 v3 := (hb.block g (heap_lt h)).trans h
theorem cellsSB {W : World} {g : Nat} {S : StD} {v1 v2 v3 : Value} (h : SB W g S v1 v2 v3) : W.cell? ⟨g, 0, none⟩ = some (.int .i64 S.nc) ∧ W.cell? ⟨g, 1, none⟩ = some (.int .i64 S.nb) ∧ W.cell? ⟨g, 2, none⟩ = some v1 ∧ W.cell? ⟨g, 3, none⟩ = some v2 ∧ W.cell? ⟨g, 4, none⟩ = some v3 := by
  have q := fun j => cell_of_row W g j _ _ (0, 0) h
  exact ⟨q 0, q 1, q 2, q 3, q 4⟩
theorem sb_new (w : World) (S : StD) (v1 v2 v3 : Value) : SB (w.alloc (.cells (S.fs v1 v2 v3) 26)) w.heap.size S v1 v2 v3 := heap_alloc_new w _
set_option maxRecDepth 20000 in
set_option maxHeartbeats 2000000 in
theorem hasForm_any (S : StD) (v1 v2 v3 : Value) (w : World) (hr : RdSt w v1 v2 v3 S) (hF : S.Fit) :
    Calls Try.prog 19 #[.agg (S.fs v1 v2 v3)] w fun e w' => e = .returned (.bool (stF S)) ∧ Below w.heap.size w w' := by
  have hal := alloc_bR w (.cells (S.fs v1 v2 v3) 26)
  have hx := sb_new w S v1 v2 v3
  have hf0 := hF.c0
  have hf1 := hF.c1
  have hf2 := hF.b0
  have hf3 := hF.b1
  have c2 := fun W (h : Below w.heap.size w W) last => rowCo_any v1 S.cs 300 last W (hr.c.below h) hF.cs (by decide)
  have c3 := fun W (h : Below w.heap.size w W) last => rowBr_any v2 S.bs 20 last W (hr.b.below h) hF.bs (by decide)
  have c4 := fun W (h : Below w.heap.size w W) last => rowCu_any v3 S.us 8 last W (hr.u.below h) (by decide)
  obtain ⟨a1, k1, e1, -⟩ := hr.c
  subst e1
  obtain ⟨a2, k2, e2, -⟩ := hr.b
  subst e2
  obtain ⟨a3, k3, e3, -⟩ := hr.u
  subst e3
  clear hr hF
  generalize hw1 : w.alloc (.cells (S.fs (.slice a1 S.cs.length k1) (.slice a2 S.bs.length k2) (.slice a3 S.us.length k3)) 26) = w1 at *
  have hal2 := alloc_bR w1 (.cells #[.int .i64 S.nc, .int .i64 S.nb] 3)
  have c1 := withinR_any 1 1000000 (.slice (some ⟨w1.heap.size, 0, none⟩) 2 2) [S.nc, S.nb] (w1.alloc (.cells #[.int .i64 S.nc, .int .i64 S.nb] 3)) (rdi_lit (l := [S.nc, S.nb]) (heap_alloc_new w1 _)) (by simp)
  have hB2 := hal.trans (hal2.mono hal.size)
  have hx2 := hx.below hal2
  obtain ⟨R, HR⟩ : ∃ R, Hid (stF S = R) := ⟨_, rfl⟩
  rw [HR.out]
  obtain ⟨nc, nb, cs, bs, us⟩ := S
  simp only [StD.fs] at *
  obtain ⟨x0, x1, x2, x3, x4⟩ := cellsSB hx
  simp only at x0 x1 x2 x3 x4
  have hwt : wtl 1 1000000 [nc, nb] = true → 1 ≤ nc ∧ nc ≤ 1000000 ∧ 1 ≤ nb ∧ nb ≤ 1000000 := fun h => by
    have := wtl_iff.1 h
    simp at this
    omega
  have HR2 : Hid ((wtl 1 1000000 [nc, nb] && (rwB CoD.n coF 300 (min (nc - 1) 65535) cs && (rwB BrD.i brF 20 (min (nb - 1) 65535) bs && rwB CuD.c cuF 8 8 us))) = R) := HR
  clear HR hal hx hal2
  generalize wtl 1 1000000 [nc, nb] = t1 at *
  go_enter Try.func19, Try.ntmps19
  go_wp2_with fail
  refine c1.mono ?_
  rintro e w3 ⟨rfl, hb3⟩
  have hB3 := hB2.trans (hb3.mono hB2.size)
  have hx3 := hx2.below hb3
  clear x0 x1 x2 x3 x4 c1
  obtain ⟨x0, x1, x2, x3, x4⟩ := cellsSB hx3
  simp only at x0 x1 x2 x3 x4
  cases t1 with
  | false =>
    have e : R = false := HR2.out.symm
    subst e
    clear HR2 c2 c3 c4 hwt
    go_wp2_with fail
    go_ret
    exact ⟨rfl, hB3⟩
  | true =>
    obtain ⟨n0, n1, n2, n3⟩ := hwt rfl
    clear hwt
    rw [Bool.true_and] at HR2
    have Ha : nc - 1 ≤ 65535 → Hid ((rwB CoD.n coF 300 (nc - 1) cs && (rwB BrD.i brF 20 (min (nb - 1) 65535) bs && rwB CuD.c cuF 8 8 us)) = R) := fun h => by
      show _ = _
      rw [← HR2.out, show min (nc - 1) 65535 = nc - 1 by omega]
    have Hb : 65535 ≤ nc - 1 → Hid ((rwB CoD.n coF 300 65535 cs && (rwB BrD.i brF 20 (min (nb - 1) 65535) bs && rwB CuD.c cuF 8 8 us)) = R) := fun h => by
      show _ = _
      rw [← HR2.out, show min (nc - 1) 65535 = 65535 by omega]
    clear HR2
    go_wp2_with fail
    all_goals
      first
        | have H := Ha (by omega)
        | have H := Hb (by omega)
      clear Ha Hb
      refine (c2 w3 hB3 _).mono ?_
      rintro e w4 ⟨rfl, hb4⟩
      have hB4 := hB3.trans (hb4.mono hB3.size)
      have hx4 := hx3.below hb4
      clear x0 x1 x2 x3 x4
      obtain ⟨x0, x1, x2, x3, x4⟩ := cellsSB hx4
      simp only at x0 x1 x2 x3 x4
      generalize rwB CoD.n coF 300 _ cs = t2 at *
      cases t2 with
      | false =>
        have e : R = false := H.out.symm
        subst e
        clear H c2 c3 c4
        go_wp2_with fail
        go_ret
        exact ⟨rfl, hB4⟩
      | true =>
        rw [Bool.true_and] at H
        have Ga : nb - 1 ≤ 65535 → Hid ((rwB BrD.i brF 20 (nb - 1) bs && rwB CuD.c cuF 8 8 us) = R) := fun h => by
          show _ = _
          rw [← H.out, show min (nb - 1) 65535 = nb - 1 by omega]
        have Gb : 65535 ≤ nb - 1 → Hid ((rwB BrD.i brF 20 65535 bs && rwB CuD.c cuF 8 8 us) = R) := fun h => by
          show _ = _
          rw [← H.out, show min (nb - 1) 65535 = 65535 by omega]
        clear H c2
        go_wp2_with fail
        all_goals
          first
            | have G := Ga (by omega)
            | have G := Gb (by omega)
          clear Ga Gb
          refine (c3 w4 hB4 _).mono ?_
          rintro e w5 ⟨rfl, hb5⟩
          have hB5 := hB4.trans (hb5.mono hB4.size)
          have hx5 := hx4.below hb5
          clear x0 x1 x2 x3 x4
          obtain ⟨x0, x1, x2, x3, x4⟩ := cellsSB hx5
          simp only at x0 x1 x2 x3 x4
          generalize rwB BrD.i brF 20 _ bs = t3 at *
          cases t3 with
          | false =>
            have e : R = false := G.out.symm
            subst e
            clear G c3 c4
            go_wp2_with fail
            go_ret
            exact ⟨rfl, hB5⟩
          | true =>
            rw [Bool.true_and] at G
            have e := G.out
            subst e
            clear G c3
            go_wp2_with fail
            refine (c4 w5 hB5 8).mono ?_
            rintro e w6 ⟨rfl, hb6⟩
            go_wp2_with fail
            go_ret
            exact ⟨rfl, hB5.trans (hb6.mono hB5.size)⟩
end Go.Proofs.Ytdheddgdlindmaa
