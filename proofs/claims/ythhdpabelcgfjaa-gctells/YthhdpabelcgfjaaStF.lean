/-
  The reference's Same of equal states.
-/
import Derived.Test.YthhdpabelcgfjaaStA
import Derived.Test.YthhdpabelcgfjaaDlP
namespace Go.Proofs.Ythhdpabelcgfjaa
open Go.ChangeShapes Go.WideShapes Go.ChangeAt Go.RowKit Go.PlainAid

set_option maxRecDepth 20000 in
set_option maxHeartbeats 1000000 in
theorem ints_true (va vb : Value) (A : List Int) (w : World) (hA : RdI w va A) (hB : RdI w vb A) (hm : A.length ≤ 9223372036854775000) :
    Calls Try.prog 27 #[va, vb] w fun e w' => e = .returned (.bool true) ∧ Below w.heap.size w w' := by
  obtain ⟨ao, ac, rfl, hac⟩ := hA
  obtain ⟨bo, bc, rfl, hbc⟩ := hB
  go_enter Try.func27, Try.ntmps27
  go_wp2_with fail
  go_loopw [5] (fun i wr => ∃ k : Nat, k ≤ A.length ∧ i = .int .i64 (k : Int) ∧ Below w.heap.size w wr) (fun i _ => A.length - (Go.RowKit.intOf i).toNat)
  case atStart => exact ⟨0, by omega, rfl, Below.refl _ _⟩
  case round =>
    obtain ⟨k, hk, rfl, hbl⟩ := hrel
    by_cases hlt : k < A.length
    · have hlt' : (k : Int) < (A.length : Int) := by omega
      obtain ⟨b1, o1, rfl, hb1, c0⟩ := hac k A[k] (by simp [hlt])
      obtain ⟨b2, o2, rfl, hb2, d0⟩ := hbc k A[k] (by simp [hlt])
      rw [← hbl.cell (p := ⟨b1, _, none⟩) hb1] at c0
      rw [← hbl.cell (p := ⟨b2, _, none⟩) hb2] at d0
      clear hac hbc
      generalize A[k] = y at *
      go_wp2_with fail
      go_region
      go_wp2_with fail
      exact ⟨⟨k + 1, by omega, by go_num, Below.drew hbl⟩, by simp [Go.RowKit.intOf]; omega⟩
    · have hlt' : ¬ (k : Int) < (A.length : Int) := by omega
      clear hac hbc
      go_wp2_with fail
      go_ret
      exact ⟨rfl, hbl⟩
set_option maxRecDepth 20000 in
set_option maxHeartbeats 4000000 in
theorem same15_true (S : StD) (v1 v2 v3 u1 u2 u3 : Value) (w : World) (hA : RdSt w v1 v2 v3 S) (hB : RdSt w u1 u2 u3 S) (hF : S.Fit) (hl : S.cs.length ≤ 9223372036854775000 ∧ S.bs.length ≤ 9223372036854775000 ∧ S.us.length ≤ 9223372036854775000) :
    Calls Try.prog 13 #[.agg (S.fs v1 v2 v3), .agg (S.fs u1 u2 u3)] w fun e w' => e = .returned (.bool true) ∧ Below w.heap.size w w' := by
  have b1 := alloc_bR w (.cells (S.fs v1 v2 v3) 26)
  have b2 := alloc_bR (w.alloc (.cells (S.fs v1 v2 v3) 26)) (.cells (S.fs u1 u2 u3) 26)
  have k1 := (sb_new w S v1 v2 v3).below b2
  have k2 := sb_new (w.alloc (.cells (S.fs v1 v2 v3) 26)) S u1 u2 u3
  rw [World.size_alloc] at k2
  have hB0 := b1.trans (b2.mono b1.size)
  have hA' := hA.below hB0
  have hB' := hB.below hB0
  obtain ⟨a1, c1, e1, ac⟩ := hA.c
  subst e1
  obtain ⟨a2, c2, e2, ab⟩ := hA.b
  subst e2
  obtain ⟨a3, c3, e3, au⟩ := hA.u
  subst e3
  obtain ⟨d1, f1, e1, bc⟩ := hB.c
  subst e1
  obtain ⟨d2, f2, e2, bb⟩ := hB.b
  subst e2
  obtain ⟨d3, f3, e3, bu⟩ := hB.u
  subst e3
  clear hA' hB' hA hB
  obtain ⟨l1, l2, l3⟩ := hl
  have hFc := hF.cs
  have hFb := hF.bs
  obtain ⟨nc, nb, cs, bs, us⟩ := S
  simp only [StD.fs] at *
  generalize hw2 : (w.alloc (.cells #[.int .i64 nc, .int .i64 nb, .slice a1 cs.length c1, .slice a2 bs.length c2, .slice a3 us.length c3] 26)).alloc (.cells #[.int .i64 nc, .int .i64 nb, .slice d1 cs.length f1, .slice d2 bs.length f2, .slice d3 us.length f3] 26) = w2 at *
  have hX : ∀ W', Below w2.heap.size w2 W' → W'.cell? ⟨w.heap.size, 0, none⟩ = some (.int .i64 nc) ∧ W'.cell? ⟨w.heap.size, 1, none⟩ = some (.int .i64 nb) ∧ W'.cell? ⟨w.heap.size, 2, none⟩ = some (.slice a1 cs.length c1) ∧ W'.cell? ⟨w.heap.size, 3, none⟩ = some (.slice a2 bs.length c2) ∧ W'.cell? ⟨w.heap.size, 4, none⟩ = some (.slice a3 us.length c3) := fun W' h => cellsSB (k1.below h)
  have hY : ∀ W', Below w2.heap.size w2 W' → W'.cell? ⟨w.heap.size + 1, 0, none⟩ = some (.int .i64 nc) ∧ W'.cell? ⟨w.heap.size + 1, 1, none⟩ = some (.int .i64 nb) ∧ W'.cell? ⟨w.heap.size + 1, 2, none⟩ = some (.slice d1 cs.length f1) ∧ W'.cell? ⟨w.heap.size + 1, 3, none⟩ = some (.slice d2 bs.length f2) ∧ W'.cell? ⟨w.heap.size + 1, 4, none⟩ = some (.slice d3 us.length f3) := fun W' h => cellsSB (k2.below h)
  obtain ⟨x0, x1, x2, x3, x4⟩ := hX w2 (Below.refl _ _)
  obtain ⟨y0, y1, y2, y3, y4⟩ := hY w2 (Below.refl _ _)
  clear b1 b2 k1 k2 hF
  go_enter Try.func13, Try.ntmps13
  go_wp2_with fail
  clear x0 x1 x2 x3 x4 y0 y1 y2 y3 y4 hw2
  go_loopw [5] (fun i wr => ∃ k : Nat, k ≤ cs.length ∧ i = .int .i64 (k : Int) ∧ Below w2.heap.size w2 wr) (fun i _ => cs.length - (Go.RowKit.intOf i).toNat)
  case atStart => exact ⟨0, by omega, rfl, Below.refl _ _⟩
  case round =>
    obtain ⟨k, hk, rfl, hbl⟩ := hrel
    obtain ⟨x0, x1, x2, x3, x4⟩ := hX wr hbl
    have hBw := hB0.trans (hbl.mono hB0.size)
    by_cases hlt : k < cs.length
    · have hlt' : (k : Int) < (cs.length : Int) := by omega
      obtain ⟨g, off, p1, p2, p3, rfl, hg, ⟨m0, m1, m2, m3, m4, m5⟩, s0, s1, s2⟩ := ac k cs[k] (by simp [hlt])
      obtain ⟨h, oh, q1, q2, q3, rfl, hh, ⟨n0, n1, n2, n3, n4, n5⟩, t0, t1, t2⟩ := bc k cs[k] (by simp [hlt])
      have hft := hFc cs[k] (List.getElem_mem hlt)
      rw [← hBw.cell (p := ⟨g, _, none⟩) hg] at m0 m1 m2 m3 m4 m5
      have ha1 := alloc_bR wr (.cells #[.int .i64 cs[k].n, p1, p2, p3, .int .i64 cs[k].c, .int .i64 cs[k].s] 40)
      have hn1 := heap_alloc_new wr (.cells #[.int .i64 cs[k].n, p1, p2, p3, .int .i64 cs[k].c, .int .i64 cs[k].s] 40)
      have hBw1 := hBw.trans (ha1.mono hBw.size)
      have hbl1 := hbl.trans (ha1.mono hbl.size)
      rw [← hBw1.cell (p := ⟨h, _, none⟩) hh] at n0 n1 n2 n3 n4 n5
      generalize cs[k] = x at *
      obtain ⟨r1, j1, rfl⟩ := rdi_len s0
      obtain ⟨r2, j2, e, -⟩ := id s1
      subst e
      obtain ⟨r3, j3, e, -⟩ := id s2
      subst e
      obtain ⟨r4, j4, rfl⟩ := rdi_len t0
      obtain ⟨r5, j5, e, -⟩ := id t1
      subst e
      obtain ⟨r6, j6, e, -⟩ := id t2
      subst e
      generalize hwa : wr.alloc (.cells #[.int .i64 x.n, .slice r1 x.ps.length j1, .slice r2 x.d.length j2, .slice r3 x.o.length j3, .int .i64 x.c, .int .i64 x.s] 40) = wa at *
      have ha2 := alloc_bR wa (.cells #[.int .i64 x.n, .slice r4 x.ps.length j4, .slice r5 x.d.length j5, .slice r6 x.o.length j6, .int .i64 x.c, .int .i64 x.s] 40)
      have hn2 := heap_alloc_new wa (.cells #[.int .i64 x.n, .slice r4 x.ps.length j4, .slice r5 x.d.length j5, .slice r6 x.o.length j6, .int .i64 x.c, .int .i64 x.s] 40)
      have hBw2 := hBw1.trans (ha2.mono hBw1.size)
      have hbl2 := hbl1.trans (ha2.mono hbl1.size)
      have hn1' := (ha2.block _ (heap_lt hn1)).trans hn1
      obtain ⟨y0, y1, y2, y3, y4⟩ := hY wa hbl1
      generalize hwb : wa.alloc (.cells #[.int .i64 x.n, .slice r4 x.ps.length j4, .slice r5 x.d.length j5, .slice r6 x.o.length j6, .int .i64 x.c, .int .i64 x.s] 40) = wb at *
      have hP : ∀ W', Below wb.heap.size wb W' → W'.cell? ⟨wr.heap.size, 0, none⟩ = some (.int .i64 x.n) ∧ W'.cell? ⟨wr.heap.size, 1, none⟩ = some (.slice r1 x.ps.length j1) ∧ W'.cell? ⟨wr.heap.size, 2, none⟩ = some (.slice r2 x.d.length j2) ∧ W'.cell? ⟨wr.heap.size, 3, none⟩ = some (.slice r3 x.o.length j3) ∧ W'.cell? ⟨wr.heap.size, 4, none⟩ = some (.int .i64 x.c) ∧ W'.cell? ⟨wr.heap.size, 5, none⟩ = some (.int .i64 x.s) := fun W' h => by
        have q := fun j => cell_of_row W' wr.heap.size j _ _ (0, 0) ((h.block _ (heap_lt hn1')).trans hn1')
        exact ⟨q 0, q 1, q 2, q 3, q 4, q 5⟩
      have hQ : ∀ W', Below wb.heap.size wb W' → W'.cell? ⟨wa.heap.size, 0, none⟩ = some (.int .i64 x.n) ∧ W'.cell? ⟨wa.heap.size, 1, none⟩ = some (.slice r4 x.ps.length j4) ∧ W'.cell? ⟨wa.heap.size, 2, none⟩ = some (.slice r5 x.d.length j5) ∧ W'.cell? ⟨wa.heap.size, 3, none⟩ = some (.slice r6 x.o.length j6) ∧ W'.cell? ⟨wa.heap.size, 4, none⟩ = some (.int .i64 x.c) ∧ W'.cell? ⟨wa.heap.size, 5, none⟩ = some (.int .i64 x.s) := fun W' h => by
        have q := fun j => cell_of_row W' wa.heap.size j _ _ (0, 0) ((h.block _ (heap_lt hn2)).trans hn2)
        exact ⟨q 0, q 1, q 2, q 3, q 4, q 5⟩
      obtain ⟨P0, P1, P2, P3, P4, P5⟩ := hP wb (Below.refl _ _)
      obtain ⟨Q0, Q1, Q2, Q3, Q4, Q5⟩ := hQ wb (Below.refl _ _)
      have cI := ints_true (.slice r1 x.ps.length j1) (.slice r4 x.ps.length j4) x.ps wb (s0.below hBw2) (t0.below hBw2) hft.ps
      clear hn1 hn2 hn1' ac bc ab bb au bu hFb
      go_upto_region 8 with fail
      clear m0 m1 m2 m3 m4 m5 n0 n1 n2 n3 n4 n5 x0 x1 x2 x3 x4 y0 y1 y2 y3 y4 hwa hwb ha1 ha2
      go_wp2_with fail
      refine cI.mono ?_
      rintro e w5 ⟨rfl, hb5⟩
      clear P0 P1 P2 P3 P4 P5 Q0 Q1 Q2 Q3 Q4 Q5 cI
      obtain ⟨P0, P1, P2, P3, P4, P5⟩ := hP w5 hb5
      obtain ⟨Q0, Q1, Q2, Q3, Q4, Q5⟩ := hQ w5 hb5
      have hBw5 := hBw2.trans (hb5.mono hBw2.size)
      have cD := same_true (.slice r2 x.d.length j2) (.slice r5 x.d.length j5) x.d w5 hft.dl (s1.below hBw5) (t1.below hBw5)
      go_wp2_with fail
      refine cD.mono ?_
      rintro e w6 ⟨rfl, hb6⟩
      have hb56 := hb5.trans (hb6.mono hb5.size)
      clear P0 P1 P2 P3 P4 P5 Q0 Q1 Q2 Q3 Q4 Q5 cD
      obtain ⟨P0, P1, P2, P3, P4, P5⟩ := hP w6 hb56
      obtain ⟨Q0, Q1, Q2, Q3, Q4, Q5⟩ := hQ w6 hb56
      have hBw6 := hBw5.trans (hb6.mono hBw5.size)
      have cO := same_true (.slice r3 x.o.length j3) (.slice r6 x.o.length j6) x.o w6 hft.ol (s2.below hBw6) (t2.below hBw6)
      go_wp2_with fail
      refine cO.mono ?_
      rintro e w7 ⟨rfl, hb7⟩
      have hb57 := hb56.trans (hb7.mono hb56.size)
      clear P0 P1 P2 P3 P4 P5 Q0 Q1 Q2 Q3 Q4 Q5 cO
      go_wp2_with fail
      exact ⟨⟨k + 1, by omega, by go_num, hbl2.trans (hb57.mono hbl2.size)⟩, by simp [Go.RowKit.intOf]; omega⟩
    · have hlt' : ¬ (k : Int) < (cs.length : Int) := by omega
      clear ac bc hFc
      go_wp2_with fail
      clear x0 x1 x2 x3 x4
      go_loopw [8] (fun i wr => ∃ k : Nat, k ≤ bs.length ∧ i = .int .i64 (k : Int) ∧ Below w2.heap.size w2 wr) (fun i _ => bs.length - (Go.RowKit.intOf i).toNat)
      case atStart => exact ⟨0, by omega, rfl, hbl⟩
      case round =>
        clear hBw hbl
        obtain ⟨k, hk, rfl, hbl⟩ := hrel
        obtain ⟨x0, x1, x2, x3, x4⟩ := hX wr hbl
        have hBw := hB0.trans (hbl.mono hB0.size)
        by_cases hlt : k < bs.length
        · have hlt' : (k : Int) < (bs.length : Int) := by omega
          obtain ⟨g, off, p1, rfl, hg, ⟨m0, m1, m2⟩, s0⟩ := ab k bs[k] (by simp [hlt])
          obtain ⟨h, oh, q1, rfl, hh, ⟨n0, n1, n2⟩, t0⟩ := bb k bs[k] (by simp [hlt])
          have hft := hFb bs[k] (List.getElem_mem hlt)
          rw [← hBw.cell (p := ⟨g, _, none⟩) hg] at m0 m1 m2
          have ha1 := alloc_bR wr (.cells #[.int .i64 bs[k].i, .string bs[k].nm, p1] 47)
          have hn1 := heap_alloc_new wr (.cells #[.int .i64 bs[k].i, .string bs[k].nm, p1] 47)
          have hBw1 := hBw.trans (ha1.mono hBw.size)
          have hbl1 := hbl.trans (ha1.mono hbl.size)
          rw [← hBw1.cell (p := ⟨h, _, none⟩) hh] at n0 n1 n2
          generalize bs[k] = x at *
          obtain ⟨r1, j1, rfl⟩ := rdi_len s0
          obtain ⟨r4, j4, rfl⟩ := rdi_len t0
          generalize hwa : wr.alloc (.cells #[.int .i64 x.i, .string x.nm, .slice r1 x.lg.length j1] 47) = wa at *
          have ha2 := alloc_bR wa (.cells #[.int .i64 x.i, .string x.nm, .slice r4 x.lg.length j4] 47)
          have hn2 := heap_alloc_new wa (.cells #[.int .i64 x.i, .string x.nm, .slice r4 x.lg.length j4] 47)
          have hBw2 := hBw1.trans (ha2.mono hBw1.size)
          have hbl2 := hbl1.trans (ha2.mono hbl1.size)
          have hn1' := (ha2.block _ (heap_lt hn1)).trans hn1
          obtain ⟨y0, y1, y2, y3, y4⟩ := hY wa hbl1
          generalize hwb : wa.alloc (.cells #[.int .i64 x.i, .string x.nm, .slice r4 x.lg.length j4] 47) = wb at *
          have q := fun j => cell_of_row wb wr.heap.size j _ _ (0, 0) hn1'
          have P0 : wb.cell? ⟨wr.heap.size, 0, none⟩ = some (.int .i64 x.i) := q 0
          have P1 : wb.cell? ⟨wr.heap.size, 1, none⟩ = some (.string x.nm) := q 1
          have P2 : wb.cell? ⟨wr.heap.size, 2, none⟩ = some (.slice r1 x.lg.length j1) := q 2
          have q' := fun j => cell_of_row wb wa.heap.size j _ _ (0, 0) hn2
          have Q0 : wb.cell? ⟨wa.heap.size, 0, none⟩ = some (.int .i64 x.i) := q' 0
          have Q1 : wb.cell? ⟨wa.heap.size, 1, none⟩ = some (.string x.nm) := q' 1
          have Q2 : wb.cell? ⟨wa.heap.size, 2, none⟩ = some (.slice r4 x.lg.length j4) := q' 2
          have cI := ints_true (.slice r1 x.lg.length j1) (.slice r4 x.lg.length j4) x.lg wb (s0.below hBw2) (t0.below hBw2) hft.lg
          clear hn1 hn2 hn1' ab bb au bu q q'
          go_upto_region 15 with fail
          clear m0 m1 m2 n0 n1 n2 x0 x1 x2 x3 x4 y0 y1 y2 y3 y4 hwa hwb ha1 ha2
          go_wp2_with fail
          refine cI.mono ?_
          rintro e w5 ⟨rfl, hb5⟩
          clear P0 P1 P2 Q0 Q1 Q2 cI
          go_wp2_with fail
          exact ⟨⟨k + 1, by omega, by go_num, hbl2.trans (hb5.mono hbl2.size)⟩, by simp [Go.RowKit.intOf]; omega⟩
        · have hlt' : ¬ (k : Int) < (bs.length : Int) := by omega
          clear ab bb hFb
          go_wp2_with fail
          clear x0 x1 x2 x3 x4
          go_loopw [11] (fun i wr => ∃ k : Nat, k ≤ us.length ∧ i = .int .i64 (k : Int) ∧ Below w2.heap.size w2 wr) (fun i _ => us.length - (Go.RowKit.intOf i).toNat)
          case atStart => exact ⟨0, by omega, rfl, hbl⟩
          case round =>
            clear hBw hbl
            obtain ⟨k, hk, rfl, hbl⟩ := hrel
            obtain ⟨x0, x1, x2, x3, x4⟩ := hX wr hbl
            have hBw := hB0.trans (hbl.mono hB0.size)
            by_cases hlt : k < us.length
            · have hlt' : (k : Int) < (us.length : Int) := by omega
              obtain ⟨g, off, rfl, hg, ⟨m0, m1, m2⟩⟩ := au k us[k] (by simp [hlt])
              obtain ⟨h, oh, rfl, hh, ⟨n0, n1, n2⟩⟩ := bu k us[k] (by simp [hlt])
              rw [← hBw.cell (p := ⟨g, _, none⟩) hg] at m0 m1 m2
              rw [← hBw.cell (p := ⟨h, _, none⟩) hh] at n0 n1 n2
              obtain ⟨y0, y1, y2, y3, y4⟩ := hY wr hbl
              generalize us[k] = x at *
              clear au bu
              go_wp2_with fail
              go_region
              go_wp2_with fail
              exact ⟨⟨k + 1, by omega, by go_num, Below.drew hbl⟩, by simp [Go.RowKit.intOf]; omega⟩
            · have hlt' : ¬ (k : Int) < (us.length : Int) := by omega
              clear au bu
              go_wp2_with fail
              go_ret
              exact ⟨rfl, hBw⟩
end Go.Proofs.Ythhdpabelcgfjaa
