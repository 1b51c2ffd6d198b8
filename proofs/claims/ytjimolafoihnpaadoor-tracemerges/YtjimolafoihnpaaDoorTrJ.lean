/-
  The program's next: the walk.
-/
import Derived.Test.YtjimolafoihnpaaDoorTrH
import Derived.Test.YtjimolafoihnpaaDoorMono
import Derived.Test.YtjimolafoihnpaaDoorBeh
import Derived.BigRegion
import Derived.Outline
import Derived.Deep.DeepCutAuto
import Derived.Deep.CutBlock
namespace Go.Proofs.YtjimolafoihnpaaDoor.tc
open Go.Maps Go.ChangeShapes Go.WideShapes Go.ChangeAt Go.RowKit Go.PlainAid

theorem evG_len : ∀ (D : List (List (Nat × Int))) (i n : Nat), (rst (evG i D) n).length ≤ D.length
  | [], i, n => by simp [evG, rst]
  | r :: D, i, n => by
    rw [evG, rst_app, List.length_append, List.length_cons]
    have h := evG_len D (i + 1) n
    have h2 : (rst (if sndD r then evR i r else []) n).length ≤ 1 := by
      by_cases hs : sndD r = true
      · rw [if_pos hs, evR_fd i n hs]
        cases fd r n <;> simp
      · rw [if_neg hs]; simp [rst]
    omega
theorem plc_len (D : List (List (Nat × Int))) (i n : Nat) : (plc D i n).length ≤ D.length := by
  have := evG_len (D.drop i) i n
  rw [List.length_drop] at this
  unfold plc
  omega
def phNx (m q nd py j1 rb : Nat) (l1 l2 : Int) : Nat → Value → World → Prop
  | 0, v, _ => v = (.pointer (some ⟨m, 0, none⟩))
  | 1, v, _ => v = (.pointer (some ⟨m, 0, none⟩))
  | 2, v, _ => v = (.pointer (some ⟨m, 2, none⟩))
  | 3, v, _ => v = (.slice (some ⟨q, 0, none⟩) nd nd)
  | 4, v, _ => v = (.pointer (some ⟨py, 0, none⟩))
  | 5, v, _ => v = (.int .i64 (j1 : Int))
  | 6, v, _ => v = (.pointer (some ⟨q, j1 * 2, none⟩))
  | 7, v, _ => v = (.agg #[.int .i64 l1, .int .i64 l2])
  | 8, v, _ => v = (.pointer (some ⟨rb, 0, none⟩))
  | 9, _, _ => True
  | _, _, _ => True
theorem phNx_stays {m q nd py j1 rb : Nat} {l1 l2 : Int} (i : Nat) (v : Value) (w w' : World) (h : phNx m q nd py j1 rb l1 l2 i v w) (_ : True) : phNx m q nd py j1 rb l1 l2 i v w' := by
  unfold phNx at h ⊢
  split at h
  all_goals first
    | exact h
    | trivial
set_option maxRecDepth 20000 in
set_option maxHeartbeats 4000000 in
theorem next_any (B m p q nn i : Nat) (dv : Value) (D : List (List (Nat × Int))) (row : List (Nat × Int)) (La : List (Int × Int)) (R : List Value) (w : World) (hM : Mt w B m p q dv D (tabP D i nn) La R) (hi : D[i]? = some row) (hs : sndD row = true) (hLa : LaOk D i La) (hD : D.length ≤ 1048576) (_hnn : nn ≤ 1048576) (hrow : ∀ r ∈ D, r.length ≤ 1048576 ∧ ∀ x ∈ r, x.1 < nn) :
    Calls Tryd.prog 27 #[.pointer (some ⟨m, 0, none⟩), .int .i64 (i : Int)] w fun e w' => ∃ (f : Nat) (La' : List (Int × Int)) (R' : List Value), e = .returned (.tuple #[.int .i64 (f : Int), .bool (decide (f < D.length))]) ∧ Mt w' B m p q dv D (tabP D (i + 1) nn) La' R' ∧ NxI D i row row.length (fun _ => False) f La' ∧ Below B w w' := by
  obtain ⟨hB1, hB2, hB3, hm0, hp0, hq0⟩ := hM.bounds
  obtain ⟨ad, cd, rfl, hcd⟩ := hM.docs.form
  obtain ⟨x0, x1, x2⟩ := hM.cells
  have hiD : i < D.length := (List.getElem?_eq_some_iff.1 hi).1
  have hiD' : (i : Int) < (D.length : Int) := by omega
  obtain ⟨gd, od, rv, e1, hgd, c0, hlr⟩ := hM.docs.at hi
  obtain ⟨ar, kr, rfl, hkr⟩ := hlr.form
  obtain ⟨hrl, hrn⟩ := hrow row (List.mem_of_getElem? hi)
  subst e1
  have hM0 := hM
  rw [← tabN_zero D i row nn] at hM0
  have hN0 := NxI.start (row := row) hLa
  clear hLa hrow
  go_enter Tryd.func27, Tryd.ntmps27
  go_wp2_with fail
  clear x0 x1 x2 c0 hM
  go_loopw [6, 25] (fun fv iv wr => ∃ e f : Nat, e ≤ row.length ∧ fv = .int .i64 (f : Int) ∧ iv = .int .i64 (e : Int) ∧ (∃ La R, Mt wr B m p q (.slice (some ⟨gd, od, none⟩) D.length cd) D (tabN D i row e nn) La R ∧ NxI D i row e (fun _ => False) f La) ∧ Ln wr 114 (.slice ar row.length kr) row.length (row.map cA).flatten ∧ Below B w wr) (fun _ iv _ => row.length - (Go.RowKit.intOf iv).toNat)
  case atStart => exact ⟨0, D.length, by omega, rfl, rfl, ⟨La, R, hM0, hN0⟩, hlr, Below.refl _ _⟩
  case round =>
    obtain ⟨e, f, he, rfl, rfl, ⟨Lb, Rb, hM1, hN1⟩, hlr1, hb1⟩ := hrel
    clear hM0 hN0 hlr
    by_cases hle : e < row.length
    · have hle' : (e : Int) < (row.length : Int) := by omega
      have hxe : row[e]? = some row[e] := by simp [hle]
      have hxn := hrn row[e] (List.getElem_mem hle)
      have f0 := flat_at cA 2 cA_len row e _ hxe 0 (by decide)
      have f1 := flat_at cA 2 cA_len row e _ hxe 1 (by decide)
      obtain ⟨ga, oa, cur, e1, hga, hcell⟩ := hlr1.at (j := e * 2 + 0) (u := .int .i64 (row[e].1 : Int)) f0
      have c0 : wr.cell? ⟨ga, oa + e * 2, none⟩ = some (.int .i64 (row[e].1 : Int)) := hcell _ _ f0
      have c1 : wr.cell? ⟨ga, oa + e * 2 + 1, none⟩ = some (.int .i64 row[e].2) := hcell _ _ f1
      have HST : Hid ((tabN D i row e nn).set row[e].1 (plc D (i + 1) row[e].1) = tabN D i row (e + 1) nn) := tabN_step hxe hxn
      have HXE : Hid (row[e]? = some row[e]) := hxe
      have hXs := tabN_at hi hs hxe hxn
      subst e1
      clear f0 f1 hcell hga hxe cur
      generalize row[e] = x at *
      have hal := alloc_b wr (.cells #[.int .i64 (x.1 : Int), .int .i64 x.2] 114)
      have hax : (wr.alloc (.cells #[.int .i64 (x.1 : Int), .int .i64 x.2] 114)).heap[wr.heap.size]? = some (.cells #[.int .i64 (x.1 : Int), .int .i64 x.2] 114) := heap_alloc_new _ _
      have hM2 := hM1.below hal
      have hlr2 := hlr1.below hal
      have hBw : B ≤ wr.heap.size := by have := hM1.bounds; omega
      have hb2 := hb1.alloc hBw (.cells #[.int .i64 (x.1 : Int), .int .i64 x.2] 114)
      have hXl := tabN_len D i row e nn
      generalize tabN D i row e nn = X at *
      obtain ⟨rr, hrr⟩ : ∃ rr, Rb[x.1]? = some rr := ⟨_, List.getElem?_eq_getElem (by rw [hM2.len.1, hXl]; exact hxn)⟩
      have hln := hM2.rows x.1 rr _ hrr hXs
      obtain ⟨a2, k2, rfl, hk2⟩ := hln.form
      rw [List.length_cons] at hrr hk2 hln
      have f0 := flat_at cP 3 cP_len _ 0 (i, e, x.2) (show ((i, e, x.2) :: plc D (i + 1) x.1)[0]? = some (i, e, x.2) from rfl) 0 (by decide)
      obtain ⟨g2, o2, cur2, rfl, hg2, -⟩ := hln.at f0
      clear f0 hln hg2 cur2
      have hM3 := hM2.cut (ao := if k2 = 1 then some ⟨g2, o2, none⟩ else some ⟨g2, o2 + 3, none⟩) hrr hXs (by
        by_cases h1 : k2 = 1
        · left
          exact List.length_eq_zero_iff.1 (by omega)
        · right
          rw [if_neg h1])
      have hP3 : (tabN D i row (e + 1) nn)[x.1]? = some (plc D (i + 1) x.1) := by rw [← HST.out, List.getElem?_set_self (by rw [hXl]; exact hxn)]
      have hR3 := List.getElem?_set_self (l := Rb) (i := x.1) (a := .slice (if k2 = 1 then some ⟨g2, o2, none⟩ else some ⟨g2, o2 + 3, none⟩) (plc D (i + 1) x.1).length (k2 - 1)) (List.getElem?_eq_some_iff.1 hrr).1
      rw [HST.out] at hM3
      have hln3 := hM3.rows x.1 _ _ hR3 hP3
      have s3 := own_set_sm hM2.top (show 119 ≠ 114 by decide) x.1 (.slice (if k2 = 1 then some ⟨g2, o2, none⟩ else some ⟨g2, o2 + 3, none⟩) (plc D (i + 1) x.1).length (k2 - 1))
      have hlr3 := hlr2.sm s3
      have hax3 := s3 _ _ hax
      have hb3 := hb2.setCell (p := ⟨p, x.1, none⟩) hB2 (.slice (if k2 = 1 then some ⟨g2, o2, none⟩ else some ⟨g2, o2 + 3, none⟩) (plc D (i + 1) x.1).length (k2 - 1))
      obtain ⟨y0, y1, y2⟩ := hM2.cells
      obtain ⟨z0, z1⟩ := hM2.slot hrr
      have a0 := cell_of_row _ wr.heap.size 0 _ _ (0, 0) hax
      change (wr.alloc (.cells #[.int .i64 (x.1 : Int), .int .i64 x.2] 114)).cell? _ = some (.int .i64 (x.1 : Int)) at a0
      have hxn' : (x.1 : Int) < (X.length : Int) := by omega
      have hpl := plc_len D (i + 1) x.1
      clear hM1 hlr1 hal
      go_upto_region 5 with fail
      generalize wr.alloc _ = w4 at *
      generalize hba : wr.heap.size = ba at *
      clear hM2 hlr2 hax hb2 s3
      go_region
      generalize (if k2 = 1 then some (⟨g2, o2, none⟩ : Addr) else some ⟨g2, o2 + 3, none⟩) = ao2 at *
      clear y0 y1 y2 z0 z1 a0
      have hdw : Below (w4.setCell ⟨p, x.1, none⟩ (.slice ao2 (plc D (i + 1) x.1).length (k2 - 1))).heap.size (w4.setCell ⟨p, x.1, none⟩ (.slice ao2 (plc D (i + 1) x.1).length (k2 - 1))) (w4.setCell ⟨p, x.1, none⟩ (.slice ao2 (plc D (i + 1) x.1).length (k2 - 1))).drew := (Below.refl _ _).drew
      replace hM3 := hM3.below hdw
      replace hln3 := hln3.below hdw
      replace hlr3 := hlr3.below hdw
      replace hax3 := (hdw.block _ (lt_heap hax3)).trans hax3
      replace hb3 := hb3.drew
      clear hdw
      generalize (w4.setCell ⟨p, x.1, none⟩ (.slice ao2 (plc D (i + 1) x.1).length (k2 - 1))).drew = w5 at *
      generalize Rb.set x.1 (.slice ao2 (plc D (i + 1) x.1).length (k2 - 1)) = Rc at *
      obtain ⟨y0, y1, y2⟩ := hM3.cells
      obtain ⟨z0, z1⟩ := hM3.slot hR3
      have a0 := cell_of_row _ ba 0 _ _ (0, 0) hax3
      change w5.cell? _ = some (.int .i64 (x.1 : Int)) at a0
      rw [tabN_len] at y1
      have hxn'' : (x.1 : Int) < (nn : Int) := by omega
      have y1s : ∀ s : Beh w5, s.it.cell? ⟨m, 1, none⟩ = _ := fun s => (s.h.cell (p := ⟨m, 1, none⟩) hM3.bounds.2.2.2.1).trans y1
      have z0s : ∀ s : Beh w5, s.it.cell? ⟨p, x.1, none⟩ = _ := fun s => (s.h.cell (p := ⟨p, x.1, none⟩) hM3.bounds.2.2.2.2.1).trans z0
      have a0s : ∀ s : Beh w5, s.it.cell? ⟨ba, 0, none⟩ = _ := fun s => (s.h.cell (p := ⟨ba, 0, none⟩) (lt_heap hax3)).trans a0
      clear y0 y1 y2 z0 z1 a0 hba
      go_upto_region 6 with fail
      refine wp_region_beh (by kernel_rfl) (by kernel_rfl) ?_
      repeat (go_big_quiet_step (fail))
      refine wpQuiet_nil ?_
      intro w6 hw'
      have hwq := Beh.out hw'
      clear hw' y1s z0s a0s
      have hM4 := hM3.below hwq
      have hln4 := hln3.below hwq
      have hlr4 := hlr3.below hwq
      have hax4 : w6.heap[ba]? = some (.cells #[.int .i64 (x.1 : Int), .int .i64 x.2] 114) := (hwq.block _ (lt_heap hax3)).trans hax3
      have hb4 := hb3.trans (hwq.mono (by have := hM3.bounds; omega))
      clear hM3 hln3 hlr3 hax3 hb3 hwq
      go_wp2_with fail
      generalize wr = wa at *
      go_loopw [6, 54] (fun fv iv wr => ∃ k g : Nat, k ≤ (plc D (i + 1) x.1).length ∧ fv = .int .i64 (g : Int) ∧ iv = .int .i64 (k : Int) ∧ (∃ Ld, Mt wr B m p q (.slice (some ⟨gd, od, none⟩) D.length cd) D (tabN D i row (e + 1) nn) Ld Rc ∧ NxI D i row e (fun j => ∃ t y, t < k ∧ (plc D (i + 1) x.1)[t]? = some y ∧ y.1 = j) g Ld) ∧ Ln wr 121 (.slice ao2 (plc D (i + 1) x.1).length (k2 - 1)) (plc D (i + 1) x.1).length ((plc D (i + 1) x.1).map cP).flatten ∧ Ln wr 114 (.slice (some ⟨ga, oa, none⟩) row.length kr) row.length (row.map cA).flatten ∧ wr.heap[ba]? = some (.cells #[.int .i64 (x.1 : Int), .int .i64 x.2] 114) ∧ Below B w wr) (fun _ iv _ => (plc D (i + 1) x.1).length - (Go.RowKit.intOf iv).toNat)
      case atStart =>
        refine ⟨0, f, by omega, rfl, rfl, ⟨Lb, hM4, ?_⟩, hln4, hlr4, hax4, hb4⟩
        have e0 : (fun j => ∃ t y, t < 0 ∧ (plc D (i + 1) x.1)[t]? = some y ∧ y.1 = j) = fun _ : Nat => False := by
          funext j
          simp
        rw [e0]
        exact hN1
      case round =>
        obtain ⟨k, g, hk, rfl, rfl, ⟨Ld, hM5, hN5⟩, hln5, hlr5, hax5, hb5⟩ := hrel
        clear hM4 hln4 hlr4 hax4 hb4 hN1
        by_cases hkl : k < (plc D (i + 1) x.1).length
        · have hkl' : (k : Int) < ((plc D (i + 1) x.1).length : Int) := by omega
          have hyk : (plc D (i + 1) x.1)[k]? = some (plc D (i + 1) x.1)[k] := by simp [hkl]
          have hym := plc_mem.1 (List.getElem_mem hkl)
          have f0 := flat_at cP 3 cP_len _ k _ hyk 0 (by decide)
          have f1 := flat_at cP 3 cP_len _ k _ hyk 1 (by decide)
          have f2 := flat_at cP 3 cP_len _ k _ hyk 2 (by decide)
          obtain ⟨gp, op, cur, e1, hgp, hcell⟩ := hln5.at f0
          have c0 : wr.cell? ⟨gp, op + k * 3, none⟩ = some (.int .i64 ((plc D (i + 1) x.1)[k].1 : Int)) := hcell _ _ f0
          have c1 : wr.cell? ⟨gp, op + k * 3 + 1, none⟩ = some (.int .i64 ((plc D (i + 1) x.1)[k].2.1 : Int)) := hcell _ _ f1
          have c2 : wr.cell? ⟨gp, op + k * 3 + 2, none⟩ = some (.int .i64 (plc D (i + 1) x.1)[k].2.2) := hcell _ _ f2
          subst e1
          have HYK : Hid ((plc D (i + 1) x.1)[k]? = some (plc D (i + 1) x.1)[k]) := hyk
          clear f0 f1 f2 hcell hgp hyk cur
          generalize (plc D (i + 1) x.1)[k] = y at *
          have hBw : B ≤ wr.heap.size := by have := hM5.bounds; omega
          have hal := alloc_b wr (.cells #[.int .i64 (y.1 : Int), .int .i64 (y.2.1 : Int), .int .i64 y.2.2] 121)
          have hay : (wr.alloc (.cells #[.int .i64 (y.1 : Int), .int .i64 (y.2.1 : Int), .int .i64 y.2.2] 121)).heap[wr.heap.size]? = some (.cells #[.int .i64 (y.1 : Int), .int .i64 (y.2.1 : Int), .int .i64 y.2.2] 121) := heap_alloc_new _ _
          have hM6 := hM5.below hal
          have hln6 := hln5.below hal
          have hlr6 := hlr5.below hal
          have hax6 := (hal.block _ (lt_heap hax5)).trans hax5
          have hb6 := hb5.alloc hBw (.cells #[.int .i64 (y.1 : Int), .int .i64 (y.2.1 : Int), .int .i64 y.2.2] 121)
          clear hM5 hln5 hlr5 hax5 hb5 hal
          by_cases hgy : g ≤ y.1
          · have hgy' : (g : Int) ≤ (y.1 : Int) := by omega
            have HN6 := hN5.atom HXE.out (out_all (.inr ⟨y, HYK.out, hgy⟩))
            have HN7 : Hid (NxI D i row (e + 1) (fun _ => False) g Ld) := HN6
            clear HN6 hN5
            go_upto_region 15 with fail
            go_wp21
            exact ⟨⟨e + 1, g, by omega, by go_num, by go_num, ⟨Ld, Rc, hM6, HN7.out⟩, hlr6, hb6⟩, by simp [Go.RowKit.intOf]; omega⟩
          · have hgy' : ¬ (g : Int) ≤ (y.1 : Int) := by omega
            obtain ⟨r, hij, hr, hsr, hfr⟩ := hym
            have hyD : y.1 < D.length := (List.getElem?_eq_some_iff.1 hr).1
            have hyD' : (y.1 : Int) < (D.length : Int) := by omega
            obtain ⟨l, hl⟩ : ∃ l, Ld[y.1]? = some l := ⟨_, List.getElem?_eq_getElem (by rw [hN5.len]; exact hyD)⟩
            obtain ⟨y0, y1, y2⟩ := hM6.cells
            obtain ⟨q0, q1, q2⟩ := hM6.at hl
            have hnq : ¬ ∃ t y', t < k ∧ (plc D (i + 1) x.1)[t]? = some y' ∧ y'.1 = y.1 := by
              rintro ⟨t, y', h1, h2, h3⟩
              have hup := plc_up D (i + 1) x.1
              have htl := (List.getElem?_eq_some_iff.1 h2).1
              have h6 := List.pairwise_iff_getElem.1 hup t k htl hkl h1
              rw [(List.getElem?_eq_some_iff.1 h2).2, (List.getElem?_eq_some_iff.1 HYK.out).2] at h6
              omega
            have HPL0 := hN5.place HXE.out (by omega) (by omega) hr hsr hl hfr hnq
            have HQ : (fun q' => (∃ t y', t < k ∧ (plc D (i + 1) x.1)[t]? = some y' ∧ y'.1 = q') ∨ q' = y.1) = fun j => ∃ t y', t < k + 1 ∧ (plc D (i + 1) x.1)[t]? = some y' ∧ y'.1 = j := by
              funext j
              apply propext
              constructor
              · rintro (⟨t, y', h1, h2, h3⟩ | rfl)
                · exact ⟨t, y', by omega, h2, h3⟩
                · exact ⟨k, y, by omega, HYK.out, rfl⟩
              · rintro ⟨t, y', h1, h2, h3⟩
                by_cases htk : t = k
                · subst htk
                  rw [HYK.out] at h2
                  cases h2
                  exact .inr h3.symm
                · exact .inl ⟨t, y', by omega, h2, h3⟩
            rw [HQ] at HPL0
            have HPL : Hid (NxI D i row e (fun j => ∃ t y', t < k + 1 ∧ (plc D (i + 1) x.1)[t]? = some y' ∧ y'.1 = j) (if y.2.2 ≠ x.2 ∨ (y.2.1 : Int) < eff i l then y.1 else g) (Ld.set y.1 ((i : Int), (y.2.1 : Int)))) := HPL0
            clear HPL0 HQ hnq hN5 hfr hsr hr
            have p0 := cell_of_row _ wr.heap.size 0 _ _ (0, 0) hay
            change (wr.alloc (.cells #[.int .i64 (y.1 : Int), .int .i64 (y.2.1 : Int), .int .i64 y.2.2] 121)).cell? _ = some (.int .i64 (y.1 : Int)) at p0
            go_upto_region 10 with fail
            have hBw7 : B ≤ (wr.alloc (.cells #[.int .i64 (y.1 : Int), .int .i64 (y.2.1 : Int), .int .i64 y.2.2] 121)).heap.size := by simp; omega
            generalize wr.alloc (.cells #[.int .i64 (y.1 : Int), .int .i64 (y.2.1 : Int), .int .i64 y.2.2] 121) = w7 at *
            generalize wr.heap.size = py at *
            have hal7 : Below w7.heap.size w7 (w7.drew.alloc (.cells #[.int .i64 l.1, .int .i64 l.2] 123)) := drew_alN w7 _
            have hrb : (w7.drew.alloc (.cells #[.int .i64 l.1, .int .i64 l.2] 123)).heap[w7.heap.size]? = some (.cells #[.int .i64 l.1, .int .i64 l.2] 123) := heap_alloc_new w7.drew _
            have hM8 := hM6.below hal7
            have hln8 := hln6.below hal7
            have hlr8 := hlr6.below hal7
            have hax8 := (hal7.block _ (lt_heap hax6)).trans hax6
            have hay8 := (hal7.block _ (lt_heap hay)).trans hay
            have hb8 : Below B w (w7.drew.alloc (.cells #[.int .i64 l.1, .int .i64 l.2] 123)) := hb6.drew.alloc hBw7 _
            have y2a : (w7.drew.alloc (.cells #[.int .i64 0, .int .i64 0] 123)).cell? ⟨m, 2, none⟩ = _ := cell_alN (W := w7.drew) y2 _
            have q0a : (w7.drew.alloc (.cells #[.int .i64 0, .int .i64 0] 123)).cell? ⟨q, y.1 * 2, none⟩ = _ := cell_alN (W := w7.drew) q0 _
            have q1a : (w7.drew.alloc (.cells #[.int .i64 0, .int .i64 0] 123)).cell? ⟨q, y.1 * 2 + 1, none⟩ = _ := cell_alN (W := w7.drew) q1 _
            have p0a : (w7.drew.alloc (.cells #[.int .i64 0, .int .i64 0] 123)).cell? ⟨py, 0, none⟩ = _ := cell_alN (W := w7.drew) p0 _
            have y2b : (w7.drew.alloc (.cells #[.int .i64 l.1, .int .i64 l.2] 123)).cell? ⟨m, 2, none⟩ = _ := cell_alN (W := w7.drew) y2 _
            have q0b : (w7.drew.alloc (.cells #[.int .i64 l.1, .int .i64 l.2] 123)).cell? ⟨q, y.1 * 2, none⟩ = _ := cell_alN (W := w7.drew) q0 _
            have q1b : (w7.drew.alloc (.cells #[.int .i64 l.1, .int .i64 l.2] 123)).cell? ⟨q, y.1 * 2 + 1, none⟩ = _ := cell_alN (W := w7.drew) q1 _
            have p0b : (w7.drew.alloc (.cells #[.int .i64 l.1, .int .i64 l.2] 123)).cell? ⟨py, 0, none⟩ = _ := cell_alN (W := w7.drew) p0 _
            refine mono.region_monoS (fun _ _ => True) (fun _ => trivial) (fun _ _ _ _ _ => trivial) (phNx m q D.length py y.1 w7.heap.size l.1 l.2) (mono.BxW 8 9 10 w7.drew (w7.drew.alloc (.cells #[.int .i64 0, .int .i64 0] 123)) (w7.drew.alloc (.cells #[.int .i64 l.1, .int .i64 l.2] 123)) (w7.drew.alloc (.cells #[.int .i64 l.1, .int .i64 l.2] 123))) 111 [] [0, 1, 2, 3, 4, 5, 6, 7, 8, 9] (by kernel_rfl) rfl rfl (by kernel_rfl) [] (by kernel_rfl) (by simp) phNx_stays mono.BxW.begin (.cons ?_ (.cons ?_ (.cons ?_ (.cons ?_ (.cons ?_ (.cons ?_ (.cons ?_ (.cons ?_ (.cons ?_ (.cons ?_ (.nil))))))))))) ?_
            · refine mono.dutyS_of rfl ?_
              intro f W L hR hO hD hL hi hX K hK
              have eL : mono.lit 111 f [] = ⟨#[f 0, f 1, f 2, f 3, f 4, f 5, f 6, f 7, f 8, f 9, f 10, f 11, f 12, f 13, f 14, f 15, f 16, f 17, f 18, f 19, f 20, f 21, f 22, f 23, f 24, f 25, f 26, f 27, f 28, f 29, f 30, f 31, f 32, f 33, f 34, f 35, f 36, f 37, f 38, f 39, f 40, f 41, f 42, f 43, f 44, f 45, f 46, f 47, f 48, f 49, f 50, f 51, f 52, f 53, f 54, f 55, f 56, f 57, f 58, f 59, f 60, f 61, f 62, f 63, f 64, f 65, f 66, f 67, f 68, f 69, f 70, f 71, f 72, f 73, f 74, f 75, f 76, f 77, f 78, f 79, f 80, f 81, f 82, f 83, f 84, f 85, f 86, f 87, f 88, f 89, f 90, f 91, f 92, f 93, f 94, f 95, f 96, f 97, f 98, f 99, f 100, f 101, f 102, f 103, f 104, f 105, f 106, f 107, f 108, f 109, f 110], []⟩ := rfl
              replace hK : ∀ v W', True → phNx m q D.length py y.1 w7.heap.size l.1 l.2 0 v W' → mono.BxW 8 9 10 w7.drew (w7.drew.alloc (.cells #[.int .i64 0, .int .i64 0] 123)) (w7.drew.alloc (.cells #[.int .i64 l.1, .int .i64 l.2] 123)) (w7.drew.alloc (.cells #[.int .i64 l.1, .int .i64 l.2] 123)) (fun j => if j = 0 then true else L j) W' → K ((mono.lit 111 f []).put (some 62) v) W' := hK
              rw [eL] at hK ⊢
              simp only [Act.put, List.setIfInBounds_toArray, List.set_cons_succ, List.set_cons_zero] at hK
              have o0 : f 0 = (.pointer (some ⟨m, 0, none⟩)) := hO 0 (by kernel_rfl)
              rw [o0] at hK ⊢
              obtain ⟨hB, hw⟩ := hX.pure 0 hi (by decide) (by decide) (by decide)
              go_simp
              exact hK _ _ trivial rfl hB
            · refine mono.dutyS_of rfl ?_
              intro f W L hR hO hD hL hi hX K hK
              have eL : mono.lit 111 f [] = ⟨#[f 0, f 1, f 2, f 3, f 4, f 5, f 6, f 7, f 8, f 9, f 10, f 11, f 12, f 13, f 14, f 15, f 16, f 17, f 18, f 19, f 20, f 21, f 22, f 23, f 24, f 25, f 26, f 27, f 28, f 29, f 30, f 31, f 32, f 33, f 34, f 35, f 36, f 37, f 38, f 39, f 40, f 41, f 42, f 43, f 44, f 45, f 46, f 47, f 48, f 49, f 50, f 51, f 52, f 53, f 54, f 55, f 56, f 57, f 58, f 59, f 60, f 61, f 62, f 63, f 64, f 65, f 66, f 67, f 68, f 69, f 70, f 71, f 72, f 73, f 74, f 75, f 76, f 77, f 78, f 79, f 80, f 81, f 82, f 83, f 84, f 85, f 86, f 87, f 88, f 89, f 90, f 91, f 92, f 93, f 94, f 95, f 96, f 97, f 98, f 99, f 100, f 101, f 102, f 103, f 104, f 105, f 106, f 107, f 108, f 109, f 110], []⟩ := rfl
              replace hK : ∀ v W', True → phNx m q D.length py y.1 w7.heap.size l.1 l.2 1 v W' → mono.BxW 8 9 10 w7.drew (w7.drew.alloc (.cells #[.int .i64 0, .int .i64 0] 123)) (w7.drew.alloc (.cells #[.int .i64 l.1, .int .i64 l.2] 123)) (w7.drew.alloc (.cells #[.int .i64 l.1, .int .i64 l.2] 123)) (fun j => if j = 1 then true else L j) W' → K ((mono.lit 111 f []).put (some 63) v) W' := hK
              rw [eL] at hK ⊢
              simp only [Act.put, List.setIfInBounds_toArray, List.set_cons_succ, List.set_cons_zero] at hK
              have q0 : f 62 = (.pointer (some ⟨m, 0, none⟩)) := hD 0 62 (by kernel_rfl) (by kernel_rfl)
              rw [q0] at hK ⊢
              obtain ⟨hB, hw⟩ := hX.pure 1 hi (by decide) (by decide) (by decide)
              go_simp
              exact hK _ _ trivial rfl hB
            · refine mono.dutyS_of rfl ?_
              intro f W L hR hO hD hL hi hX K hK
              have eL : mono.lit 111 f [] = ⟨#[f 0, f 1, f 2, f 3, f 4, f 5, f 6, f 7, f 8, f 9, f 10, f 11, f 12, f 13, f 14, f 15, f 16, f 17, f 18, f 19, f 20, f 21, f 22, f 23, f 24, f 25, f 26, f 27, f 28, f 29, f 30, f 31, f 32, f 33, f 34, f 35, f 36, f 37, f 38, f 39, f 40, f 41, f 42, f 43, f 44, f 45, f 46, f 47, f 48, f 49, f 50, f 51, f 52, f 53, f 54, f 55, f 56, f 57, f 58, f 59, f 60, f 61, f 62, f 63, f 64, f 65, f 66, f 67, f 68, f 69, f 70, f 71, f 72, f 73, f 74, f 75, f 76, f 77, f 78, f 79, f 80, f 81, f 82, f 83, f 84, f 85, f 86, f 87, f 88, f 89, f 90, f 91, f 92, f 93, f 94, f 95, f 96, f 97, f 98, f 99, f 100, f 101, f 102, f 103, f 104, f 105, f 106, f 107, f 108, f 109, f 110], []⟩ := rfl
              replace hK : ∀ v W', True → phNx m q D.length py y.1 w7.heap.size l.1 l.2 2 v W' → mono.BxW 8 9 10 w7.drew (w7.drew.alloc (.cells #[.int .i64 0, .int .i64 0] 123)) (w7.drew.alloc (.cells #[.int .i64 l.1, .int .i64 l.2] 123)) (w7.drew.alloc (.cells #[.int .i64 l.1, .int .i64 l.2] 123)) (fun j => if j = 2 then true else L j) W' → K ((mono.lit 111 f []).put (some 64) v) W' := hK
              rw [eL] at hK ⊢
              simp only [Act.put, List.setIfInBounds_toArray, List.set_cons_succ, List.set_cons_zero] at hK
              have q1 : f 63 = (.pointer (some ⟨m, 0, none⟩)) := hD 1 63 (by kernel_rfl) (by kernel_rfl)
              rw [q1] at hK ⊢
              obtain ⟨hB, hw⟩ := hX.pure 2 hi (by decide) (by decide) (by decide)
              go_simp
              exact hK _ _ trivial rfl hB
            · refine mono.dutyS_of rfl ?_
              intro f W L hR hO hD hL hi hX K hK
              have eL : mono.lit 111 f [] = ⟨#[f 0, f 1, f 2, f 3, f 4, f 5, f 6, f 7, f 8, f 9, f 10, f 11, f 12, f 13, f 14, f 15, f 16, f 17, f 18, f 19, f 20, f 21, f 22, f 23, f 24, f 25, f 26, f 27, f 28, f 29, f 30, f 31, f 32, f 33, f 34, f 35, f 36, f 37, f 38, f 39, f 40, f 41, f 42, f 43, f 44, f 45, f 46, f 47, f 48, f 49, f 50, f 51, f 52, f 53, f 54, f 55, f 56, f 57, f 58, f 59, f 60, f 61, f 62, f 63, f 64, f 65, f 66, f 67, f 68, f 69, f 70, f 71, f 72, f 73, f 74, f 75, f 76, f 77, f 78, f 79, f 80, f 81, f 82, f 83, f 84, f 85, f 86, f 87, f 88, f 89, f 90, f 91, f 92, f 93, f 94, f 95, f 96, f 97, f 98, f 99, f 100, f 101, f 102, f 103, f 104, f 105, f 106, f 107, f 108, f 109, f 110], []⟩ := rfl
              replace hK : ∀ v W', True → phNx m q D.length py y.1 w7.heap.size l.1 l.2 3 v W' → mono.BxW 8 9 10 w7.drew (w7.drew.alloc (.cells #[.int .i64 0, .int .i64 0] 123)) (w7.drew.alloc (.cells #[.int .i64 l.1, .int .i64 l.2] 123)) (w7.drew.alloc (.cells #[.int .i64 l.1, .int .i64 l.2] 123)) (fun j => if j = 3 then true else L j) W' → K ((mono.lit 111 f []).put (some 65) v) W' := hK
              rw [eL] at hK ⊢
              simp only [Act.put, List.setIfInBounds_toArray, List.set_cons_succ, List.set_cons_zero] at hK
              have q2 : f 64 = (.pointer (some ⟨m, 2, none⟩)) := hD 2 64 (by kernel_rfl) (by kernel_rfl)
              rw [q2] at hK ⊢
              obtain ⟨hB, hw⟩ := hX.pure 3 hi (by decide) (by decide) (by decide)
              have yld : W.cell? ⟨m, 2, none⟩ = some (.slice (some ⟨q, 0, none⟩) D.length D.length) := by
                rcases hw with rfl | rfl | rfl
                · exact y2
                · exact y2a
                · exact y2b
              go_simp
              exact hK _ _ trivial rfl hB
            · refine mono.dutyS_of rfl ?_
              intro f W L hR hO hD hL hi hX K hK
              have eL : mono.lit 111 f [] = ⟨#[f 0, f 1, f 2, f 3, f 4, f 5, f 6, f 7, f 8, f 9, f 10, f 11, f 12, f 13, f 14, f 15, f 16, f 17, f 18, f 19, f 20, f 21, f 22, f 23, f 24, f 25, f 26, f 27, f 28, f 29, f 30, f 31, f 32, f 33, f 34, f 35, f 36, f 37, f 38, f 39, f 40, f 41, f 42, f 43, f 44, f 45, f 46, f 47, f 48, f 49, f 50, f 51, f 52, f 53, f 54, f 55, f 56, f 57, f 58, f 59, f 60, f 61, f 62, f 63, f 64, f 65, f 66, f 67, f 68, f 69, f 70, f 71, f 72, f 73, f 74, f 75, f 76, f 77, f 78, f 79, f 80, f 81, f 82, f 83, f 84, f 85, f 86, f 87, f 88, f 89, f 90, f 91, f 92, f 93, f 94, f 95, f 96, f 97, f 98, f 99, f 100, f 101, f 102, f 103, f 104, f 105, f 106, f 107, f 108, f 109, f 110], []⟩ := rfl
              replace hK : ∀ v W', True → phNx m q D.length py y.1 w7.heap.size l.1 l.2 4 v W' → mono.BxW 8 9 10 w7.drew (w7.drew.alloc (.cells #[.int .i64 0, .int .i64 0] 123)) (w7.drew.alloc (.cells #[.int .i64 l.1, .int .i64 l.2] 123)) (w7.drew.alloc (.cells #[.int .i64 l.1, .int .i64 l.2] 123)) (fun j => if j = 4 then true else L j) W' → K ((mono.lit 111 f []).put (some 66) v) W' := hK
              rw [eL] at hK ⊢
              simp only [Act.put, List.setIfInBounds_toArray, List.set_cons_succ, List.set_cons_zero] at hK
              have o10 : f 10 = (.pointer (some ⟨py, 0, none⟩)) := hO 10 (by kernel_rfl)
              rw [o10] at hK ⊢
              obtain ⟨hB, hw⟩ := hX.pure 4 hi (by decide) (by decide) (by decide)
              go_simp
              exact hK _ _ trivial rfl hB
            · refine mono.dutyS_of rfl ?_
              intro f W L hR hO hD hL hi hX K hK
              have eL : mono.lit 111 f [] = ⟨#[f 0, f 1, f 2, f 3, f 4, f 5, f 6, f 7, f 8, f 9, f 10, f 11, f 12, f 13, f 14, f 15, f 16, f 17, f 18, f 19, f 20, f 21, f 22, f 23, f 24, f 25, f 26, f 27, f 28, f 29, f 30, f 31, f 32, f 33, f 34, f 35, f 36, f 37, f 38, f 39, f 40, f 41, f 42, f 43, f 44, f 45, f 46, f 47, f 48, f 49, f 50, f 51, f 52, f 53, f 54, f 55, f 56, f 57, f 58, f 59, f 60, f 61, f 62, f 63, f 64, f 65, f 66, f 67, f 68, f 69, f 70, f 71, f 72, f 73, f 74, f 75, f 76, f 77, f 78, f 79, f 80, f 81, f 82, f 83, f 84, f 85, f 86, f 87, f 88, f 89, f 90, f 91, f 92, f 93, f 94, f 95, f 96, f 97, f 98, f 99, f 100, f 101, f 102, f 103, f 104, f 105, f 106, f 107, f 108, f 109, f 110], []⟩ := rfl
              replace hK : ∀ v W', True → phNx m q D.length py y.1 w7.heap.size l.1 l.2 5 v W' → mono.BxW 8 9 10 w7.drew (w7.drew.alloc (.cells #[.int .i64 0, .int .i64 0] 123)) (w7.drew.alloc (.cells #[.int .i64 l.1, .int .i64 l.2] 123)) (w7.drew.alloc (.cells #[.int .i64 l.1, .int .i64 l.2] 123)) (fun j => if j = 5 then true else L j) W' → K ((mono.lit 111 f []).put (some 67) v) W' := hK
              rw [eL] at hK ⊢
              simp only [Act.put, List.setIfInBounds_toArray, List.set_cons_succ, List.set_cons_zero] at hK
              have q4 : f 66 = (.pointer (some ⟨py, 0, none⟩)) := hD 4 66 (by kernel_rfl) (by kernel_rfl)
              rw [q4] at hK ⊢
              obtain ⟨hB, hw⟩ := hX.pure 5 hi (by decide) (by decide) (by decide)
              have yld : W.cell? ⟨py, 0, none⟩ = some (.int .i64 (y.1 : Int)) := by
                rcases hw with rfl | rfl | rfl
                · exact p0
                · exact p0a
                · exact p0b
              go_simp
              exact hK _ _ trivial rfl hB
            · refine mono.dutyS_of rfl ?_
              intro f W L hR hO hD hL hi hX K hK
              have eL : mono.lit 111 f [] = ⟨#[f 0, f 1, f 2, f 3, f 4, f 5, f 6, f 7, f 8, f 9, f 10, f 11, f 12, f 13, f 14, f 15, f 16, f 17, f 18, f 19, f 20, f 21, f 22, f 23, f 24, f 25, f 26, f 27, f 28, f 29, f 30, f 31, f 32, f 33, f 34, f 35, f 36, f 37, f 38, f 39, f 40, f 41, f 42, f 43, f 44, f 45, f 46, f 47, f 48, f 49, f 50, f 51, f 52, f 53, f 54, f 55, f 56, f 57, f 58, f 59, f 60, f 61, f 62, f 63, f 64, f 65, f 66, f 67, f 68, f 69, f 70, f 71, f 72, f 73, f 74, f 75, f 76, f 77, f 78, f 79, f 80, f 81, f 82, f 83, f 84, f 85, f 86, f 87, f 88, f 89, f 90, f 91, f 92, f 93, f 94, f 95, f 96, f 97, f 98, f 99, f 100, f 101, f 102, f 103, f 104, f 105, f 106, f 107, f 108, f 109, f 110], []⟩ := rfl
              replace hK : ∀ v W', True → phNx m q D.length py y.1 w7.heap.size l.1 l.2 6 v W' → mono.BxW 8 9 10 w7.drew (w7.drew.alloc (.cells #[.int .i64 0, .int .i64 0] 123)) (w7.drew.alloc (.cells #[.int .i64 l.1, .int .i64 l.2] 123)) (w7.drew.alloc (.cells #[.int .i64 l.1, .int .i64 l.2] 123)) (fun j => if j = 6 then true else L j) W' → K ((mono.lit 111 f []).put (some 68) v) W' := hK
              rw [eL] at hK ⊢
              simp only [Act.put, List.setIfInBounds_toArray, List.set_cons_succ, List.set_cons_zero] at hK
              have q3 : f 65 = (.slice (some ⟨q, 0, none⟩) D.length D.length) := hD 3 65 (by kernel_rfl) (by kernel_rfl)
              have q5 : f 67 = (.int .i64 (y.1 : Int)) := hD 5 67 (by kernel_rfl) (by kernel_rfl)
              rw [q3, q5] at hK ⊢
              obtain ⟨hB, hw⟩ := hX.pure 6 hi (by decide) (by decide) (by decide)
              go_simp
              exact hK _ _ trivial rfl hB
            · refine mono.dutyS_of rfl ?_
              intro f W L hR hO hD hL hi hX K hK
              have eL : mono.lit 111 f [] = ⟨#[f 0, f 1, f 2, f 3, f 4, f 5, f 6, f 7, f 8, f 9, f 10, f 11, f 12, f 13, f 14, f 15, f 16, f 17, f 18, f 19, f 20, f 21, f 22, f 23, f 24, f 25, f 26, f 27, f 28, f 29, f 30, f 31, f 32, f 33, f 34, f 35, f 36, f 37, f 38, f 39, f 40, f 41, f 42, f 43, f 44, f 45, f 46, f 47, f 48, f 49, f 50, f 51, f 52, f 53, f 54, f 55, f 56, f 57, f 58, f 59, f 60, f 61, f 62, f 63, f 64, f 65, f 66, f 67, f 68, f 69, f 70, f 71, f 72, f 73, f 74, f 75, f 76, f 77, f 78, f 79, f 80, f 81, f 82, f 83, f 84, f 85, f 86, f 87, f 88, f 89, f 90, f 91, f 92, f 93, f 94, f 95, f 96, f 97, f 98, f 99, f 100, f 101, f 102, f 103, f 104, f 105, f 106, f 107, f 108, f 109, f 110], []⟩ := rfl
              replace hK : ∀ v W', True → phNx m q D.length py y.1 w7.heap.size l.1 l.2 7 v W' → mono.BxW 8 9 10 w7.drew (w7.drew.alloc (.cells #[.int .i64 0, .int .i64 0] 123)) (w7.drew.alloc (.cells #[.int .i64 l.1, .int .i64 l.2] 123)) (w7.drew.alloc (.cells #[.int .i64 l.1, .int .i64 l.2] 123)) (fun j => if j = 7 then true else L j) W' → K ((mono.lit 111 f []).put (some 69) v) W' := hK
              rw [eL] at hK ⊢
              simp only [Act.put, List.setIfInBounds_toArray, List.set_cons_succ, List.set_cons_zero] at hK
              have q6 : f 68 = (.pointer (some ⟨q, y.1 * 2, none⟩)) := hD 6 68 (by kernel_rfl) (by kernel_rfl)
              rw [q6] at hK ⊢
              obtain ⟨hB, hw⟩ := hX.pure 7 hi (by decide) (by decide) (by decide)
              have yld : W.cell? ⟨q, y.1 * 2, none⟩ = some (.int .i64 l.1) := by
                rcases hw with rfl | rfl | rfl
                · exact q0
                · exact q0a
                · exact q0b
              have yld2 : W.cell? ⟨q, y.1 * 2 + 1, none⟩ = some (.int .i64 l.2) := by
                rcases hw with rfl | rfl | rfl
                · exact q1
                · exact q1a
                · exact q1b
              go_simp
              exact hK _ _ trivial rfl hB
            · refine mono.dutyS_of rfl ?_
              intro f W L hR hO hD hL hi hX K hK
              have eL : mono.lit 111 f [] = ⟨#[f 0, f 1, f 2, f 3, f 4, f 5, f 6, f 7, f 8, f 9, f 10, f 11, f 12, f 13, f 14, f 15, f 16, f 17, f 18, f 19, f 20, f 21, f 22, f 23, f 24, f 25, f 26, f 27, f 28, f 29, f 30, f 31, f 32, f 33, f 34, f 35, f 36, f 37, f 38, f 39, f 40, f 41, f 42, f 43, f 44, f 45, f 46, f 47, f 48, f 49, f 50, f 51, f 52, f 53, f 54, f 55, f 56, f 57, f 58, f 59, f 60, f 61, f 62, f 63, f 64, f 65, f 66, f 67, f 68, f 69, f 70, f 71, f 72, f 73, f 74, f 75, f 76, f 77, f 78, f 79, f 80, f 81, f 82, f 83, f 84, f 85, f 86, f 87, f 88, f 89, f 90, f 91, f 92, f 93, f 94, f 95, f 96, f 97, f 98, f 99, f 100, f 101, f 102, f 103, f 104, f 105, f 106, f 107, f 108, f 109, f 110], []⟩ := rfl
              replace hK : ∀ v W', True → phNx m q D.length py y.1 w7.heap.size l.1 l.2 8 v W' → mono.BxW 8 9 10 w7.drew (w7.drew.alloc (.cells #[.int .i64 0, .int .i64 0] 123)) (w7.drew.alloc (.cells #[.int .i64 l.1, .int .i64 l.2] 123)) (w7.drew.alloc (.cells #[.int .i64 l.1, .int .i64 l.2] 123)) (fun j => if j = 8 then true else L j) W' → K ((mono.lit 111 f []).put (some 11) v) W' := hK
              rw [eL] at hK ⊢
              simp only [Act.put, List.setIfInBounds_toArray, List.set_cons_succ, List.set_cons_zero] at hK
              obtain ⟨rfl, hB⟩ := hX.one hi (by decide) (by decide)
              go_simp
              exact hK _ _ trivial rfl hB
            · refine mono.dutyS_of rfl ?_
              intro f W L hR hO hD hL hi hX K hK
              have eL : mono.lit 111 f [] = ⟨#[f 0, f 1, f 2, f 3, f 4, f 5, f 6, f 7, f 8, f 9, f 10, f 11, f 12, f 13, f 14, f 15, f 16, f 17, f 18, f 19, f 20, f 21, f 22, f 23, f 24, f 25, f 26, f 27, f 28, f 29, f 30, f 31, f 32, f 33, f 34, f 35, f 36, f 37, f 38, f 39, f 40, f 41, f 42, f 43, f 44, f 45, f 46, f 47, f 48, f 49, f 50, f 51, f 52, f 53, f 54, f 55, f 56, f 57, f 58, f 59, f 60, f 61, f 62, f 63, f 64, f 65, f 66, f 67, f 68, f 69, f 70, f 71, f 72, f 73, f 74, f 75, f 76, f 77, f 78, f 79, f 80, f 81, f 82, f 83, f 84, f 85, f 86, f 87, f 88, f 89, f 90, f 91, f 92, f 93, f 94, f 95, f 96, f 97, f 98, f 99, f 100, f 101, f 102, f 103, f 104, f 105, f 106, f 107, f 108, f 109, f 110], []⟩ := rfl
              replace hK : ∀ v W', True → phNx m q D.length py y.1 w7.heap.size l.1 l.2 9 v W' → mono.BxW 8 9 10 w7.drew (w7.drew.alloc (.cells #[.int .i64 0, .int .i64 0] 123)) (w7.drew.alloc (.cells #[.int .i64 l.1, .int .i64 l.2] 123)) (w7.drew.alloc (.cells #[.int .i64 l.1, .int .i64 l.2] 123)) (fun j => if j = 9 then true else L j) W' → K ((mono.lit 111 f []).put none v) W' := hK
              rw [eL] at hK ⊢
              simp only [Act.put] at hK
              have q8 : f 11 = (.pointer (some ⟨w7.heap.size, 0, none⟩)) := hD 8 11 (by kernel_rfl) (by kernel_rfl)
              have q7 : f 69 = (.agg #[.int .i64 l.1, .int .i64 l.2]) := hD 7 69 (by kernel_rfl) (by kernel_rfl)
              rw [q8, q7] at hK ⊢
              have hl1 := hL 8 (by kernel_rfl)
              obtain ⟨rfl, hB⟩ := hX.two hl1 hi (by decide) (by decide)
              go_simp
              exact hK undef _ trivial trivial hB
            intro f W L hR hO hD hall hX
            obtain rfl := hX.fin2 (hall 9 (by decide))
            have r0 := hO 0 (by kernel_rfl)
            have r1 := hO 1 (by kernel_rfl)
            have r2 := hO 2 (by kernel_rfl)
            have r3 := hO 3 (by kernel_rfl)
            have r4 := hO 4 (by kernel_rfl)
            have r5 := hO 5 (by kernel_rfl)
            have r6 := hO 6 (by kernel_rfl)
            have r7 := hO 7 (by kernel_rfl)
            have r8 := hO 8 (by kernel_rfl)
            have r9 := hO 9 (by kernel_rfl)
            have r10 := hO 10 (by kernel_rfl)
            have r11 : f 11 = (.pointer (some ⟨w7.heap.size, 0, none⟩)) := hD 8 11 (by kernel_rfl)
            have r12 := hO 12 (by kernel_rfl)
            have r13 := hO 13 (by kernel_rfl)
            have r14 := hO 14 (by kernel_rfl)
            have r15 := hO 15 (by kernel_rfl)
            have r16 := hO 16 (by kernel_rfl)
            have r17 := hO 17 (by kernel_rfl)
            have r18 := hO 18 (by kernel_rfl)
            have r19 := hO 19 (by kernel_rfl)
            have r20 := hO 20 (by kernel_rfl)
            have r21 := hO 21 (by kernel_rfl)
            have r22 := hO 22 (by kernel_rfl)
            have r23 := hO 23 (by kernel_rfl)
            have r24 := hO 24 (by kernel_rfl)
            have r25 := hO 25 (by kernel_rfl)
            have r26 := hO 26 (by kernel_rfl)
            have r27 := hO 27 (by kernel_rfl)
            have r28 := hO 28 (by kernel_rfl)
            have r29 := hO 29 (by kernel_rfl)
            have r30 := hO 30 (by kernel_rfl)
            have r31 := hO 31 (by kernel_rfl)
            have r32 := hO 32 (by kernel_rfl)
            have r33 := hO 33 (by kernel_rfl)
            have r34 := hO 34 (by kernel_rfl)
            have r35 := hO 35 (by kernel_rfl)
            have r36 := hO 36 (by kernel_rfl)
            have r37 := hO 37 (by kernel_rfl)
            have r38 := hO 38 (by kernel_rfl)
            have r39 := hO 39 (by kernel_rfl)
            have r40 := hO 40 (by kernel_rfl)
            have r41 := hO 41 (by kernel_rfl)
            have r42 := hO 42 (by kernel_rfl)
            have r43 := hO 43 (by kernel_rfl)
            have r44 := hO 44 (by kernel_rfl)
            have r45 := hO 45 (by kernel_rfl)
            have r46 := hO 46 (by kernel_rfl)
            have r47 := hO 47 (by kernel_rfl)
            have r48 := hO 48 (by kernel_rfl)
            have r49 := hO 49 (by kernel_rfl)
            have r50 := hO 50 (by kernel_rfl)
            have r51 := hO 51 (by kernel_rfl)
            have r52 := hO 52 (by kernel_rfl)
            have r53 := hO 53 (by kernel_rfl)
            have r54 := hO 54 (by kernel_rfl)
            have r55 := hO 55 (by kernel_rfl)
            have r56 := hO 56 (by kernel_rfl)
            have r57 := hO 57 (by kernel_rfl)
            have r58 := hO 58 (by kernel_rfl)
            have r59 := hO 59 (by kernel_rfl)
            have r60 := hO 60 (by kernel_rfl)
            have r61 := hO 61 (by kernel_rfl)
            have r70 := hO 70 (by kernel_rfl)
            have r71 := hO 71 (by kernel_rfl)
            have r72 := hO 72 (by kernel_rfl)
            have r73 := hO 73 (by kernel_rfl)
            have r74 := hO 74 (by kernel_rfl)
            have r75 := hO 75 (by kernel_rfl)
            have r76 := hO 76 (by kernel_rfl)
            have r77 := hO 77 (by kernel_rfl)
            have r78 := hO 78 (by kernel_rfl)
            have r79 := hO 79 (by kernel_rfl)
            have r80 := hO 80 (by kernel_rfl)
            have r81 := hO 81 (by kernel_rfl)
            have r82 := hO 82 (by kernel_rfl)
            have r83 := hO 83 (by kernel_rfl)
            have r84 := hO 84 (by kernel_rfl)
            have r85 := hO 85 (by kernel_rfl)
            have r86 := hO 86 (by kernel_rfl)
            have r87 := hO 87 (by kernel_rfl)
            have r88 := hO 88 (by kernel_rfl)
            have r89 := hO 89 (by kernel_rfl)
            have r90 := hO 90 (by kernel_rfl)
            have r91 := hO 91 (by kernel_rfl)
            have r92 := hO 92 (by kernel_rfl)
            have r93 := hO 93 (by kernel_rfl)
            have r94 := hO 94 (by kernel_rfl)
            have r95 := hO 95 (by kernel_rfl)
            have r96 := hO 96 (by kernel_rfl)
            have r97 := hO 97 (by kernel_rfl)
            have r98 := hO 98 (by kernel_rfl)
            have r99 := hO 99 (by kernel_rfl)
            have r100 := hO 100 (by kernel_rfl)
            have r101 := hO 101 (by kernel_rfl)
            have r102 := hO 102 (by kernel_rfl)
            have r103 := hO 103 (by kernel_rfl)
            have r104 := hO 104 (by kernel_rfl)
            have r105 := hO 105 (by kernel_rfl)
            have r106 := hO 106 (by kernel_rfl)
            have r107 := hO 107 (by kernel_rfl)
            have r108 := hO 108 (by kernel_rfl)
            have r109 := hO 109 (by kernel_rfl)
            have r110 := hO 110 (by kernel_rfl)
            simp only [Array.getD_eq_getD_getElem?, List.getElem?_toArray, List.getElem?_cons_zero, List.getElem?_cons_succ, Option.getD_some] at r0 r1 r2 r3 r4 r5 r6 r7 r8 r9 r10 r12 r13 r14 r15 r16 r17 r18 r19 r20 r21 r22 r23 r24 r25 r26 r27 r28 r29 r30 r31 r32 r33 r34 r35 r36 r37 r38 r39 r40 r41 r42 r43 r44 r45 r46 r47 r48 r49 r50 r51 r52 r53 r54 r55 r56 r57 r58 r59 r60 r61 r70 r71 r72 r73 r74 r75 r76 r77 r78 r79 r80 r81 r82 r83 r84 r85 r86 r87 r88 r89 r90 r91 r92 r93 r94 r95 r96 r97 r98 r99 r100 r101 r102 r103 r104 r105 r106 r107 r108 r109 r110
            have eL : mono.lit 111 f [] = ⟨#[f 0, f 1, f 2, f 3, f 4, f 5, f 6, f 7, f 8, f 9, f 10, f 11, f 12, f 13, f 14, f 15, f 16, f 17, f 18, f 19, f 20, f 21, f 22, f 23, f 24, f 25, f 26, f 27, f 28, f 29, f 30, f 31, f 32, f 33, f 34, f 35, f 36, f 37, f 38, f 39, f 40, f 41, f 42, f 43, f 44, f 45, f 46, f 47, f 48, f 49, f 50, f 51, f 52, f 53, f 54, f 55, f 56, f 57, f 58, f 59, f 60, f 61, f 62, f 63, f 64, f 65, f 66, f 67, f 68, f 69, f 70, f 71, f 72, f 73, f 74, f 75, f 76, f 77, f 78, f 79, f 80, f 81, f 82, f 83, f 84, f 85, f 86, f 87, f 88, f 89, f 90, f 91, f 92, f 93, f 94, f 95, f 96, f 97, f 98, f 99, f 100, f 101, f 102, f 103, f 104, f 105, f 106, f 107, f 108, f 109, f 110], []⟩ := rfl
            rw [eL, r0, r1, r2, r3, r4, r5, r6, r7, r8, r9, r10, r11, r12, r13, r14, r15, r16, r17, r18, r19, r20, r21, r22, r23, r24, r25, r26, r27, r28, r29, r30, r31, r32, r33, r34, r35, r36, r37, r38, r39, r40, r41, r42, r43, r44, r45, r46, r47, r48, r49, r50, r51, r52, r53, r54, r55, r56, r57, r58, r59, r60, r61, r70, r71, r72, r73, r74, r75, r76, r77, r78, r79, r80, r81, r82, r83, r84, r85, r86, r87, r88, r89, r90, r91, r92, r93, r94, r95, r96, r97, r98, r99, r100, r101, r102, r103, r104, r105, r106, r107, r108, r109, r110]
            clear eL hO hD hall hX hR r0 r1 r2 r3 r4 r5 r6 r7 r8 r9 r10 r11 r12 r13 r14 r15 r16 r17 r18 r19 r20 r21 r22 r23 r24 r25 r26 r27 r28 r29 r30 r31 r32 r33 r34 r35 r36 r37 r38 r39 r40 r41 r42 r43 r44 r45 r46 r47 r48 r49 r50 r51 r52 r53 r54 r55 r56 r57 r58 r59 r60 r61 r70 r71 r72 r73 r74 r75 r76 r77 r78 r79 r80 r81 r82 r83 r84 r85 r86 r87 r88 r89 r90 r91 r92 r93 r94 r95 r96 r97 r98 r99 r100 r101 r102 r103 r104 r105 r106 r107 r108 r109 r110
            clear y0 y1 y2 q0 q1 q2 p0 y2a q0a q1a p0a y2b q0b q1b p0b hal7 hM6 hln6 hlr6 hax6 hay hb6
            generalize w7.drew.alloc (.cells #[.int .i64 l.1, .int .i64 l.2] 123) = w8 at *
            generalize w7.heap.size = rb at *
            obtain ⟨y0, y1, y2⟩ := hM8.cells
            obtain ⟨q0, q1, q2⟩ := hM8.at hl
            have q3 := q2 (y.1 * 2)
            have q4 := q2 (y.1 * 2 + 1)
            have a1 := cell_of_row _ ba 1 _ _ (0, 0) hax8
            have p0 := cell_of_row _ py 0 _ _ (0, 0) hay8
            have p1 := cell_of_row _ py 1 _ _ (0, 0) hay8
            have p2 := cell_of_row _ py 2 _ _ (0, 0) hay8
            have r0 := cell_of_row _ rb 0 _ _ (0, 0) hrb
            have r1 := cell_of_row _ rb 1 _ _ (0, 0) hrb
            change w8.cell? _ = some (.int .i64 x.2) at a1
            change w8.cell? _ = some (.int .i64 (y.1 : Int)) at p0
            change w8.cell? _ = some (.int .i64 (y.2.1 : Int)) at p1
            change w8.cell? _ = some (.int .i64 y.2.2) at p2
            change w8.cell? _ = some (.int .i64 l.1) at r0
            change w8.cell? _ = some (.int .i64 l.2) at r1
            have hM9 := (hM8.put hyD (i : Int) (y.2.1 : Int)).below (Below.refl _ _).drew
            have s9 : ∀ t, 123 ≠ t → Sm t w8 ((w8.setCell ⟨q, y.1 * 2, none⟩ (.int .i64 (i : Int))).setCell ⟨q, y.1 * 2 + 1, none⟩ (.int .i64 (y.2.1 : Int))) := fun t ht => (own_set_sm hM8.last ht _ _).trans (own_set_sm (hM8.last.stored (y.1 * 2) (.int .i64 (i : Int))).1 ht _ _)
            have hln9 := (hln8.sm (s9 _ (by decide))).below (Below.refl _ _).drew
            have hlr9 := (hlr8.sm (s9 _ (by decide))).below (Below.refl _ _).drew
            have hax9 : ((w8.setCell ⟨q, y.1 * 2, none⟩ (.int .i64 (i : Int))).setCell ⟨q, y.1 * 2 + 1, none⟩ (.int .i64 (y.2.1 : Int))).drew.heap[ba]? = some (.cells #[.int .i64 (x.1 : Int), .int .i64 x.2] 114) := s9 _ (by decide) _ _ hax8
            have hb9 := ((hb8.setCell (p := ⟨q, y.1 * 2, none⟩) hB3 (.int .i64 (i : Int))).setCell (p := ⟨q, y.1 * 2 + 1, none⟩) hB3 (.int .i64 (y.2.1 : Int))).drew
            clear hM8 hln8 hlr8 hax8 hay8 hrb hb8 s9 q2 hl
            by_cases hA : y.2.2 = x.2
            · have hA1 : (y.2.2 == x.2) = true := beq_iff_eq.2 hA
              have hA2 : (y.2.2 != x.2) = false := by rw [bne, hA1]; rfl
              by_cases hI : l.1 = (i : Int)
              · have hI1 : (l.1 == (i : Int)) = true := beq_iff_eq.2 hI
                have hef : eff i l = l.2 := by rw [eff, if_pos hI]
                by_cases hC : (y.2.1 : Int) < l.2
                · have hC1 : decide ((y.2.1 : Int) < l.2) = true := decide_eq_true hC
                  have HF : Hid (NxI D i row e (fun j => ∃ t y', t < k + 1 ∧ (plc D (i + 1) x.1)[t]? = some y' ∧ y'.1 = j) y.1 (Ld.set y.1 ((i : Int), (y.2.1 : Int)))) := by
                    have h := HPL.out
                    rw [if_pos (.inr (by rw [hef]; exact hC))] at h
                    exact h
                  clear HPL hef hA hI
                  go_wp2_with fail
                  go_big_region
                  go_upto_region 14 with fail
                  go_wp21
                  exact ⟨⟨k + 1, y.1, by omega, by go_num, by go_num, ⟨_, hM9, HF.out⟩, hln9, hlr9, hax9, hb9⟩, by simp [Go.RowKit.intOf]; omega⟩
                · have hC1 : decide ((y.2.1 : Int) < l.2) = false := decide_eq_false hC
                  have HF : Hid (NxI D i row e (fun j => ∃ t y', t < k + 1 ∧ (plc D (i + 1) x.1)[t]? = some y' ∧ y'.1 = j) g (Ld.set y.1 ((i : Int), (y.2.1 : Int)))) := by
                    have h := HPL.out
                    rw [if_neg (by rintro (a | a); exact a hA; rw [hef] at a; exact hC a)] at h
                    exact h
                  clear HPL hef hA hI
                  go_wp2_with fail
                  go_big_region
                  go_upto_region 14 with fail
                  go_wp21
                  exact ⟨⟨k + 1, g, by omega, by go_num, by go_num, ⟨_, hM9, HF.out⟩, hln9, hlr9, hax9, hb9⟩, by simp [Go.RowKit.intOf]; omega⟩
              · have hI1 : (l.1 == (i : Int)) = false := beq_eq_false_iff_ne.2 hI
                have hef : eff i l = 0 := by rw [eff, if_neg hI]
                have HF : Hid (NxI D i row e (fun j => ∃ t y', t < k + 1 ∧ (plc D (i + 1) x.1)[t]? = some y' ∧ y'.1 = j) g (Ld.set y.1 ((i : Int), (y.2.1 : Int)))) := by
                  have h := HPL.out
                  rw [if_neg (by rintro (a | a); exact a hA; rw [hef] at a; omega)] at h
                  exact h
                clear HPL hef hA hI
                go_wp2_with fail
                go_big_region
                go_upto_region 14 with fail
                go_wp21
                exact ⟨⟨k + 1, g, by omega, by go_num, by go_num, ⟨_, hM9, HF.out⟩, hln9, hlr9, hax9, hb9⟩, by simp [Go.RowKit.intOf]; omega⟩
            · have hA1 : (y.2.2 == x.2) = false := beq_eq_false_iff_ne.2 hA
              have hA2 : (y.2.2 != x.2) = true := by rw [bne, hA1]; rfl
              have HF : Hid (NxI D i row e (fun j => ∃ t y', t < k + 1 ∧ (plc D (i + 1) x.1)[t]? = some y' ∧ y'.1 = j) y.1 (Ld.set y.1 ((i : Int), (y.2.1 : Int)))) := by
                have h := HPL.out
                rw [if_pos (.inl hA)] at h
                exact h
              clear HPL hA
              go_wp2_with fail
              go_big_region
              go_upto_region 14 with fail
              go_wp21
              exact ⟨⟨k + 1, y.1, by omega, by go_num, by go_num, ⟨_, hM9, HF.out⟩, hln9, hlr9, hax9, hb9⟩, by simp [Go.RowKit.intOf]; omega⟩
        · obtain rfl : k = (plc D (i + 1) x.1).length := by omega
          have HN7 : Hid (NxI D i row (e + 1) (fun _ => False) g Ld) := hN5.atom HXE.out (out_all (.inl (Nat.le_refl _)))
          clear hN5
          go_upto_region 15 with fail
          go_wp21
          exact ⟨⟨e + 1, g, by omega, by go_num, by go_num, ⟨Ld, Rc, hM5, HN7.out⟩, hlr5, hb5⟩, by simp [Go.RowKit.intOf]; omega⟩
    · obtain rfl : e = row.length := by omega
      rw [tabN_end hi] at hM1
      obtain ⟨y0, y1, y2⟩ := hM1.cells
      have HN : Hid (NxI D i row row.length (fun _ => False) f Lb) := hN1
      clear hN1 hlr1
      go_wp2_with fail
      go_big_region
      go_wp2_with fail
      go_ret2
      exact ⟨f, Lb, Rb, rfl, hM1.below (Below.refl _ _).drew, HN.out, hb1.drew⟩
end Go.Proofs.YtjimolafoihnpaaDoor.tc
