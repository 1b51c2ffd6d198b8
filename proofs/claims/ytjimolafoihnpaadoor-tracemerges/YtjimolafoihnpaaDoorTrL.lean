/-
  The reference's atoms, and what it says of two documents (layer 24).
-/
import Derived.Test.YtjimolafoihnpaaDoorTrC
import Derived.Test.YtjimolafoihnpaaDoorBeh
import Derived.Deep.RegionLaw
import Derived.Deep.AppendLies
import Derived.Outline
import Derived.Deep.DeepCutAuto
import Derived.Deep.CutBlock
namespace Go.Proofs.YtjimolafoihnpaaDoor.tc
open Go.Maps Go.ChangeShapes Go.WideShapes Go.ChangeAt Go.RowKit Go.PlainAid

set_option maxRecDepth 20000 in
set_option maxHeartbeats 1000000 in
theorem rfind_any (v : Value) (l : List Atm) (x : Atm) (w : World) (hr : RdA w v l) (hm : l.length ≤ 1099511627776) :
    Calls Tryd.prog 35 #[v, .agg #[.int .i64 x.c, .int .i64 x.q, .int .i64 x.n, .int .i64 x.z]] w fun e w' => e = .returned (.int .i64 (fdA x l 0)) ∧ Below w.heap.size w w' := by
  obtain ⟨ao, cp, hv, -⟩ := id hr
  subst hv
  have hB0 : Below w.heap.size w (w.alloc (.cells #[.int .i64 x.c, .int .i64 x.q, .int .i64 x.n, .int .i64 x.z] 80)) := (Below.refl _ w).alloc (Nat.le_refl _) _
  have hX : (w.alloc (.cells #[.int .i64 x.c, .int .i64 x.q, .int .i64 x.n, .int .i64 x.z] 80)).heap[w.heap.size]? = some (.cells #[.int .i64 x.c, .int .i64 x.q, .int .i64 x.n, .int .i64 x.z] 80) := heap_alloc_new w _
  replace hr := hr.below hB0
  go_enter Tryd.func35, Tryd.ntmps35
  go_wp2_with fail
  generalize w.alloc _ = w0 at *
  go_loopw [5] (fun i wr => ∃ (k : Nat), k ≤ l.length ∧ i = .int .i64 (k : Int) ∧ fdA x l 0 = fdA x (l.drop k) k ∧ Below w0.heap.size w0 wr) (fun i _ => l.length - (Go.RowKit.intOf i).toNat)
  case atStart => exact ⟨0, Nat.zero_le _, rfl, rfl, Below.refl _ _⟩
  case round =>
    obtain ⟨k, hk, rfl, hf, hBr⟩ := hrel
    by_cases hlt : k < l.length
    · have hlt' : (k : Int) < (l.length : Int) := by omega
      obtain ⟨y, hy⟩ : ∃ y, l[k]? = some y := ⟨l[k], by simp [hlt]⟩
      obtain ⟨ba, oa, rfl, -⟩ := rda_at (hr.below hBr) hy
      have xx := fun s : Beh wr => rda_at ((hr.below hBr).below s.h) hy
      have x0 : ∀ s : Beh wr, s.it.cell? ⟨ba, oa + k * 4, none⟩ = some (.int .i64 y.c) := fun s => by obtain ⟨_, _, e, -, g, -⟩ := xx s; cases e; exact g
      have x1 : ∀ s : Beh wr, s.it.cell? ⟨ba, oa + k * 4 + 1, none⟩ = some (.int .i64 y.q) := fun s => by obtain ⟨_, _, e, -, -, g, -⟩ := xx s; cases e; exact g
      have x2 : ∀ s : Beh wr, s.it.cell? ⟨ba, oa + k * 4 + 2, none⟩ = some (.int .i64 y.n) := fun s => by obtain ⟨_, _, e, -, -, -, g, -⟩ := xx s; cases e; exact g
      have x3 : ∀ s : Beh wr, s.it.cell? ⟨ba, oa + k * 4 + 3, none⟩ = some (.int .i64 y.z) := fun s => by obtain ⟨_, _, e, -, -, -, -, g⟩ := xx s; cases e; exact g
      have hXs := fun s : Beh wr => ((s.h.block w.heap.size (heap_lt ((hBr.block w.heap.size (heap_lt hX)).trans hX))).trans ((hBr.block w.heap.size (heap_lt hX)).trans hX))
      have z0 : ∀ s : Beh wr, s.it.cell? ⟨w.heap.size, 0, none⟩ = some (.int .i64 x.c) := fun s => cell_of_row _ _ 0 _ _ (0, 0) (hXs s)
      have z1 : ∀ s : Beh wr, s.it.cell? ⟨w.heap.size, 1, none⟩ = some (.int .i64 x.q) := fun s => cell_of_row _ _ 1 _ _ (0, 0) (hXs s)
      have z2 : ∀ s : Beh wr, s.it.cell? ⟨w.heap.size, 2, none⟩ = some (.int .i64 x.n) := fun s => cell_of_row _ _ 2 _ _ (0, 0) (hXs s)
      have z3 : ∀ s : Beh wr, s.it.cell? ⟨w.heap.size, 3, none⟩ = some (.int .i64 x.z) := fun s => cell_of_row _ _ 3 _ _ (0, 0) (hXs s)
      have cI := fun W => is_any y x W
      rw [fdA_drop x hy] at hf
      clear hy hr xx hXs
      cases hs : y.same x
      · simp only [hs] at cI
        have HF : Hid (fdA x l 0 = fdA x (l.drop (k + 1)) (k + 1)) := by show _ = _; rw [hs] at hf; simpa using hf
        clear hf hs
        go_wp2_with fail
        refine wp_region_beh (by kernel_rfl) (by kernel_rfl) ?_
        repeat (go_big_quiet_step ((go_at_call 58; exact Beh.call (cI _))))
        refine wpQuiet_nil ?_
        intro wq hw'
        have hwq := Beh.out hw'
        clear hw'
        clear x0 x1 x2 x3 z0 z1 z2 z3 cI
        go_wp2_with fail
        exact ⟨⟨k + 1, by omega, by go_num, HF.out, chain hBr hwq⟩, by simp [Go.RowKit.intOf]; omega⟩
      · simp only [hs] at cI
        have HF : Hid (fdA x l 0 = (k : Int)) := by show _ = _; rw [hs] at hf; simpa using hf
        clear hf hs
        go_wp2_with fail
        refine wp_region_beh (by kernel_rfl) (by kernel_rfl) ?_
        repeat (go_big_quiet_step ((go_at_call 58; exact Beh.call (cI _))))
        refine wpQuiet_nil ?_
        intro wq hw'
        have hwq := Beh.out hw'
        clear hw'
        clear x0 x1 x2 x3 z0 z1 z2 z3 cI
        go_wp2_with fail
        go_ret
        exact ⟨ret_in HF.out.symm, chain hB0 (chain hBr hwq)⟩
    · obtain rfl : k = l.length := by omega
      have HF : Hid (fdA x l 0 = -1) := by show _ = _; rw [hf, List.drop_length]; rfl
      clear hr hX hf
      go_wp2_with fail
      go_ret
      exact ⟨ret_in HF.out.symm, chain hB0 hBr⟩
set_option maxRecDepth 20000 in
set_option maxHeartbeats 1000000 in
theorem atoms_any (v : Value) (l : List RunD) (w : World) (hr : RdN w v l) (hok : ∀ r ∈ l, 0 ≤ cpl r.t) (hsz : ∀ r ∈ l, r.t.size ≤ 1048576) (hf : ∀ r ∈ l, 0 ≤ r.f ∧ r.f ≤ 1000000) (hl : l.length ≤ 1048576) (hn : (ats l).length ≤ 1048576) :
    Calls Tryd.prog 56 #[v] w fun e w' => ∃ u, e = .returned u ∧ w'.ownsRow w.heap.size 80 4 u (ats l).length (acs (ats l)) ∧ Below w.heap.size w w' := by
  obtain ⟨i0, hi, hz0, hz1, hz2⟩ := info_parts Tryd.infoAtm
  have hT : ∀ k (hk : k < l.length), ats (l.take (k + 1)) = ats (l.take k) ++ l[k].ats := fun k hk => by
    rw [List.take_succ_eq_append_getElem hk, ats_append, ats_cons, ats_nil, List.append_nil]
  have hLe : ∀ k, (ats (l.take k)).length ≤ (ats l).length := fun k => by
    conv => rhs; rw [← List.take_append_drop k l, ats_append, List.length_append]
    omega
  obtain ⟨ao, cp, rfl, _, hcs⟩ := hr
  go_enter Tryd.func56, Tryd.ntmps56
  go_wp2_with fail
  go_loopw [3, 4] (fun u i wr => ∃ k : Nat, k ≤ l.length ∧ i = .int .i64 (k : Int) ∧ wr.ownsRow w.heap.size 80 4 u (ats (l.take k)).length (acs (ats (l.take k))) ∧ Below w.heap.size w wr) (fun _ i _ => l.length - (Go.RowKit.intOf i).toNat)
  case atStart => exact ⟨0, Nat.zero_le _, rfl, World.ownsRow_nil _ _ _ _, Below.refl _ _⟩
  case round =>
    obtain ⟨k, hk, rfl, ho, hb⟩ := hrel
    by_cases hlt : k < l.length
    · have hlt' : (k : Int) < (l.length : Int) := by omega
      obtain ⟨b, off, rfl, hbw, c0, c1, c2, c3⟩ := hcs k l[k] (by simp [hlt])
      have hkm : l[k] ∈ l := by simp
      have hv := cpl_valid (s := l[k].t) (by have := hok _ hkm; omega)
      have hpt := fun W => refPoints_ok l[k].t _ W (hsz _ hkm) hv
      have hfk := hf _ hkm
      have HT : Hid (ats (l.take (k + 1)) = ats (l.take k) ++ atG l[k].c l[k].q l[k].f (pts l[k].t)) := hT k hlt
      have hN2 : (ats (l.take k)).length + (pts l[k].t).length ≤ 1048576 := by
        have := hLe (k + 1)
        rw [hT k hlt, List.length_append, RunD.ats, atG_len] at this
        omega
      have hpl : (cpl l[k].t).toNat = (pts l[k].t).length := by have := pts_len (t := l[k].t) (by have := hok _ hkm; omega); omega
      have hpe : ptL l[k].t (cpl l[k].t).toNat = pts l[k].t := rfl
      rw [hpe, hpl] at hpt
      have g : ∀ W, Below w.heap.size w W → ∀ j, W.cell? ⟨b, j, none⟩ = w.cell? ⟨b, j, none⟩ := fun W hW j => hW.cell (p := ⟨b, j, none⟩) hbw
      have hcell : ∀ W, Below w.heap.size w W → W.cell? ⟨b, off + k * 4, none⟩ = some (.int .i64 l[k].c) ∧ W.cell? ⟨b, off + k * 4 + 1, none⟩ = some (.int .i64 l[k].q) ∧ W.cell? ⟨b, off + k * 4 + 2, none⟩ = some (.int .i64 l[k].f) ∧ W.cell? ⟨b, off + k * 4 + 3, none⟩ = some (.string l[k].t) := fun W hW => by
        rw [g W hW, g W hW, g W hW, g W hW]; exact ⟨c0, c1, c2, c3⟩
      clear c0 c1 c2 c3 hcs hok hsz hf hT hLe hv hpl hpe g
      generalize pts l[k].t = P at *
      generalize l[k] = r at *
      generalize ats (l.take k) = X at *
      obtain ⟨a1, k1, rfl⟩ := own_form ho
      obtain ⟨-, -, -, d3⟩ := hcell _ hb
      go_wp2_with fail
      refine (hpt _).mono ?_
      rintro e w2 ⟨v5, rfl, ho5, hb2⟩
      have hsz2 := hb.size
      replace hb := chain hb hb2
      replace ho := own_below ho hb2
      replace ho5 := own_mono ho5 hsz2
      obtain ⟨a5, k5, rfl⟩ := own_form ho5
      clear hpt d3 hb2
      go_wp2_with fail
      obtain ⟨wq, rfl⟩ : ∃ y, y = wr := ⟨_, rfl⟩
      go_loopw [3, 7] (fun u i wr => ∃ j : Nat, j ≤ P.length ∧ i = .int .i64 (j : Int) ∧ wr.ownsRow w.heap.size 80 4 u (X ++ atG r.c r.q r.f (P.take j)).length (acs (X ++ atG r.c r.q r.f (P.take j))) ∧ wr.ownsRow w.heap.size 3 1 (.slice a5 P.length k5) P.length (iv P) ∧ Below w.heap.size w wr) (fun _ i _ => P.length - (Go.RowKit.intOf i).toNat)
      case atStart => exact ⟨0, Nat.zero_le _, rfl, by simpa [atG] using ho, ho5, hb⟩
      case round =>
        obtain ⟨j, hj, rfl, hoj, hpj, hbj⟩ := hrel
        clear ho ho5 hb
        obtain ⟨a3, k3, hu3⟩ := own_form hoj
        by_cases hlj : j < P.length
        · have hlj' : (j : Int) < (P.length : Int) := by omega
          obtain ⟨z, hz⟩ : ∃ z, P[j]? = some z := ⟨P[j], by simp [hlj]⟩
          obtain ⟨g5, c5, e5, -, -⟩ := hpj.form (by omega)
          injection e5 with e51 _ e53
          subst e51
          subst e53
          have hzc := hpj.cells (g := g5) rfl j (.int .i64 z) (iv_get hz)
          rw [addr4, Nat.zero_add] at hzc
          have HA : Hid (X ++ atG r.c r.q r.f (P.take (j + 1)) = (X ++ atG r.c r.q r.f (P.take j)) ++ [⟨r.c, r.q, r.f + (j : Int), z⟩]) := by show _ = _; rw [atG_take1 _ _ _ _ _ _ hz, List.append_assoc]
          have hYl : (X ++ atG r.c r.q r.f (P.take j)).length ≤ 1048576 := by rw [List.length_append, atG_len, List.length_take]; omega
          have hjf : 0 ≤ r.f + (j : Int) ∧ r.f + (j : Int) ≤ 9223372036854775807 := by omega
          generalize X ++ atG r.c r.q r.f (P.take j) = Y at *
          subst hu3
          obtain ⟨d0, d1, d2, -⟩ := hcell _ hbj
          have hap : (Value.slice (some ⟨g5, 0, none⟩) P.length k5).ownBlock = none ∨ (Value.slice (some ⟨g5, 0, none⟩) P.length k5).ownBlock ≠ (Value.slice a3 Y.length k3).ownBlock := own_apart hpj hoj (by decide)
          clear hz
          have hwr : IntKind.i64.wrap (r.f + (j : Int)) = r.f + (j : Int) := by rw [IntKind.wrap_i64]; omega
          go_wp2_with fail
          go_region_law (refine step_append_lies _ (by rfl) (.tmp 29) (.tmp 47) 73 (by rfl) w.heap.size 80 i0 (.agg #[.int .i64 0, .int .i64 0, .int .i64 0, .int .i64 0]) 4 32 Tryd.underlying73 hi hz0 hz1 hz2 rfl (by decide) (.slice a3 Y.length k3) Y.length (acs Y) (by simp [Act.eval]) (World.ownsRow.alloc (w := wr.drew) hoj _) ⟨wr.heap.size, 0, none⟩ 1 1 [.int .i64 r.c, .int .i64 r.q, .int .i64 (r.f + (j : Int)), .int .i64 z] (by simp [Act.eval]) rfl (World.news_of_block (heap_alloc_new wr.drew _)) (by simp [Value.oneCell']) (by decide) (by unfold maxLen; omega) (by omega) (by have := hbj.size; simp; omega) (wr.heap.size + 1) (by simp) ?_; intro g cap w7 hown hgr hg hlt7)
          all_goals (go_wp2_with fail)
          all_goals exact ⟨⟨j + 1, by omega, by go_num, by rw [HA.out, acs_append, acs_one, List.length_append]; exact hown, World.ownsRow.kept (w := (wr.alloc _).drew) (World.ownsRow.alloc hpj _) hgr hap, (Below.drew (hbj.alloc hbj.size _)).grown hgr (by have := hbj.size; simp; omega) (fun k hk => (hoj.lt k hk).1)⟩, by simp [Go.RowKit.intOf]; omega⟩
        · obtain rfl : j = P.length := by omega
          rw [List.take_length] at hoj
          rw [List.take_length] at hu3
          clear hcell
          subst hu3
          go_wp2_with fail
          exact ⟨⟨k + 1, by omega, by go_num, by rw [HT.out]; exact hoj, hbj⟩, by simp [Go.RowKit.intOf]; omega⟩
    · obtain rfl : k = l.length := by omega
      rw [List.take_length] at ho
      obtain ⟨a1, k1, rfl⟩ := own_form ho
      clear hcs
      go_wp2_with fail
      go_ret
      exact ⟨_, rfl, ho, hb⟩
/-- A run that counts for the reference. -/
def cnt (r : RunD) : Bool := decide (0 ≤ cpl r.t) && fOk r
theorem pts_bad {t : ByteArray} (h : ¬ 0 ≤ cpl t) : pts t = [] := by
  have : (cpl t).toNat = 0 := by omega
  rw [pts, this]
  rfl
theorem aT_cnt (l : List RunD) : aT l = ats (l.filter cnt) := by
  induction l with
  | nil => rfl
  | cons r l ih =>
    have e : aT (r :: l) = atR r ++ aT l := by simp [aT]
    rw [e, ih, List.filter_cons]
    by_cases h : cnt r = true
    · rw [if_pos h, ats_cons]
      have hf : fOk r = true := by simp [cnt] at h; exact h.2
      rw [atR, if_pos hf]
    · rw [if_neg h]
      have : atR r = [] := by
        unfold atR
        split
        · rename_i hf
          have : ¬ 0 ≤ cpl r.t := fun q => h (by simp [cnt, q, hf])
          rw [RunD.ats, pts_bad this]
          rfl
        · rfl
      rw [this]
      rfl
theorem infoRun : (Tryd.prog.info? 44).map (fun i => (i.zero, i.size, i.bytes)) = some (some (.agg #[.int .i64 0, .int .i64 0, .int .i64 0, .string ⟨#[]⟩]), 4, 40) := by kernel_rfl
/-- Runs as cells. -/
def cRn (r : RunD) : List Value := [.int .i64 r.c, .int .i64 r.q, .int .i64 r.f, .string r.t]
theorem cRn_len (r : RunD) : (cRn r).length = 4 := rfl
theorem rdn_ownT {W : World} {B : Nat} {v : Value} {l : List RunD} (h : W.ownsRow B 44 4 v l.length (l.map cRn).flatten) : RdN W v l := by
  have hl := Ln.own h
  obtain ⟨ao, cp, rfl, hc⟩ := hl.form
  refine ⟨ao, cp, rfl, hc, fun i r hr => ?_⟩
  have f0 := flat_at cRn 4 cRn_len l i r hr 0 (by decide)
  have f1 := flat_at cRn 4 cRn_len l i r hr 1 (by decide)
  have f2 := flat_at cRn 4 cRn_len l i r hr 2 (by decide)
  have f3 := flat_at cRn 4 cRn_len l i r hr 3 (by decide)
  obtain ⟨g, off, cur, e, h1, h2⟩ := hl.at f0
  exact ⟨g, off, e, lt_heap h1, h2 _ _ f0, h2 _ _ f1, h2 _ _ f2, h2 _ _ f3⟩
set_option maxRecDepth 20000 in
set_option maxHeartbeats 2000000 in
theorem atoms24_any (v : Value) (l : List RunD) (w : World) (hr : RdN w v l) (hsz : ∀ r ∈ l, r.t.size ≤ 1048576) (hl : l.length ≤ 1048576) (hn : (aT l).length ≤ 1048576) :
    Calls Tryd.prog 31 #[v] w fun e w' => ∃ u, e = .returned u ∧ w'.ownsRow w.heap.size 80 4 u (aT l).length (acs (aT l)) ∧ Below w.heap.size w w' := by
  obtain ⟨i0, hi, hz0, hz1, hz2⟩ := info_parts infoRun
  obtain ⟨ao, cp, rfl, hcp, hcs⟩ := hr
  rw [aT_cnt] at hn
  rw [aT_cnt]
  go_enter Tryd.func31, Tryd.ntmps31
  go_wp2_with fail
  go_loopw [3, 4] (fun u i wr => ∃ k : Nat, k ≤ l.length ∧ i = .int .i64 (k : Int) ∧ wr.ownsRow w.heap.size 44 4 u ((l.take k).filter cnt).length (((l.take k).filter cnt).map cRn).flatten ∧ Below w.heap.size w wr) (fun _ i _ => l.length - (Go.RowKit.intOf i).toNat)
  case atStart => exact ⟨0, Nat.zero_le _, rfl, World.ownsRow_nil _ _ _ _, Below.refl _ _⟩
  case round =>
    obtain ⟨k, hk, rfl, ho, hb⟩ := hrel
    by_cases hlt : k < l.length
    · have hlt' : (k : Int) < (l.length : Int) := by omega
      obtain ⟨b, off, rfl, hbw, c0, c1, c2, c3⟩ := hcs k l[k] (by simp [hlt])
      have hrs := hsz l[k] (List.getElem_mem hlt)
      have HF : Hid ((l.take (k + 1)).filter cnt = (l.take k).filter cnt ++ (if cnt l[k] = true then [l[k]] else [])) := by
        show _ = _
        rw [List.take_succ_eq_append_getElem hlt, List.filter_append, List.filter_cons]
        rfl
      have hfl : ((l.take k).filter cnt).length ≤ 1048576 := Nat.le_trans (List.length_filter_le _ _) (by rw [List.length_take]; omega)
      have g : ∀ W, Below w.heap.size w W → ∀ j, W.cell? ⟨b, j, none⟩ = w.cell? ⟨b, j, none⟩ := fun W hW j => hW.cell (p := ⟨b, j, none⟩) hbw
      have hcell : ∀ W, Below w.heap.size w W → W.cell? ⟨b, off + k * 4, none⟩ = some (.int .i64 l[k].c) ∧ W.cell? ⟨b, off + k * 4 + 1, none⟩ = some (.int .i64 l[k].q) ∧ W.cell? ⟨b, off + k * 4 + 2, none⟩ = some (.int .i64 l[k].f) ∧ W.cell? ⟨b, off + k * 4 + 3, none⟩ = some (.string l[k].t) := fun W hW => by
        rw [g W hW, g W hW, g W hW, g W hW]; exact ⟨c0, c1, c2, c3⟩
      clear c0 c1 c2 c3 hcs g
      generalize l[k] = r at *
      generalize (l.take k).filter cnt = X at *
      obtain ⟨a1, k1, rfl⟩ := own_form ho
      obtain ⟨-, -, -, d3⟩ := hcell _ hb
      rcases valid_or_bad r.t with ⟨n, hv⟩ | ⟨n, hx⟩
      · have e1 := cpl_ok hv
        have c1 := refPoints_ok r.t n wr hrs hv
        clear hv
        go_wp2_with fail
        refine c1.mono ?_
        rintro e w2 ⟨v5, rfl, ho5, hb2⟩
        obtain ⟨a5, k5, rfl⟩ := own_form ho5
        have hb3 := chain hb (hb2.mono (Nat.le_refl _))
        have ho3 := own_below ho hb2
        obtain ⟨d0, d1, d2, d3'⟩ := hcell _ hb3
        clear c1 hb2 ho5 ho hb d3 hcell
        by_cases hf0 : 0 ≤ r.f
        · have hg0 : decide (0 ≤ r.f) = true := decide_eq_true hf0
          by_cases hf1 : r.f ≤ 1000000
          · have hg1 : decide (r.f ≤ 1000000) = true := decide_eq_true hf1
            have HF2 : Hid ((l.take (k + 1)).filter cnt = X ++ [r]) := by
              show _ = _
              rw [HF.out, if_pos (by simp [cnt, fOk, e1]; omega)]
            clear HF e1
            have hbs := hb3.size
            go_wp2_with (at_builtin; refine wpList_append_own _ rfl (.tmp 39) (.tmp 44) 22 rfl w.heap.size 44 i0 (.agg #[.int .i64 0, .int .i64 0, .int .i64 0, .string ⟨#[]⟩]) 4 40 Tryd.underlying22 hi hz0 hz1 hz2 rfl (by decide) (.slice a1 X.length k1) X.length (X.map cRn).flatten rfl (ho3.alloc _) ⟨w2.heap.size, 0, none⟩ 1 1 [.int .i64 r.c, .int .i64 r.q, .int .i64 r.f, .string r.t] rfl rfl (World.news_of_block (heap_alloc_new w2 _)) (by simp [Value.oneCell']) (by unfold maxLen; omega) (by omega) (by simp; omega) ?_; intro v6 w6 ho6 hg6 _)
            have hb6 := (hb3.alloc hbs _).grown hg6 (by simp; omega) (fun j hj => (ho3.lt j hj).1)
            exact ⟨⟨k + 1, by omega, by go_num, by rw [HF2.out, List.length_append, flat_app]; exact ho6, hb6⟩, by simp [Go.RowKit.intOf]; omega⟩
          · have hg1 : decide (r.f ≤ 1000000) = false := decide_eq_false hf1
            have HF2 : Hid ((l.take (k + 1)).filter cnt = X) := by
              show _ = _
              rw [HF.out, if_neg (by simp [cnt, fOk]; omega), List.append_nil]
            clear HF e1
            go_wp2_with fail
            exact ⟨⟨k + 1, by omega, by go_num, by rw [HF2.out]; exact ho3, hb3⟩, by simp [Go.RowKit.intOf]; omega⟩
        · have hg0 : decide (0 ≤ r.f) = false := decide_eq_false hf0
          have HF2 : Hid ((l.take (k + 1)).filter cnt = X) := by
            show _ = _
            rw [HF.out, if_neg (by simp [cnt, fOk]; omega), List.append_nil]
          clear HF e1
          go_wp2_with fail
          exact ⟨⟨k + 1, by omega, by go_num, by rw [HF2.out]; exact ho3, hb3⟩, by simp [Go.RowKit.intOf]; omega⟩
      · have e1 := cpl_bad hx
        have c1 := refPoints_bad r.t n wr hrs hx
        have HF2 : Hid ((l.take (k + 1)).filter cnt = X) := by
          show _ = _
          rw [HF.out, if_neg (by simp [cnt, e1]), List.append_nil]
        clear hx HF e1
        go_wp2_with fail
        refine c1.mono ?_
        rintro e w2 ⟨rfl, hb2⟩
        have hb3 := chain hb (hb2.mono (Nat.le_refl _))
        have ho3 := own_below ho hb2
        clear c1 hb2 ho hb d3 hcell
        go_wp2_with fail
        exact ⟨⟨k + 1, by omega, by go_num, by rw [HF2.out]; exact ho3, hb3⟩, by simp [Go.RowKit.intOf]; omega⟩
    · obtain rfl : k = l.length := by omega
      rw [List.take_length] at ho
      have hmem : ∀ r ∈ l.filter cnt, r ∈ l ∧ cnt r = true := fun r hr => List.mem_filter.1 hr
      have cA := fun W u (hu : RdN W u (l.filter cnt)) => atoms_any u (l.filter cnt) W hu (fun r hr => by have := (hmem r hr).2; simp [cnt] at this; exact this.1) (fun r hr => hsz r (hmem r hr).1) (fun r hr => by have := (hmem r hr).2; simp [cnt, fOk] at this; exact this.2) (Nat.le_trans (List.length_filter_le _ _) hl) hn
      clear hcs hsz hmem
      have cA2 := cA wr _ (rdn_ownT ho)
      obtain ⟨a1, k1, rfl⟩ := own_form ho
      clear cA
      go_wp2_with fail
      refine cA2.mono ?_
      rintro e w2 ⟨u, rfl, ho2, hb2⟩
      have hsz2 := hb.size
      clear cA2
      obtain ⟨a9, k9, rfl⟩ := own_form ho2
      go_wp2_with fail
      go_ret
      exact ⟨_, rfl, own_mono ho2 hsz2, chain hb hb2⟩
end Go.Proofs.YtjimolafoihnpaaDoor.tc
