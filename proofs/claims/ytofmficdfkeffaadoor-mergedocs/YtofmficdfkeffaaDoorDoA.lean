/-
  Runs as data; the contracts of isOrigin, mayBe and isNext.
-/
import Derived.Test.YtofmficdfkeffaaDoorDoV
import Derived.Deep.RegionHeld3
import Derived.BigQuiet
namespace Go.Proofs.YtofmficdfkeffaaDoor
open Go.ChangeShapes Go.WideShapes Go.ChangeAt Go.RowKit Go.PlainAid

theorem ret_b {a b : Bool} (h : a = b) : Ending.returned (.bool a) = .returned (.bool b) := by rw [h]

/-- A run: its origin's Client and Seq, From, Text. -/
structure RunD where
  c : Int
  q : Int
  f : Int
  t : ByteArray
/-- As a value. -/
def RunD.v (r : RunD) : Value := .agg #[.int .i64 r.c, .int .i64 r.q, .int .i64 r.f, .string r.t]
/-- Runs in the world. -/
def RdN (w : World) (v : Value) (l : List RunD) : Prop :=
  ∃ (ao : Option Addr) (cp : Nat), v = .slice ao l.length cp ∧ l.length ≤ cp ∧ ∀ i r, l[i]? = some r → ∃ b off, ao = some ⟨b, off, none⟩ ∧ b < w.heap.size ∧
    w.cell? ⟨b, off + i * 4, none⟩ = some (.int .i64 r.c) ∧ w.cell? ⟨b, off + i * 4 + 1, none⟩ = some (.int .i64 r.q) ∧ w.cell? ⟨b, off + i * 4 + 2, none⟩ = some (.int .i64 r.f) ∧ w.cell? ⟨b, off + i * 4 + 3, none⟩ = some (.string r.t)
theorem RdN.below {w w' : World} {v : Value} {l : List RunD} (h : RdN w v l) (hb : Below w.heap.size w w') : RdN w' v l := by
  obtain ⟨ao, cp, e, hc, h⟩ := h
  refine ⟨ao, cp, e, hc, fun i r hr => ?_⟩
  obtain ⟨b, off, e1, h1, c0, c1, c2, c3⟩ := h i r hr
  have g : ∀ j, w'.cell? ⟨b, j, none⟩ = w.cell? ⟨b, j, none⟩ := fun j => hb.cell (p := ⟨b, j, none⟩) h1
  exact ⟨b, off, e1, Nat.lt_of_lt_of_le h1 hb.size, by rw [g]; exact c0, by rw [g]; exact c1, by rw [g]; exact c2, by rw [g]; exact c3⟩
theorem RdN.nil (w : World) : RdN w (.slice none 0 0) [] := ⟨none, 0, rfl, Nat.le_refl _, fun i r h => by simp at h⟩

/-- Is it an origin? -/
def orM (c q : Int) : Bool := decide (0 ≤ c) && decide (c ≤ 8) && decide (1 ≤ q) && decide (q ≤ 100000)
theorem orM_iff {c q : Int} : orM c q = true ↔ 0 ≤ c ∧ c ≤ 8 ∧ 1 ≤ q ∧ q ≤ 100000 := by simp [orM, and_assoc]
theorem orM_no {c q : Int} : orM c q = false ↔ ¬ (0 ≤ c ∧ c ≤ 8 ∧ 1 ≤ q ∧ q ≤ 100000) := by rw [← orM_iff]; simp

set_option maxRecDepth 20000 in
theorem isOrigin_any (c q : Int) (w : World) :
    Calls Tryd.prog 84 #[.agg #[.int .i64 c, .int .i64 q]] w fun e w' => e = .returned (.bool (orM c q)) ∧ Below w.heap.size w w' := by
  have hB : Below w.heap.size w (w.alloc (.cells #[.int .i64 c, .int .i64 q] 40)) := (Below.refl _ w).alloc (Nat.le_refl _) _
  by_cases h1 : 0 ≤ c
  · by_cases h2 : c ≤ 8
    · by_cases h3 : 1 ≤ q
      · by_cases h4 : q ≤ 100000
        · have H : Hid (orM c q = true) := orM_iff.2 ⟨h1, h2, h3, h4⟩
          go_enter Tryd.func84, Tryd.ntmps84
          go_wp2
          go_ret
          exact ⟨ret_b H.out.symm, hB⟩
        · have H : Hid (orM c q = false) := orM_no.2 (fun h => h4 h.2.2.2)
          go_enter Tryd.func84, Tryd.ntmps84
          go_wp2
          go_ret
          exact ⟨ret_b H.out.symm, hB⟩
      · have H : Hid (orM c q = false) := orM_no.2 (fun h => h3 h.2.2.1)
        go_enter Tryd.func84, Tryd.ntmps84
        go_wp2
        go_ret
        exact ⟨ret_b H.out.symm, hB⟩
    · have H : Hid (orM c q = false) := orM_no.2 (fun h => h2 h.2.1)
      go_enter Tryd.func84, Tryd.ntmps84
      go_wp2
      go_ret
      exact ⟨ret_b H.out.symm, hB⟩
  · have H : Hid (orM c q = false) := orM_no.2 (fun h => h1 h.1)
    go_enter Tryd.func84, Tryd.ntmps84
    go_wp2
    go_ret
    exact ⟨ret_b H.out.symm, hB⟩

/-- A run's box. -/
def RB (W : World) (p : Nat) (r : RunD) : Prop := W.heap[p]? = some (.cells #[.int .i64 r.c, .int .i64 r.q, .int .i64 r.f, .string r.t] 65)
theorem RB.below {W W' : World} {p : Nat} {r : RunD} (h : RB W p r) (hb : Below W.heap.size W W') : RB W' p r := (hb.block p (heap_lt h)).trans h
theorem RB.cells {W : World} {p : Nat} {r : RunD} (h : RB W p r) : W.cell? ⟨p, 0, none⟩ = some (.int .i64 r.c) ∧ W.cell? ⟨p, 1, none⟩ = some (.int .i64 r.q) ∧ W.cell? ⟨p, 2, none⟩ = some (.int .i64 r.f) ∧ W.cell? ⟨p, 3, none⟩ = some (.string r.t) :=
  ⟨cell_of_row _ _ 0 _ _ (0, 0) h, cell_of_row _ _ 1 _ _ (0, 0) h, cell_of_row _ _ 2 _ _ (0, 0) h, cell_of_row _ _ 3 _ _ (0, 0) h⟩

/-- May a run be? -/
def mayR (r : RunD) : Bool := orM r.c r.q && decide (0 < cpl r.t) && decide (0 ≤ r.f) && decide (r.f ≤ 1000 - cpl r.t)
theorem mayR_iff {r : RunD} : mayR r = true ↔ orM r.c r.q = true ∧ 0 < cpl r.t ∧ 0 ≤ r.f ∧ r.f ≤ 1000 - cpl r.t := by simp [mayR, and_assoc]

set_option maxRecDepth 20000 in
set_option maxHeartbeats 1000000 in
theorem mayBe_any (r : RunD) (w : World) (hV : VS w) (hs : r.t.size ≤ 1125899906842624) :
    Calls Tryd.prog 74 #[r.v] w fun e w' => e = .returned (.bool (mayR r)) ∧ Below w.heap.size w w' := by
  have H : Hid (mayR r = (orM r.c r.q && decide (0 < cpl r.t) && decide (0 ≤ r.f) && decide (r.f ≤ 1000 - cpl r.t))) := rfl
  have hB : Below w.heap.size w (w.alloc (.cells #[.int .i64 r.c, .int .i64 r.q, .int .i64 r.f, .string r.t] 65)) := (Below.refl _ w).alloc (Nat.le_refl _) _
  have hx : RB _ _ r := heap_alloc_new w (.cells #[.int .i64 r.c, .int .i64 r.q, .int .i64 r.f, .string r.t] 65)
  have hc := count_any r.t _ (hV.below hB) hs
  have hle := cpl_le r.t
  have hz : (r.t.size : Int) ≤ 1125899906842624 := by omega
  generalize mayR r = M at *
  generalize cpl r.t = n at *
  unfold RunD.v
  go_enter Tryd.func74, Tryd.ntmps74
  go_wp2_with fail
  generalize w.alloc _ = w1 at *
  refine hc.mono ?_
  rintro e w2 ⟨rfl, hb2⟩
  have hx2 := hx.below hb2
  have hB2 := hB.trans (hb2.mono hB.size)
  obtain ⟨c0, c1, c2, c3⟩ := hx2.cells
  clear hc hx hb2 hB
  go_wp2_with fail
  refine (isOrigin_any _ _ _).mono ?_
  rintro e w3 ⟨rfl, hb3⟩
  have hx3 := hx2.below hb3
  have hB3 := hB2.trans (hb3.mono hB2.size)
  clear c0 c1 c2 c3 hx2 hB2 hb3
  obtain ⟨c0, c1, c2, c3⟩ := hx3.cells
  cases ho : orM r.c r.q
  · have HX : Hid (M = false) := by show _ = _; rw [H.out, ho]; rfl
    clear H ho
    go_wp2_with fail
    go_ret
    exact ⟨ret_b HX.out.symm, hB3⟩
  have H1 : Hid (M = (decide (0 < n) && decide (0 ≤ r.f) && decide (r.f ≤ 1000 - n))) := by show _ = _; rw [H.out, ho]; simp
  clear H ho
  by_cases h1 : 0 < n
  · by_cases h2 : 0 ≤ r.f
    · by_cases h3 : r.f ≤ 1000 - n
      · have HX : Hid (M = true) := by show _ = _; rw [H1.out, decide_eq_true h1, decide_eq_true h2, decide_eq_true h3]; rfl
        clear H1
        go_wp2_with fail
        go_ret
        exact ⟨ret_b HX.out.symm, hB3⟩
      · have HX : Hid (M = false) := by show _ = _; rw [H1.out, decide_eq_false h3]; simp
        clear H1
        go_wp2_with fail
        go_ret
        exact ⟨ret_b (by rw [HX.out]; exact decide_eq_false (by omega)), hB3⟩
    · have HX : Hid (M = false) := by show _ = _; rw [H1.out, decide_eq_false h2]; simp
      clear H1
      go_wp2_with fail
      go_ret
      exact ⟨ret_b HX.out.symm, hB3⟩
  · have HX : Hid (M = false) := by show _ = _; rw [H1.out, decide_eq_false h1]; simp
    clear H1
    go_wp2_with fail
    go_ret
    exact ⟨ret_b HX.out.symm, hB3⟩
end Go.Proofs.YtofmficdfkeffaaDoor

/-
  The contract of isNext.
-/
namespace Go.Proofs.YtofmficdfkeffaaDoor
open Go.ChangeShapes Go.WideShapes Go.ChangeAt Go.RowKit Go.PlainAid

/-- Could r be one run with a, which stands ahead of it? -/
def nxR (a r : RunD) : Bool := decide (r.c = a.c) && decide (r.q = a.q) && decide (r.f = a.f + cpl a.t)
theorem nxR_iff {a r : RunD} : nxR a r = true ↔ r.c = a.c ∧ r.q = a.q ∧ r.f = a.f + cpl a.t := by simp [nxR, and_assoc]
theorem nxR_no {a r : RunD} : nxR a r = false ↔ ¬ (r.c = a.c ∧ r.q = a.q ∧ r.f = a.f + cpl a.t) := by rw [← nxR_iff]; simp

set_option maxRecDepth 20000 in
set_option maxHeartbeats 1000000 in
theorem isNext_any (a r : RunD) (w : World) (hV : VS w) (hs : a.t.size ≤ 1125899906842624) (hf0 : 0 ≤ a.f) (hf1 : a.f ≤ 1000000) (hn0 : 0 ≤ cpl a.t) :
    Calls Tryd.prog 75 #[a.v, r.v] w fun e w' => e = .returned (.bool (nxR a r)) ∧ Below w.heap.size w w' := by
  have hB : Below w.heap.size w ((w.alloc (.cells #[.int .i64 a.c, .int .i64 a.q, .int .i64 a.f, .string a.t] 65)).alloc (.cells #[.int .i64 r.c, .int .i64 r.q, .int .i64 r.f, .string r.t] 65)) := ((Below.refl _ w).alloc (Nat.le_refl _) _).alloc (by simp) _
  have hx : RB ((w.alloc (.cells #[.int .i64 a.c, .int .i64 a.q, .int .i64 a.f, .string a.t] 65)).alloc (.cells #[.int .i64 r.c, .int .i64 r.q, .int .i64 r.f, .string r.t] 65)) w.heap.size a := RB.below (heap_alloc_new w _) ((Below.refl _ _).alloc (Nat.le_refl _) _)
  have hy : RB ((w.alloc (.cells #[.int .i64 a.c, .int .i64 a.q, .int .i64 a.f, .string a.t] 65)).alloc (.cells #[.int .i64 r.c, .int .i64 r.q, .int .i64 r.f, .string r.t] 65)) (w.heap.size + 1) r := by
    have := heap_alloc_new (w.alloc (.cells #[.int .i64 a.c, .int .i64 a.q, .int .i64 a.f, .string a.t] 65)) (.cells #[.int .i64 r.c, .int .i64 r.q, .int .i64 r.f, .string r.t] 65)
    rw [show (w.alloc (.cells #[.int .i64 a.c, .int .i64 a.q, .int .i64 a.f, .string a.t] 65)).heap.size = w.heap.size + 1 by simp] at this
    exact this
  have hle := cpl_le a.t
  have hz : (a.t.size : Int) ≤ 1125899906842624 := by omega
  unfold RunD.v
  by_cases hc : r.c = a.c ∧ r.q = a.q
  · obtain ⟨h1, h2⟩ := hc
    have HN : Hid (nxR a r = decide (r.f = a.f + cpl a.t)) := by show _ = _; simp [nxR, h1, h2]
    have hct := fun W h => count_any a.t W (hV.below h) hs
    obtain ⟨a1, a2, a3, a4⟩ := a
    obtain ⟨r1, r2, r3, r4⟩ := r
    simp only at *
    subst h1 h2
    generalize nxR _ _ = M at *
    generalize cpl a4 = n at *
    go_enter Tryd.func75, Tryd.ntmps75
    go_wp2_with fail
    generalize (w.alloc _).alloc _ = w1 at *
    obtain ⟨c0, c1, c2, c3⟩ := hx.cells
    obtain ⟨d0, d1, d2, d3⟩ := hy.cells
    simp only at c0 c1 c2 c3 d0 d1 d2 d3
    have hC := hct w1.drew hB.drew
    have hxd : RB w1.drew w.heap.size _ := hx
    have hyd : RB w1.drew (w.heap.size + 1) _ := hy
    clear hct
    go_region_held3 (fun W => W.cell? ⟨w.heap.size, 0, none⟩ = some (.int .i64 r1) ∧ W.cell? ⟨w.heap.size, 1, none⟩ = some (.int .i64 r2) ∧ W.cell? ⟨w.heap.size, 2, none⟩ = some (.int .i64 a3) ∧ W.cell? ⟨w.heap.size, 3, none⟩ = some (.string a4) ∧ W.cell? ⟨w.heap.size + 1, 0, none⟩ = some (.int .i64 r1) ∧ W.cell? ⟨w.heap.size + 1, 1, none⟩ = some (.int .i64 r2) ∧ W.cell? ⟨w.heap.size + 1, 2, none⟩ = some (.int .i64 r3)) (first | assumption | go_keep)
      (first | (go_at_call 83; refine hC.mono ?_; rintro e w5 ⟨rfl, hb5⟩; have hx5 := hxd.below hb5; have hy5 := hyd.below hb5; obtain ⟨k0, k1, k2, k3⟩ := hx5.cells; obtain ⟨l0, l1, l2, l3⟩ := hy5.cells; simp only at k0 k1 k2 k3 l0 l1 l2 l3))
    have hBf := hB.drew.trans (hb5.mono hB.size)
    clear hxd hyd hx5 hy5 k0 k1 k2 k3 l0 l1 l2 l3 hC hb5 hx hy
    go_wp2_with fail
    go_ret
    exact ⟨ret_b (by rw [HN.out, wraps_i64 _ (by omega) (by omega)]; rfl), hBf⟩
  · have HN : Hid (nxR a r = false) := nxR_no.2 (fun h => hc ⟨h.1, h.2.1⟩)
    by_cases h1 : r.c = a.c
    · have h2 : ¬ r.q = a.q := fun h => hc ⟨h1, h⟩
      obtain ⟨a1, a2, a3, a4⟩ := a
      obtain ⟨r1, r2, r3, r4⟩ := r
      simp only at *
      subst h1
      generalize nxR _ _ = M at *
      have hd : (r2 == a2) = false := by simpa using h2
      have hd2 : decide (r2 = a2) = false := decide_eq_false h2
      clear hc
      go_enter Tryd.func75, Tryd.ntmps75
      go_wp2_with fail
      generalize (w.alloc _).alloc _ = w1 at *
      obtain ⟨c0, c1, c2, c3⟩ := hx.cells
      obtain ⟨d0, d1, d2, d3⟩ := hy.cells
      simp only at c0 c1 c2 c3 d0 d1 d2 d3
      clear hx hy
      go_quiet (fail)
      go_wp2_with fail
      go_ret
      exact ⟨ret_b HN.out.symm, below_drewN hB _⟩
    · have hd : (r.c == a.c) = false := by simpa using h1
      have hd2 : decide (r.c = a.c) = false := decide_eq_false h1
      clear hc
      go_enter Tryd.func75, Tryd.ntmps75
      go_wp2_with fail
      generalize (w.alloc _).alloc _ = w1 at *
      obtain ⟨c0, c1, c2, c3⟩ := hx.cells
      obtain ⟨d0, d1, d2, d3⟩ := hy.cells
      clear hx hy
      go_quiet (fail)
      go_wp2_with fail
      go_ret
      exact ⟨ret_b HN.out.symm, below_drewN hB _⟩
end Go.Proofs.YtofmficdfkeffaaDoor
