/-
  Runs as data; the contracts of isOrigin, mayBe and isNext.
-/
import Derived.Test.YtjimolafoihnpaaDoorOtA
import Derived.Deep.RegionHeld3
import Derived.BigQuiet
import Derived.Test.YtjimolafoihnpaaDoorDlP
namespace Go.Proofs.YtjimolafoihnpaaDoor
open Go.ChangeShapes Go.WideShapes Go.ChangeAt Go.RowKit Go.PlainAid

theorem ret_b {a b : Bool} (h : a = b) : Ending.returned (.bool a) = .returned (.bool b) := by rw [h]

/-- A run: its origin's Client and Seq, From, Text. -/
structure RunD where
  c : Int
  q : Int
  f : Int
  t : ByteArray
/-- As a value. -/
def RunD.v (r : RunD) : Value := .agg #[.int .i64 r.c, .int .i64 r.q, .int .i64 r.f, .string r.t]
/-- Runs in the world. -/
def RdN (w : World) (v : Value) (l : List RunD) : Prop :=
  ∃ (ao : Option Addr) (cp : Nat), v = .slice ao l.length cp ∧ l.length ≤ cp ∧ ∀ i r, l[i]? = some r → ∃ b off, ao = some ⟨b, off, none⟩ ∧ b < w.heap.size ∧
    w.cell? ⟨b, off + i * 4, none⟩ = some (.int .i64 r.c) ∧ w.cell? ⟨b, off + i * 4 + 1, none⟩ = some (.int .i64 r.q) ∧ w.cell? ⟨b, off + i * 4 + 2, none⟩ = some (.int .i64 r.f) ∧ w.cell? ⟨b, off + i * 4 + 3, none⟩ = some (.string r.t)
theorem RdN.below {w w' : World} {v : Value} {l : List RunD} (h : RdN w v l) (hb : Below w.heap.size w w') : RdN w' v l := by
  obtain ⟨ao, cp, e, hc, h⟩ := h
  refine ⟨ao, cp, e, hc, fun i r hr => ?_⟩
  obtain ⟨b, off, e1, h1, c0, c1, c2, c3⟩ := h i r hr
  have g : ∀ j, w'.cell? ⟨b, j, none⟩ = w.cell? ⟨b, j, none⟩ := fun j => hb.cell (p := ⟨b, j, none⟩) h1
  exact ⟨b, off, e1, Nat.lt_of_lt_of_le h1 hb.size, by rw [g]; exact c0, by rw [g]; exact c1, by rw [g]; exact c2, by rw [g]; exact c3⟩
theorem RdN.nil (w : World) : RdN w (.slice none 0 0) [] := ⟨none, 0, rfl, Nat.le_refl _, fun i r h => by simp at h⟩

/-- Is it an origin? -/
def orM (c q : Int) : Bool := decide (0 ≤ c) && decide (c ≤ 8) && decide (1 ≤ q) && decide (q ≤ 100000)
theorem orM_iff {c q : Int} : orM c q = true ↔ 0 ≤ c ∧ c ≤ 8 ∧ 1 ≤ q ∧ q ≤ 100000 := by simp [orM, and_assoc]
theorem orM_no {c q : Int} : orM c q = false ↔ ¬ (0 ≤ c ∧ c ≤ 8 ∧ 1 ≤ q ∧ q ≤ 100000) := by rw [← orM_iff]; simp

set_option maxRecDepth 20000 in
theorem isOrigin_any (c q : Int) (w : World) :
    Calls Tryd.prog 20 #[.agg #[.int .i64 c, .int .i64 q]] w fun e w' => e = .returned (.bool (orM c q)) ∧ Below w.heap.size w w' := by
  have hB : Below w.heap.size w (w.alloc (.cells #[.int .i64 c, .int .i64 q] 29)) := (Below.refl _ w).alloc (Nat.le_refl _) _
  by_cases h1 : 0 ≤ c
  · by_cases h2 : c ≤ 8
    · by_cases h3 : 1 ≤ q
      · by_cases h4 : q ≤ 100000
        · have H : Hid (orM c q = true) := orM_iff.2 ⟨h1, h2, h3, h4⟩
          go_enter Tryd.func20, Tryd.ntmps20
          go_wp2
          go_ret
          exact ⟨ret_b H.out.symm, hB⟩
        · have H : Hid (orM c q = false) := orM_no.2 (fun h => h4 h.2.2.2)
          go_enter Tryd.func20, Tryd.ntmps20
          go_wp2
          go_ret
          exact ⟨ret_b H.out.symm, hB⟩
      · have H : Hid (orM c q = false) := orM_no.2 (fun h => h3 h.2.2.1)
        go_enter Tryd.func20, Tryd.ntmps20
        go_wp2
        go_ret
        exact ⟨ret_b H.out.symm, hB⟩
    · have H : Hid (orM c q = false) := orM_no.2 (fun h => h2 h.2.1)
      go_enter Tryd.func20, Tryd.ntmps20
      go_wp2
      go_ret
      exact ⟨ret_b H.out.symm, hB⟩
  · have H : Hid (orM c q = false) := orM_no.2 (fun h => h1 h.1)
    go_enter Tryd.func20, Tryd.ntmps20
    go_wp2
    go_ret
    exact ⟨ret_b H.out.symm, hB⟩

/-- A run's box. -/
def RB (W : World) (p : Nat) (r : RunD) : Prop := W.heap[p]? = some (.cells #[.int .i64 r.c, .int .i64 r.q, .int .i64 r.f, .string r.t] 44)
theorem RB.below {W W' : World} {p : Nat} {r : RunD} (h : RB W p r) (hb : Below W.heap.size W W') : RB W' p r := (hb.block p (heap_lt h)).trans h
theorem RB.cells {W : World} {p : Nat} {r : RunD} (h : RB W p r) : W.cell? ⟨p, 0, none⟩ = some (.int .i64 r.c) ∧ W.cell? ⟨p, 1, none⟩ = some (.int .i64 r.q) ∧ W.cell? ⟨p, 2, none⟩ = some (.int .i64 r.f) ∧ W.cell? ⟨p, 3, none⟩ = some (.string r.t) :=
  ⟨cell_of_row _ _ 0 _ _ (0, 0) h, cell_of_row _ _ 1 _ _ (0, 0) h, cell_of_row _ _ 2 _ _ (0, 0) h, cell_of_row _ _ 3 _ _ (0, 0) h⟩

/-- May a run be? -/
def mayR (r : RunD) : Bool := orM r.c r.q && decide (0 < cpl r.t) && decide (0 ≤ r.f) && decide (r.f ≤ 1000 - cpl r.t)
theorem mayR_iff {r : RunD} : mayR r = true ↔ orM r.c r.q = true ∧ 0 < cpl r.t ∧ 0 ≤ r.f ∧ r.f ≤ 1000 - cpl r.t := by simp [mayR, and_assoc]

set_option maxRecDepth 20000 in
set_option maxHeartbeats 1000000 in
theorem mayBe_any (r : RunD) (w : World) (hV : VS w) (hs : r.t.size ≤ 1125899906842624) :
    Calls Tryd.prog 13 #[r.v] w fun e w' => e = .returned (.bool (mayR r)) ∧ Below w.heap.size w w' := by
  have H : Hid (mayR r = (orM r.c r.q && decide (0 < cpl r.t) && decide (0 ≤ r.f) && decide (r.f ≤ 1000 - cpl r.t))) := rfl
  have hB : Below w.heap.size w (w.alloc (.cells #[.int .i64 r.c, .int .i64 r.q, .int .i64 r.f, .string r.t] 44)) := (Below.refl _ w).alloc (Nat.le_refl _) _
  have hx : RB _ _ r := heap_alloc_new w (.cells #[.int .i64 r.c, .int .i64 r.q, .int .i64 r.f, .string r.t] 44)
  have hc := count_any r.t _ (hV.below hB) hs
  have hle := cpl_le r.t
  have hz : (r.t.size : Int) ≤ 1125899906842624 := by omega
  generalize mayR r = M at *
  generalize cpl r.t = n at *
  unfold RunD.v
  go_enter Tryd.func13, Tryd.ntmps13
  go_wp2_with fail
  generalize w.alloc _ = w1 at *
  refine hc.mono ?_
  rintro e w2 ⟨rfl, hb2⟩
  have hx2 := hx.below hb2
  have hB2 := hB.trans (hb2.mono hB.size)
  obtain ⟨c0, c1, c2, c3⟩ := hx2.cells
  clear hc hx hb2 hB
  go_wp2_with fail
  refine (isOrigin_any _ _ _).mono ?_
  rintro e w3 ⟨rfl, hb3⟩
  have hx3 := hx2.below hb3
  have hB3 := hB2.trans (hb3.mono hB2.size)
  clear c0 c1 c2 c3 hx2 hB2 hb3
  obtain ⟨c0, c1, c2, c3⟩ := hx3.cells
  cases ho : orM r.c r.q
  · have HX : Hid (M = false) := by show _ = _; rw [H.out, ho]; rfl
    clear H ho
    go_wp2_with fail
    go_ret
    exact ⟨ret_b HX.out.symm, hB3⟩
  have H1 : Hid (M = (decide (0 < n) && decide (0 ≤ r.f) && decide (r.f ≤ 1000 - n))) := by show _ = _; rw [H.out, ho]; simp
  clear H ho
  by_cases h1 : 0 < n
  · by_cases h2 : 0 ≤ r.f
    · by_cases h3 : r.f ≤ 1000 - n
      · have HX : Hid (M = true) := by show _ = _; rw [H1.out, decide_eq_true h1, decide_eq_true h2, decide_eq_true h3]; rfl
        clear H1
        go_wp2_with fail
        go_ret
        exact ⟨ret_b HX.out.symm, hB3⟩
      · have HX : Hid (M = false) := by show _ = _; rw [H1.out, decide_eq_false h3]; simp
        clear H1
        go_wp2_with fail
        go_ret
        exact ⟨ret_b (by rw [HX.out]; exact decide_eq_false (by omega)), hB3⟩
    · have HX : Hid (M = false) := by show _ = _; rw [H1.out, decide_eq_false h2]; simp
      clear H1
      go_wp2_with fail
      go_ret
      exact ⟨ret_b HX.out.symm, hB3⟩
  · have HX : Hid (M = false) := by show _ = _; rw [H1.out, decide_eq_false h1]; simp
    clear H1
    go_wp2_with fail
    go_ret
    exact ⟨ret_b HX.out.symm, hB3⟩
end Go.Proofs.YtjimolafoihnpaaDoor

/-
  The contract of isNext.
-/
namespace Go.Proofs.YtjimolafoihnpaaDoor
open Go.ChangeShapes Go.WideShapes Go.ChangeAt Go.RowKit Go.PlainAid

/-- Could r be one run with a, which stands ahead of it? -/
def nxR (a r : RunD) : Bool := decide (r.c = a.c) && decide (r.q = a.q) && decide (r.f = a.f + cpl a.t)
theorem nxR_iff {a r : RunD} : nxR a r = true ↔ r.c = a.c ∧ r.q = a.q ∧ r.f = a.f + cpl a.t := by simp [nxR, and_assoc]
theorem nxR_no {a r : RunD} : nxR a r = false ↔ ¬ (r.c = a.c ∧ r.q = a.q ∧ r.f = a.f + cpl a.t) := by rw [← nxR_iff]; simp

set_option maxRecDepth 20000 in
set_option maxHeartbeats 1000000 in
theorem isNext_any (a r : RunD) (w : World) (hV : VS w) (hs : a.t.size ≤ 1125899906842624) (hf0 : 0 ≤ a.f) (hf1 : a.f ≤ 1000000) (hn0 : 0 ≤ cpl a.t) :
    Calls Tryd.prog 14 #[a.v, r.v] w fun e w' => e = .returned (.bool (nxR a r)) ∧ Below w.heap.size w w' := by
  have hB : Below w.heap.size w ((w.alloc (.cells #[.int .i64 a.c, .int .i64 a.q, .int .i64 a.f, .string a.t] 44)).alloc (.cells #[.int .i64 r.c, .int .i64 r.q, .int .i64 r.f, .string r.t] 44)) := ((Below.refl _ w).alloc (Nat.le_refl _) _).alloc (by simp) _
  have hx : RB ((w.alloc (.cells #[.int .i64 a.c, .int .i64 a.q, .int .i64 a.f, .string a.t] 44)).alloc (.cells #[.int .i64 r.c, .int .i64 r.q, .int .i64 r.f, .string r.t] 44)) w.heap.size a := RB.below (heap_alloc_new w _) ((Below.refl _ _).alloc (Nat.le_refl _) _)
  have hy : RB ((w.alloc (.cells #[.int .i64 a.c, .int .i64 a.q, .int .i64 a.f, .string a.t] 44)).alloc (.cells #[.int .i64 r.c, .int .i64 r.q, .int .i64 r.f, .string r.t] 44)) (w.heap.size + 1) r := by
    have := heap_alloc_new (w.alloc (.cells #[.int .i64 a.c, .int .i64 a.q, .int .i64 a.f, .string a.t] 44)) (.cells #[.int .i64 r.c, .int .i64 r.q, .int .i64 r.f, .string r.t] 44)
    rw [show (w.alloc (.cells #[.int .i64 a.c, .int .i64 a.q, .int .i64 a.f, .string a.t] 44)).heap.size = w.heap.size + 1 by simp] at this
    exact this
  have hle := cpl_le a.t
  have hz : (a.t.size : Int) ≤ 1125899906842624 := by omega
  unfold RunD.v
  by_cases hc : r.c = a.c ∧ r.q = a.q
  · obtain ⟨h1, h2⟩ := hc
    have HN : Hid (nxR a r = decide (r.f = a.f + cpl a.t)) := by show _ = _; simp [nxR, h1, h2]
    have hct := fun W h => count_any a.t W (hV.below h) hs
    obtain ⟨a1, a2, a3, a4⟩ := a
    obtain ⟨r1, r2, r3, r4⟩ := r
    simp only at *
    subst h1 h2
    generalize nxR _ _ = M at *
    generalize cpl a4 = n at *
    go_enter Tryd.func14, Tryd.ntmps14
    go_wp2_with fail
    generalize (w.alloc _).alloc _ = w1 at *
    obtain ⟨c0, c1, c2, c3⟩ := hx.cells
    obtain ⟨d0, d1, d2, d3⟩ := hy.cells
    simp only at c0 c1 c2 c3 d0 d1 d2 d3
    have hC := hct w1.drew hB.drew
    have hxd : RB w1.drew w.heap.size _ := hx
    have hyd : RB w1.drew (w.heap.size + 1) _ := hy
    clear hct
    go_region_held3 (fun W => W.cell? ⟨w.heap.size, 0, none⟩ = some (.int .i64 r1) ∧ W.cell? ⟨w.heap.size, 1, none⟩ = some (.int .i64 r2) ∧ W.cell? ⟨w.heap.size, 2, none⟩ = some (.int .i64 a3) ∧ W.cell? ⟨w.heap.size, 3, none⟩ = some (.string a4) ∧ W.cell? ⟨w.heap.size + 1, 0, none⟩ = some (.int .i64 r1) ∧ W.cell? ⟨w.heap.size + 1, 1, none⟩ = some (.int .i64 r2) ∧ W.cell? ⟨w.heap.size + 1, 2, none⟩ = some (.int .i64 r3)) (first | assumption | go_keep)
      (first | (go_at_call 43; refine hC.mono ?_; rintro e w5 ⟨rfl, hb5⟩; have hx5 := hxd.below hb5; have hy5 := hyd.below hb5; obtain ⟨k0, k1, k2, k3⟩ := hx5.cells; obtain ⟨l0, l1, l2, l3⟩ := hy5.cells; simp only at k0 k1 k2 k3 l0 l1 l2 l3))
    have hBf := hB.drew.trans (hb5.mono hB.size)
    clear hxd hyd hx5 hy5 k0 k1 k2 k3 l0 l1 l2 l3 hC hb5 hx hy
    go_wp2_with fail
    go_ret
    exact ⟨ret_b (by rw [HN.out, wraps_i64 _ (by omega) (by omega)]; rfl), hBf⟩
  · have HN : Hid (nxR a r = false) := nxR_no.2 (fun h => hc ⟨h.1, h.2.1⟩)
    by_cases h1 : r.c = a.c
    · have h2 : ¬ r.q = a.q := fun h => hc ⟨h1, h⟩
      obtain ⟨a1, a2, a3, a4⟩ := a
      obtain ⟨r1, r2, r3, r4⟩ := r
      simp only at *
      subst h1
      generalize nxR _ _ = M at *
      have hd : (r2 == a2) = false := by simpa using h2
      have hd2 : decide (r2 = a2) = false := decide_eq_false h2
      clear hc
      go_enter Tryd.func14, Tryd.ntmps14
      go_wp2_with fail
      generalize (w.alloc _).alloc _ = w1 at *
      obtain ⟨c0, c1, c2, c3⟩ := hx.cells
      obtain ⟨d0, d1, d2, d3⟩ := hy.cells
      simp only at c0 c1 c2 c3 d0 d1 d2 d3
      clear hx hy
      go_quiet (fail)
      go_wp2_with fail
      go_ret
      exact ⟨ret_b HN.out.symm, below_drewN hB _⟩
    · have hd : (r.c == a.c) = false := by simpa using h1
      have hd2 : decide (r.c = a.c) = false := decide_eq_false h1
      clear hc
      go_enter Tryd.func14, Tryd.ntmps14
      go_wp2_with fail
      generalize (w.alloc _).alloc _ = w1 at *
      obtain ⟨c0, c1, c2, c3⟩ := hx.cells
      obtain ⟨d0, d1, d2, d3⟩ := hy.cells
      clear hx hy
      go_quiet (fail)
      go_wp2_with fail
      go_ret
      exact ⟨ret_b HN.out.symm, below_drewN hB _⟩
end Go.Proofs.YtjimolafoihnpaaDoor

/-
  Atoms of runs; runs that stand as they must are told by their atoms. No walk.
-/
namespace Go.Proofs.YtjimolafoihnpaaDoor
open Go.ChangeShapes Go.WideShapes Go.ChangeAt Go.RowKit Go.PlainAid

/-- An atom: its origin's Client and Seq, its number, its code point. -/
structure Atm where
  c : Int
  q : Int
  n : Int
  z : Int
/-- Atoms of code points, numbered on from n. -/
def atG (c q : Int) : Int → List Int → List Atm
  | _, [] => []
  | n, z :: zs => ⟨c, q, n, z⟩ :: atG c q (n + 1) zs
theorem atG_len (c q : Int) : ∀ (n : Int) (zs : List Int), (atG c q n zs).length = zs.length
  | _, [] => rfl
  | n, z :: zs => by simp [atG, atG_len c q (n + 1) zs]
theorem atG_append (c q : Int) : ∀ (n : Int) (a b : List Int), atG c q n (a ++ b) = atG c q n a ++ atG c q (n + a.length) b
  | n, [], b => by simp [atG]
  | n, z :: a, b => by
    have h : n + ((z :: a).length : Int) = n + 1 + (a.length : Int) := by simp; omega
    rw [h]
    simp [atG, atG_append c q (n + 1) a b]
theorem atG_take (c q : Int) : ∀ (n : Int) (zs : List Int) (k : Nat), (atG c q n zs).take k = atG c q n (zs.take k)
  | n, [], k => by simp [atG]
  | n, z :: zs, 0 => by simp [atG]
  | n, z :: zs, k + 1 => by simp [atG, atG_take c q (n + 1) zs k]
theorem atG_drop (c q : Int) : ∀ (n : Int) (zs : List Int) (k : Nat), k ≤ zs.length → (atG c q n zs).drop k = atG c q (n + k) (zs.drop k)
  | n, zs, 0, _ => by simp
  | n, [], k + 1, h => by simp at h
  | n, z :: zs, k + 1, h => by
    have e : n + ((k + 1 : Nat) : Int) = n + 1 + (k : Int) := by omega
    rw [e]
    simp [atG, atG_drop c q (n + 1) zs k (by simpa using h)]
theorem atG_inj {c q : Int} : ∀ {n : Int} {a b : List Int}, atG c q n a = atG c q n b → a = b
  | _, [], [], _ => rfl
  | _, [], _ :: _, h => by simp [atG] at h
  | _, _ :: _, [], h => by simp [atG] at h
  | n, x :: a, y :: b, h => by
    simp only [atG, List.cons.injEq, Atm.mk.injEq, true_and] at h
    rw [h.1, atG_inj h.2]

/-- The atoms of a run, of runs. -/
def RunD.ats (r : RunD) : List Atm := atG r.c r.q r.f (pts r.t)
def ats (l : List RunD) : List Atm := (l.map RunD.ats).flatten
theorem ats_nil : ats [] = [] := rfl
theorem ats_cons (r : RunD) (l : List RunD) : ats (r :: l) = r.ats ++ ats l := by simp [ats]
theorem ats_append (a b : List RunD) : ats (a ++ b) = ats a ++ ats b := by simp [ats]
theorem ats_len (r : RunD) (h : 0 ≤ cpl r.t) : (r.ats.length : Int) = cpl r.t := by rw [RunD.ats, atG_len]; exact pts_len h

/-- A run with atoms. -/
def RunD.Ok (r : RunD) : Prop := 0 < cpl r.t
theorem pts_inj {a b : ByteArray} (ha : 0 ≤ cpl a) (hb : 0 ≤ cpl b) (h : pts a = pts b) : a = b := by
  have h1 := ins_enc ha
  have h2 := ins_enc hb
  rw [h, ← h2] at h1
  exact ByteArray.ext (Array.toList_inj.1 h1)

/-- Runs as they must stand: each has atoms, and none goes on the one ahead of it. -/
def Can : List RunD → Prop
  | [] => True
  | [r] => r.Ok
  | a :: r :: l => a.Ok ∧ nxR a r = false ∧ Can (r :: l)
theorem Can.tail {r : RunD} {l : List RunD} (h : Can (r :: l)) : Can l := by
  cases l with
  | nil => trivial
  | cons b l => exact h.2.2
theorem Can.head {r : RunD} {l : List RunD} (h : Can (r :: l)) : r.Ok := by
  cases l with
  | nil => exact h
  | cons b l => exact h.1
theorem Can.all : ∀ {l : List RunD}, Can l → ∀ r ∈ l, r.Ok
  | [], _, r, hr => by simp at hr
  | a :: l, h, r, hr => by
    rcases List.mem_cons.1 hr with rfl | hr
    · exact h.head
    · exact Can.all h.tail r hr

theorem pts_pos {r : RunD} (h : r.Ok) : 0 < (pts r.t).length := by
  have := pts_len (t := r.t) (by unfold RunD.Ok at h; omega)
  unfold RunD.Ok at h
  omega

/-- The first atom behind a run is not the next one of its own. -/
theorem can_first {r : RunD} {l : List RunD} (h : Can (r :: l)) (a : Atm) (ha : (ats l).head? = some a) : ¬ (a.c = r.c ∧ a.q = r.q ∧ a.n = r.f + (pts r.t).length) := by
  cases l with
  | nil => simp [ats] at ha
  | cons b l =>
    obtain ⟨h1, h2, h3⟩ := h
    have hb := pts_pos h3.head
    have hl := pts_len (t := r.t) (by unfold RunD.Ok at h1; omega)
    rw [ats_cons, RunD.ats] at ha
    cases hp : pts b.t with
    | nil => rw [hp] at hb; simp at hb
    | cons z zs =>
      rw [hp] at ha
      simp [atG] at ha
      subst ha
      simp only
      rw [hl]
      exact nxR_no.1 h2

/-- Atoms tell the runs. -/
theorem can_inj : ∀ {a b : List RunD}, Can a → Can b → ats a = ats b → a = b
  | [], [], _, _, _ => rfl
  | [], r :: b, _, hb, h => by
    have := pts_pos hb.head
    have e := congrArg List.length h
    rw [ats_cons, List.length_append, RunD.ats, atG_len, ats_nil, List.length_nil] at e
    omega
  | r :: a, [], ha, _, h => by
    have := pts_pos ha.head
    have e := congrArg List.length h
    rw [ats_cons, List.length_append, RunD.ats, atG_len, ats_nil, List.length_nil] at e
    omega
  | r :: a, s :: b, ha, hb, h => by
    have k1 := pts_pos ha.head
    have k2 := pts_pos hb.head
    have o1 := ha.head
    have o2 := hb.head
    unfold RunD.Ok at o1 o2
    rw [ats_cons, ats_cons, RunD.ats, RunD.ats] at h
    have hfirst : r.c = s.c ∧ r.q = s.q ∧ r.f = s.f := by
      cases hp : pts r.t with
      | nil => rw [hp] at k1; simp at k1
      | cons z zs =>
        cases hq : pts s.t with
        | nil => rw [hq] at k2; simp at k2
        | cons y ys =>
          rw [hp, hq] at h
          simp only [atG, List.cons_append, List.cons.injEq, Atm.mk.injEq] at h
          exact ⟨h.1.1, h.1.2.1, h.1.2.2.1⟩
    obtain ⟨e1, e2, e3⟩ := hfirst
    have hlen : (pts r.t).length = (pts s.t).length := by
      rcases Nat.lt_trichotomy (pts r.t).length (pts s.t).length with hlt | he | hgt
      · exfalso
        have hd := congrArg (List.drop (pts r.t).length) h
        rw [List.drop_append_of_le_length (by rw [atG_len]; omega), List.drop_of_length_le (by rw [atG_len]; omega), List.nil_append, List.drop_append_of_le_length (by rw [atG_len]; omega), atG_drop _ _ _ _ _ (by omega)] at hd
        cases hx : (pts s.t).drop (pts r.t).length with
        | nil => have := congrArg List.length hx; simp at this; omega
        | cons z zs =>
          rw [hx] at hd
          have := can_first ha ⟨s.c, s.q, s.f + ((pts r.t).length : Int), z⟩ (by rw [hd]; rfl)
          exact this ⟨e1.symm, e2.symm, by simp only [e3]⟩
      · exact he
      · exfalso
        have hd := congrArg (List.drop (pts s.t).length) h
        rw [List.drop_append_of_le_length (l₁ := atG s.c s.q s.f (pts s.t)) (by rw [atG_len]; omega), List.drop_of_length_le (l := atG s.c s.q s.f (pts s.t)) (by rw [atG_len]; omega), List.nil_append, List.drop_append_of_le_length (by rw [atG_len]; omega), atG_drop _ _ _ _ _ (by omega)] at hd
        cases hx : (pts r.t).drop (pts s.t).length with
        | nil => have := congrArg List.length hx; simp at this; omega
        | cons z zs =>
          rw [hx] at hd
          have := can_first hb ⟨r.c, r.q, r.f + ((pts s.t).length : Int), z⟩ (by rw [← hd]; rfl)
          exact this ⟨e1, e2, by simp only [e3]⟩
    have hsplit := List.append_inj h (by rw [atG_len, atG_len]; exact hlen)
    have hp : pts r.t = pts s.t := by
      have := hsplit.1
      rw [e1, e2, e3] at this
      exact atG_inj this
    have ht : r.t = s.t := pts_inj (by omega) (by omega) hp
    have hrs : r = s := by
      obtain ⟨rc, rq, rf, rt⟩ := r
      obtain ⟨sc, sq, sf, st⟩ := s
      simp only at e1 e2 e3 ht
      rw [e1, e2, e3, ht]
    rw [hrs, can_inj ha.tail hb.tail hsplit.2]
end Go.Proofs.YtjimolafoihnpaaDoor
