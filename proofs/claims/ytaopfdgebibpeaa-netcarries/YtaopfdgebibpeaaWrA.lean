/-
  Messages as data; the contracts of within, mayBeEdit, hasDelta and mayBe.
-/
import Derived.Test.YtaopfdgebibpeaaDlK
namespace Go.Proofs.Ytaopfdgebibpeaa
open Go.ChangeShapes Go.WideShapes Go.ChangeAt Go.RowKit Go.PlainAid

theorem ret_b {a b : Bool} (h : a = b) : Ending.returned (.bool a) = .returned (.bool b) := by rw [h]

/-- A message: Kind, Branch, Client, Seq, Rev, Who, Delta. -/
structure MsD where
  k : Int
  b : Int
  c : Int
  s : Int
  r : Int
  y : Int
  d : List OpD
/-- Its fields, the Delta lying at v. -/
def MsD.fs (m : MsD) (v : Value) : Array Value := #[.int .i64 m.k, .int .i64 m.b, .int .i64 m.c, .int .i64 m.s, .int .i64 m.r, .int .i64 m.y, v]

/-- From a to b. -/
def wi (a b n : Int) : Bool := decide (a ≤ n) && decide (n ≤ b)
theorem wi_iff {a b n : Int} : wi a b n = true ↔ a ≤ n ∧ n ≤ b := by simp [wi]
theorem wi_no {a b n : Int} : wi a b n = false ↔ ¬ (a ≤ n ∧ n ≤ b) := by rw [← wi_iff]; simp
/-- May these be Who and Seq of a MsgNext? -/
def edM (y s : Int) : Bool := if y = 0 then decide (s = 0) else wi 1 8 y && wi 1 100000 s
/-- The part that hangs on the Kind. -/
def kiM (m : MsD) : Bool :=
  if m.k = 1 then wi 0 1000000 m.r && wi 1 100000 m.s && decide (m.y = 0)
  else if m.k = 2 then wi 0 1000000 m.r && decide (m.s = 0) && decide (m.y = 0) && decide (m.d.length = 0)
  else if m.k = 3 then wi 1 1000000 m.r && edM m.y m.s else false
/-- May it be? -/
def mayM (m : MsD) : Bool := wi 1 1000000 m.b && wi 1 8 m.c && decide (chk m.d = 0) && kiM m

theorem within_any (a b n : Int) (w : World) :
    Calls Try.prog 28 #[.int .i64 a, .int .i64 b, .int .i64 n] w fun e w' => e = .returned (.bool (wi a b n)) ∧ w' = w := by
  by_cases h1 : a ≤ n
  · by_cases h2 : n ≤ b
    · have H : Hid (wi a b n = true) := wi_iff.2 ⟨h1, h2⟩
      go_enter Try.func28, Try.ntmps28
      go_wp2
      go_ret
      exact ⟨ret_b H.out.symm, rfl⟩
    · have H : Hid (wi a b n = false) := wi_no.2 (fun h => h2 h.2)
      go_enter Try.func28, Try.ntmps28
      go_wp2
      go_ret
      exact ⟨ret_b H.out.symm, rfl⟩
  · have H : Hid (wi a b n = false) := wi_no.2 (fun h => h1 h.1)
    go_enter Try.func28, Try.ntmps28
    go_wp2
    go_ret
    exact ⟨ret_b H.out.symm, rfl⟩

set_option maxRecDepth 20000 in
theorem mayBeEdit_any (y s : Int) (w : World) :
    Calls Try.prog 30 #[.int .i64 y, .int .i64 s] w fun e w' => e = .returned (.bool (edM y s)) ∧ w' = w := by
  have c1 := within_any 1 8 y w
  have c2 := within_any 1 100000 s w
  by_cases h0 : y = 0
  · subst h0
    have H : Hid (edM 0 s = decide (s = 0)) := if_pos rfl
    by_cases h1 : s = 0
    · subst h1
      clear c1 c2
      go_enter Try.func30, Try.ntmps30
      go_wp2
      go_ret
      exact ⟨ret_b (by rw [H.out]; decide), rfl⟩
    · have H1 : Hid (edM 0 s = false) := by show _ = _; rw [H.out]; exact decide_eq_false h1
      clear c1 c2
      go_enter Try.func30, Try.ntmps30
      go_wp2
      go_ret
      exact ⟨ret_b (by rw [H1.out]; simp [h1]), rfl⟩
  · have H : Hid (edM y s = (wi 1 8 y && wi 1 100000 s)) := if_neg h0
    generalize wi 1 8 y = x1 at *
    generalize wi 1 100000 s = x2 at *
    cases x1
    · clear c2
      go_enter Try.func30, Try.ntmps30
      go_wp2_with fail
      refine c1.mono ?_
      rintro e w1 ⟨rfl, rfl⟩
      go_wp2_with fail
      go_ret
      exact ⟨ret_b H.out.symm, rfl⟩
    · go_enter Try.func30, Try.ntmps30
      go_wp2_with fail
      refine c1.mono ?_
      rintro e w1 ⟨rfl, rfl⟩
      go_wp2_with fail
      refine c2.mono ?_
      rintro e w2 ⟨rfl, rfl⟩
      go_wp2_with fail
      go_ret
      exact ⟨ret_b H.out.symm, rfl⟩

/-- Does its form end with its Delta? -/
def hdM (k : Int) : Bool := decide (k = 1) || decide (k = 3)
theorem hdM_1 : hdM 1 = true := rfl
theorem hdM_3 : hdM 3 = true := rfl
theorem hdM_no {k : Int} (h1 : k ≠ 1) (h3 : k ≠ 3) : hdM k = false := by simp [hdM, h1, h3]

theorem hasDelta_any (m : MsD) (v : Value) (w : World) :
    Calls Try.prog 18 #[.agg (m.fs v)] w fun e w' => e = .returned (.bool (hdM m.k)) ∧ Below w.heap.size w w' := by
  obtain ⟨k, b, c, s, r, y, d⟩ := m
  unfold MsD.fs
  simp only
  have hB : Below w.heap.size w (w.alloc (.cells #[.int .i64 k, .int .i64 b, .int .i64 c, .int .i64 s, .int .i64 r, .int .i64 y, v] 34)) := (Below.refl _ w).alloc (Nat.le_refl _) _
  by_cases h1 : k = 1
  · subst h1
    go_enter Try.func18, Try.ntmps18
    go_wp2
    go_ret
    exact ⟨rfl, hB⟩
  · by_cases h3 : k = 3
    · subst h3
      go_enter Try.func18, Try.ntmps18
      go_wp2
      go_ret
      exact ⟨rfl, hB⟩
    · have H : Hid (hdM k = false) := hdM_no h1 h3
      go_enter Try.func18, Try.ntmps18
      go_wp2
      go_ret
      exact ⟨ret_b (by rw [H.out]; simp [h1, h3]), hB⟩

/-- A message's box. -/
def MB (W : World) (p : Nat) (m : MsD) (v : Value) : Prop := W.heap[p]? = some (.cells (m.fs v) 34)
theorem MB.below {W W' : World} {p : Nat} {m : MsD} {v : Value} (h : MB W p m v) (hb : Below W.heap.size W W') : MB W' p m v := (hb.block p (heap_lt h)).trans h
theorem MB.cells {W : World} {p : Nat} {m : MsD} {v : Value} (h : MB W p m v) : W.cell? ⟨p, 0, none⟩ = some (.int .i64 m.k) ∧ W.cell? ⟨p, 1, none⟩ = some (.int .i64 m.b) ∧ W.cell? ⟨p, 2, none⟩ = some (.int .i64 m.c) ∧ W.cell? ⟨p, 3, none⟩ = some (.int .i64 m.s) ∧ W.cell? ⟨p, 4, none⟩ = some (.int .i64 m.r) ∧ W.cell? ⟨p, 5, none⟩ = some (.int .i64 m.y) ∧ W.cell? ⟨p, 6, none⟩ = some v :=
  ⟨cell_of_row _ _ 0 _ _ (0, 0) h, cell_of_row _ _ 1 _ _ (0, 0) h, cell_of_row _ _ 2 _ _ (0, 0) h, cell_of_row _ _ 3 _ _ (0, 0) h, cell_of_row _ _ 4 _ _ (0, 0) h, cell_of_row _ _ 5 _ _ (0, 0) h, cell_of_row _ _ 6 _ _ (0, 0) h⟩

set_option maxRecDepth 20000 in
set_option maxHeartbeats 1000000 in
theorem mayBe_any (m : MsD) (v : Value) (w : World) (hr : RdD w v m.d) (hm : m.d.length ≤ maxLen) (hi : ∀ o ∈ m.d, o.In) :
    Calls Try.prog 15 #[.agg (m.fs v)] w fun e w' => e = .returned (.bool (mayM m)) ∧ Below w.heap.size w w' := by
  obtain ⟨k, b, c, s, r, y, d⟩ := m
  have H : Hid (mayM ⟨k, b, c, s, r, y, d⟩ = (wi 1 1000000 b && wi 1 8 c && decide (chk d = 0) && kiM ⟨k, b, c, s, r, y, d⟩)) := rfl
  have HK : Hid (kiM ⟨k, b, c, s, r, y, d⟩ = if k = 1 then wi 0 1000000 r && wi 1 100000 s && decide (y = 0)
    else if k = 2 then wi 0 1000000 r && decide (s = 0) && decide (y = 0) && decide (d.length = 0)
    else if k = 3 then wi 1 1000000 r && edM y s else false) := rfl
  unfold MsD.fs
  simp only at hr hm hi ⊢
  have hB : Below w.heap.size w (w.alloc (.cells #[.int .i64 k, .int .i64 b, .int .i64 c, .int .i64 s, .int .i64 r, .int .i64 y, v] 34)) := (Below.refl _ w).alloc (Nat.le_refl _) _
  have hx : MB _ _ ⟨k, b, c, s, r, y, d⟩ v := heap_alloc_new w (.cells #[.int .i64 k, .int .i64 b, .int .i64 c, .int .i64 s, .int .i64 r, .int .i64 y, v] 34)
  have hc := check_any v d _ (hr.below hB) hm hi
  obtain ⟨ao, cp, rfl, -⟩ := hr
  generalize mayM ⟨k, b, c, s, r, y, d⟩ = M at *
  generalize kiM ⟨k, b, c, s, r, y, d⟩ = K at *
  unfold maxLen at hm
  generalize hdl : d.length = n at *
  have HD : Hid (d.length = n) := hdl
  clear hdl hi
  go_enter Try.func15, Try.ntmps15
  go_wp2_with fail
  generalize w.alloc (.cells #[.int .i64 k, .int .i64 b, .int .i64 c, .int .i64 s, .int .i64 r, .int .i64 y, .slice ao n cp] 34) = w1 at *
  have hlt := heap_lt hx
  obtain ⟨c0, c1, c2, c3, c4, c5, c6⟩ := hx.cells
  simp only at c0 c1 c2 c3 c4 c5 c6
  refine (within_any _ _ _ _).mono ?_
  rintro e w2 ⟨rfl, rfl⟩
  cases hb1 : wi 1 1000000 b
  · have H1 : Hid (M = false) := by show _ = _; rw [H.out, hb1]; rfl
    clear H HK hb1
    go_wp2_with fail
    go_ret
    exact ⟨ret_b H1.out.symm, hB⟩
  have H1 : Hid (M = (wi 1 8 c && decide (chk d = 0) && K)) := by show _ = _; rw [H.out, hb1]; simp
  clear H hb1
  go_wp2_with fail
  refine (within_any _ _ _ _).mono ?_
  rintro e w2 ⟨rfl, rfl⟩
  cases hb1 : wi 1 8 c
  · have H2 : Hid (M = false) := by show _ = _; rw [H1.out, hb1]; rfl
    clear H1 HK hb1
    go_wp2_with fail
    go_ret
    exact ⟨ret_b H2.out.symm, hB⟩
  have H2 : Hid (M = (decide (chk d = 0) && K)) := by show _ = _; rw [H1.out, hb1]; simp
  clear H1 hb1
  go_wp2_with fail
  refine hc.mono ?_
  rintro e w3 ⟨rfl, hb3⟩
  by_cases hch : ¬ chk d = 0
  · have H3 : Hid (M = false) := by show _ = _; rw [H2.out, decide_eq_false hch]; rfl
    clear H2 HK
    have hB3 := hB.trans (hb3.mono hB.size)
    clear hx c0 c1 c2 c3 c4 c5 c6 hb3 hc hB
    generalize chk d = z at *
    go_wp2_with fail
    go_ret
    exact ⟨ret_b H3.out.symm, hB3⟩
  replace hch := Decidable.not_not.1 hch
  have H3 : Hid (M = K) := by show _ = _; rw [H2.out, decide_eq_true hch]; simp
  clear H2
  rw [hch]
  have hB3 := hB.trans (hb3.mono hB.size)
  have hx := hx.below hb3
  clear c0 c1 c2 c3 c4 c5 c6 hc hB hb3 hch
  obtain ⟨c0, c1, c2, c3, c4, c5, c6⟩ := hx.cells
  simp only at c0 c1 c2 c3 c4 c5 c6
  by_cases k1 : k = 1
  · subst k1
    have H4 : Hid (M = (wi 0 1000000 r && wi 1 100000 s && decide (y = 0))) := by show _ = _; rw [H3.out, HK.out, if_pos rfl]
    clear H3 HK
    go_wp2_with fail
    refine (within_any _ _ _ _).mono ?_
    rintro e w2 ⟨rfl, rfl⟩
    cases hb1 : wi 0 1000000 r
    · have H2 : Hid (M = false) := by show _ = _; rw [H4.out, hb1]; rfl
      clear H4 hb1
      go_wp2_with fail
      go_ret
      exact ⟨ret_b H2.out.symm, hB3⟩
    have H5 : Hid (M = (wi 1 100000 s && decide (y = 0))) := by show _ = _; rw [H4.out, hb1]; simp
    clear H4 hb1
    go_wp2_with fail
    refine (within_any _ _ _ _).mono ?_
    rintro e w2 ⟨rfl, rfl⟩
    cases hb1 : wi 1 100000 s
    · have H2 : Hid (M = false) := by show _ = _; rw [H5.out, hb1]; rfl
      clear H5 hb1
      go_wp2_with fail
      go_ret
      exact ⟨ret_b H2.out.symm, hB3⟩
    have H6 : Hid (M = decide (y = 0)) := by show _ = _; rw [H5.out, hb1]; simp
    clear H5 hb1
    go_wp2_with fail
    go_ret
    exact ⟨ret_b (by rw [H6.out]; rfl), hB3⟩
  by_cases k2 : k = 2
  · subst k2
    have H4 : Hid (M = (wi 0 1000000 r && decide (s = 0) && decide (y = 0) && decide (n = 0))) := by show _ = _; rw [H3.out, HK.out, if_neg (by decide), if_pos rfl]
    clear H3 HK k1
    go_wp2_with fail
    refine (within_any _ _ _ _).mono ?_
    rintro e w2 ⟨rfl, rfl⟩
    cases hb1 : wi 0 1000000 r
    · have H2 : Hid (M = false) := by show _ = _; rw [H4.out, hb1]; rfl
      clear H4 hb1
      go_wp2_with fail
      go_ret
      exact ⟨ret_b H2.out.symm, hB3⟩
    have H5 : Hid (M = (decide (s = 0) && decide (y = 0) && decide (n = 0))) := by show _ = _; rw [H4.out, hb1]; simp
    clear H4 hb1
    by_cases s0 : ¬ s = 0
    · have H2 : Hid (M = false) := by show _ = _; rw [H5.out, decide_eq_false s0]; rfl
      clear H5
      go_wp2_with fail
      go_ret
      exact ⟨ret_b H2.out.symm, hB3⟩
    replace s0 := Decidable.not_not.1 s0
    subst s0
    by_cases y0 : ¬ y = 0
    · have H2 : Hid (M = false) := by show _ = _; rw [H5.out, decide_eq_false y0]; rfl
      clear H5
      go_wp2_with fail
      go_ret
      exact ⟨ret_b H2.out.symm, hB3⟩
    replace y0 := Decidable.not_not.1 y0
    subst y0
    have H6 : Hid (M = decide (n = 0)) := by show _ = _; rw [H5.out]; simp
    clear H5
    go_wp2_with fail
    go_ret
    exact ⟨ret_b (by rw [H6.out]; first | rfl | (by_cases h : n = 0 <;> simp [h])), hB3⟩
  by_cases k3 : k = 3
  · subst k3
    have H4 : Hid (M = (wi 1 1000000 r && edM y s)) := by show _ = _; rw [H3.out, HK.out, if_neg (by decide), if_neg (by decide), if_pos rfl]
    clear H3 HK k1 k2
    go_wp2_with fail
    refine (within_any _ _ _ _).mono ?_
    rintro e w2 ⟨rfl, rfl⟩
    cases hb1 : wi 1 1000000 r
    · have H2 : Hid (M = false) := by show _ = _; rw [H4.out, hb1]; rfl
      clear H4 hb1
      go_wp2_with fail
      go_ret
      exact ⟨ret_b H2.out.symm, hB3⟩
    have H5 : Hid (M = edM y s) := by show _ = _; rw [H4.out, hb1]; simp
    clear H4 hb1
    go_wp2_with fail
    refine (mayBeEdit_any _ _ _).mono ?_
    rintro e w2 ⟨rfl, rfl⟩
    go_wp2_with fail
    go_ret
    exact ⟨ret_b H5.out.symm, hB3⟩
  have H4 : Hid (M = false) := by show _ = _; rw [H3.out, HK.out, if_neg k1, if_neg k2, if_neg k3]
  clear H3 HK
  go_wp2_with fail
  go_ret
  exact ⟨ret_b H4.out.symm, hB3⟩
end Go.Proofs.Ytaopfdgebibpeaa
