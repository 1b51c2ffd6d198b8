/-
  record: the rows of a state; row[T].
-/
import Derived.Test.YtdheddgdlindmaaRcE
namespace Go.Proofs.Ytdheddgdlindmaa
open Go.WideShapes Go.RowKit Go.ChangeShapes Go.ChangeAt Go.PlainAid

/-- Rising from a on up to last, each right. -/
def rwG {α : Type} (num : α → Int) (right : α → Bool) (last : Int) : Int → List α → Bool
  | _, [] => true
  | a, x :: r => if num x ≤ a ∨ last < num x ∨ right x = false then false else rwG num right last (num x) r
theorem rwG_step {α : Type} {num : α → Int} {right : α → Bool} {last a : Int} {l : List α} {k : Nat} (h : k < l.length) (h1 : ¬ num l[k] ≤ a) (h2 : ¬ last < num l[k]) (h3 : right l[k] = true) : rwG num right last a (l.drop k) = rwG num right last (num l[k]) (l.drop (k + 1)) := by
  rw [List.drop_eq_getElem_cons h, rwG, if_neg (by simp [h1, h2, h3])]
theorem rwG_bad {α : Type} {num : α → Int} {right : α → Bool} {last a : Int} {l : List α} {k : Nat} (h : k < l.length) (hb : num l[k] ≤ a ∨ last < num l[k] ∨ right l[k] = false) : rwG num right last a (l.drop k) = false := by
  rw [List.drop_eq_getElem_cons h, rwG, if_pos hb]
/-- What row tells. -/
def rwB {α : Type} (num : α → Int) (right : α → Bool) (most : Nat) (last : Int) (l : List α) : Bool := decide (l.length ≤ most) && rwG num right last 0 l
structure BrD.Fit (x : BrD) : Prop where
  nm : x.nm.size ≤ 140737488355328
  lg : x.lg.length ≤ 9223372036854775000
structure CoD.Fit (x : CoD) : Prop where
  ps : x.ps.length ≤ 9223372036854775000
  dl : x.d.length ≤ maxLen
  di : ∀ o ∈ x.d, o.In
  ol : x.o.length ≤ maxLen
  oi : ∀ o ∈ x.o, o.In
def CuD.Fit (_ : CuD) : Prop := True
/-- A row of them. -/
def RdCu (W : World) (v : Value) (l : List CuD) : Prop :=
  ∃ ao cp, v = .slice ao l.length cp ∧ ∀ (i : Nat) (x : CuD), l[i]? = some x → ∃ b off, ao = some ⟨b, off, none⟩ ∧ b < W.heap.size ∧ (W.cell? ⟨b, off + i * 3, none⟩ = some (.int .i64 x.c) ∧ W.cell? ⟨b, off + i * 3 + 1, none⟩ = some (.int .i64 x.b) ∧ W.cell? ⟨b, off + i * 3 + 2, none⟩ = some (.int .i64 x.s))
theorem RdCu.below {W W' : World} {v : Value} {l : List CuD} (h : RdCu W v l) (hb : Below W.heap.size W W') : RdCu W' v l := by
  obtain ⟨ao, cp, e, h1⟩ := h
  refine ⟨ao, cp, e, fun i x hi => ?_⟩
  obtain ⟨b, off, e1, hl, ⟨c0, c1, c2⟩⟩ := h1 i x hi
  exact ⟨b, off, e1, Nat.lt_of_lt_of_le hl hb.size, ⟨(hb.cell (p := ⟨b, off + i * 3, none⟩) hl).trans c0, (hb.cell (p := ⟨b, off + i * 3 + 1, none⟩) hl).trans c1, (hb.cell (p := ⟨b, off + i * 3 + 2, none⟩) hl).trans c2⟩⟩
theorem RdCu.nil (W : World) : RdCu W (.slice none 0 0) [] := ⟨none, 0, rfl, fun i o h => by simp at h⟩
set_option maxHeartbeats 400000 in
theorem clientOfR_any (x : CuD)  (w : World) : Calls Try.prog 45 #[.agg #[.int .i64 x.c, .int .i64 x.b, .int .i64 x.s]] w fun e w' => e = .returned (.int .i64 x.c) ∧ Below w.heap.size w w' := by
  have hal := alloc_bR w (.cells #[.int .i64 x.c, .int .i64 x.b, .int .i64 x.s] 61)
  have x0 : (w.alloc (.cells #[.int .i64 x.c, .int .i64 x.b, .int .i64 x.s] 61)).cell? ⟨w.heap.size, 0, none⟩ = some (.int .i64 x.c) := cell_of_row _ _ 0 _ _ (0, 0) (heap_alloc_new w _)
  generalize hw1 : w.alloc (.cells #[.int .i64 x.c, .int .i64 x.b, .int .i64 x.s] 61) = w1 at *
  go_enter Try.func45, Try.ntmps45
  go_wp2_with fail
  go_ret
  exact ⟨rfl, hal⟩
set_option maxRecDepth 20000 in
set_option maxHeartbeats 2000000 in
theorem rowCu_any (v : Value) (l : List CuD) (most : Nat) (last : Int) (w : World) (hr : RdCu w v l)  (hm : most ≤ 1000) :
    Calls Try.prog 44 #[v, .int .i64 (most : Int), .int .i64 last, .func (.func 45) #[] #[], .func (.func 46) #[] #[]] w fun e w' => e = .returned (.bool (rwB CuD.c cuF most last l)) ∧ Below w.heap.size w w' := by
  obtain ⟨ao, cp, rfl, hcs⟩ := hr
  obtain ⟨R, HR⟩ : ∃ R, Hid (rwB CuD.c cuF most last l = R) := ⟨_, rfl⟩
  rw [HR.out]
  by_cases hbig : (l.length : Int) > (most : Int)
  · have e : R = false := by rw [← HR.out, rwB, decide_eq_false (by omega)]; rfl
    subst e
    clear HR hcs
    go_enter Try.func44, Try.ntmps44
    go_wp2_with fail
    go_ret
    exact ⟨rfl, Below.refl _ _⟩
  · have HR2 : Hid (rwG CuD.c cuF last 0 l = R) := by show _ = _; rw [← HR.out, rwB, decide_eq_true (by omega), Bool.true_and]
    clear HR
    go_enter Try.func44, Try.ntmps44
    go_wp2_with fail
    go_loopw [11, 21] (fun ah i wr => ∃ (k : Nat) (a : Int), k ≤ l.length ∧ i = .int .i64 (k : Int) ∧ ah = .int .i64 a ∧ Hid (rwG CuD.c cuF last a (l.drop k) = R) ∧ Below w.heap.size w wr) (fun _ i _ => l.length - (Go.RowKit.intOf i).toNat)
    case atStart => exact ⟨0, 0, by omega, rfl, rfl, HR2, Below.refl _ _⟩
    case round =>
      clear HR2
      obtain ⟨k, a, hk, rfl, rfl, HA, hbl⟩ := hrel
      by_cases hlt : k < l.length
      · have hlt' : (k : Int) < (l.length : Int) := by omega
        obtain ⟨b, off, rfl, hl, ⟨c0, c1, c2⟩⟩ := hcs k l[k] (by simp [hlt])
        have Hst := fun h1 h2 h3 => (rwG_step (num := CuD.c) (right := cuF) (last := last) (a := a) hlt h1 h2 h3).symm.trans HA.out
        have Hbd := fun h => (rwG_bad (num := CuD.c) (right := cuF) (last := last) (a := a) hlt h).symm.trans HA.out
        have cF := fun W (_ : Below w.heap.size w W) => clientHF_any l[k] W
        have cb := fun (p : Addr) (hp : p.block < w.heap.size) => hbl.cell (p := p) hp
        rw [← cb ⟨b, _, none⟩ hl] at c0 c1 c2
        generalize l[k] = x at *
        have cN := fun W => clientOfR_any x  W
        have hal := alloc_bR wr (.cells #[.int .i64 x.c, .int .i64 x.b, .int .i64 x.s] 61)
        have hx := heap_alloc_new wr (.cells #[.int .i64 x.c, .int .i64 x.b, .int .i64 x.s] 61)
        have hcell : ∀ W', Below (wr.alloc (.cells #[.int .i64 x.c, .int .i64 x.b, .int .i64 x.s] 61)).heap.size (wr.alloc (.cells #[.int .i64 x.c, .int .i64 x.b, .int .i64 x.s] 61)) W' → W'.cell? ⟨wr.heap.size, 0, none⟩ = some (.int .i64 x.c) ∧ W'.cell? ⟨wr.heap.size, 1, none⟩ = some (.int .i64 x.b) ∧ W'.cell? ⟨wr.heap.size, 2, none⟩ = some (.int .i64 x.s) := fun W' h => by
          have q := fun j => cell_of_row W' wr.heap.size j _ _ (0, 0) ((h.block _ (heap_lt hx)).trans hx)
          exact ⟨q 0, q 1, q 2⟩
        have hBa := hbl.trans (hal.mono hbl.size)
        clear cb hx HA 
        go_wp2_with fail
        refine (cN _).mono ?_
        rintro e w3 ⟨rfl, hb3⟩
        obtain ⟨y0, y1, y2⟩ := hcell w3 hb3
        have hB3 := hBa.trans (hb3.mono hBa.size)
        clear cN c0 c1 c2 hcell
        by_cases g1 : x.c ≤ a
        · have e := Hbd (.inl g1)
          subst e
          clear Hst Hbd cF
          go_wp2_with fail
          go_ret
          exact ⟨rfl, hB3⟩
        · by_cases g2 : x.c > last
          · have e := Hbd (.inr (.inl g2))
            subst e
            clear Hst Hbd cF
            go_wp2_with fail
            go_ret
            exact ⟨rfl, hB3⟩
          · go_wp2_with fail
            refine (cF w3 hB3).mono ?_
            rintro e w4 ⟨rfl, hb4⟩
            have hB4 := hB3.trans (hb4.mono hB3.size)
            clear cF y0 y1 y2
            cases g3 : cuF x with
            | false =>
              have e := Hbd (.inr (.inr g3))
              subst e
              clear Hst Hbd
              go_wp2_with fail
              go_ret
              exact ⟨rfl, hB4⟩
            | true =>
              have H2 := Hst g1 g2 g3
              clear Hst Hbd
              go_wp2_with fail
              exact ⟨⟨k + 1, _, by omega, by go_num, rfl, H2, hB4⟩, by simp [Go.RowKit.intOf]; omega⟩
      · have hlt' : ¬ (k : Int) < (l.length : Int) := by omega
        have e : R = true := by rw [← HA.out, List.drop_of_length_le (by omega), rwG]
        subst e
        clear hcs HA
        go_wp2_with fail
        go_ret
        exact ⟨rfl, hbl⟩
/-- A row of them. -/
def RdBr (W : World) (v : Value) (l : List BrD) : Prop :=
  ∃ ao cp, v = .slice ao l.length cp ∧ ∀ (i : Nat) (x : BrD), l[i]? = some x → ∃ b off lv, ao = some ⟨b, off, none⟩ ∧ b < W.heap.size ∧ (W.cell? ⟨b, off + i * 3, none⟩ = some (.int .i64 x.i) ∧ W.cell? ⟨b, off + i * 3 + 1, none⟩ = some (.string x.nm) ∧ W.cell? ⟨b, off + i * 3 + 2, none⟩ = some (lv)) ∧ RdI W lv x.lg
theorem RdBr.below {W W' : World} {v : Value} {l : List BrD} (h : RdBr W v l) (hb : Below W.heap.size W W') : RdBr W' v l := by
  obtain ⟨ao, cp, e, h1⟩ := h
  refine ⟨ao, cp, e, fun i x hi => ?_⟩
  obtain ⟨b, off, lv, e1, hl, ⟨c0, c1, c2⟩, s0⟩ := h1 i x hi
  exact ⟨b, off, lv, e1, Nat.lt_of_lt_of_le hl hb.size, ⟨(hb.cell (p := ⟨b, off + i * 3, none⟩) hl).trans c0, (hb.cell (p := ⟨b, off + i * 3 + 1, none⟩) hl).trans c1, (hb.cell (p := ⟨b, off + i * 3 + 2, none⟩) hl).trans c2⟩, s0.below hb⟩
theorem RdBr.nil (W : World) : RdBr W (.slice none 0 0) [] := ⟨none, 0, rfl, fun i o h => by simp at h⟩
set_option maxHeartbeats 400000 in
theorem idOfR_any (x : BrD) (lv : Value) (w : World) : Calls Try.prog 42 #[.agg #[.int .i64 x.i, .string x.nm, lv]] w fun e w' => e = .returned (.int .i64 x.i) ∧ Below w.heap.size w w' := by
  have hal := alloc_bR w (.cells #[.int .i64 x.i, .string x.nm, lv] 50)
  have x0 : (w.alloc (.cells #[.int .i64 x.i, .string x.nm, lv] 50)).cell? ⟨w.heap.size, 0, none⟩ = some (.int .i64 x.i) := cell_of_row _ _ 0 _ _ (0, 0) (heap_alloc_new w _)
  generalize hw1 : w.alloc (.cells #[.int .i64 x.i, .string x.nm, lv] 50) = w1 at *
  go_enter Try.func42, Try.ntmps42
  go_wp2_with fail
  go_ret
  exact ⟨rfl, hal⟩
set_option maxRecDepth 20000 in
set_option maxHeartbeats 2000000 in
theorem rowBr_any (v : Value) (l : List BrD) (most : Nat) (last : Int) (w : World) (hr : RdBr w v l) (hF : ∀ x ∈ l, x.Fit) (hm : most ≤ 1000) :
    Calls Try.prog 41 #[v, .int .i64 (most : Int), .int .i64 last, .func (.func 42) #[] #[], .func (.func 43) #[] #[]] w fun e w' => e = .returned (.bool (rwB BrD.i brF most last l)) ∧ Below w.heap.size w w' := by
  obtain ⟨ao, cp, rfl, hcs⟩ := hr
  obtain ⟨R, HR⟩ : ∃ R, Hid (rwB BrD.i brF most last l = R) := ⟨_, rfl⟩
  rw [HR.out]
  by_cases hbig : (l.length : Int) > (most : Int)
  · have e : R = false := by rw [← HR.out, rwB, decide_eq_false (by omega)]; rfl
    subst e
    clear HR hcs
    go_enter Try.func41, Try.ntmps41
    go_wp2_with fail
    go_ret
    exact ⟨rfl, Below.refl _ _⟩
  · have HR2 : Hid (rwG BrD.i brF last 0 l = R) := by show _ = _; rw [← HR.out, rwB, decide_eq_true (by omega), Bool.true_and]
    clear HR
    go_enter Try.func41, Try.ntmps41
    go_wp2_with fail
    go_loopw [11, 21] (fun ah i wr => ∃ (k : Nat) (a : Int), k ≤ l.length ∧ i = .int .i64 (k : Int) ∧ ah = .int .i64 a ∧ Hid (rwG BrD.i brF last a (l.drop k) = R) ∧ Below w.heap.size w wr) (fun _ i _ => l.length - (Go.RowKit.intOf i).toNat)
    case atStart => exact ⟨0, 0, by omega, rfl, rfl, HR2, Below.refl _ _⟩
    case round =>
      clear HR2
      obtain ⟨k, a, hk, rfl, rfl, HA, hbl⟩ := hrel
      by_cases hlt : k < l.length
      · have hlt' : (k : Int) < (l.length : Int) := by omega
        obtain ⟨b, off, lv, rfl, hl, ⟨c0, c1, c2⟩, s0⟩ := hcs k l[k] (by simp [hlt])
        have hft := hF _ (List.getElem_mem hlt)
        have Hst := fun h1 h2 h3 => (rwG_step (num := BrD.i) (right := brF) (last := last) (a := a) hlt h1 h2 h3).symm.trans HA.out
        have Hbd := fun h => (rwG_bad (num := BrD.i) (right := brF) (last := last) (a := a) hlt h).symm.trans HA.out
        have cF := fun W (h : Below w.heap.size w W) => branchHF_any l[k] lv W (s0.below h) hft.nm hft.lg
        have cb := fun (p : Addr) (hp : p.block < w.heap.size) => hbl.cell (p := p) hp
        rw [← cb ⟨b, _, none⟩ hl] at c0 c1 c2
        generalize l[k] = x at *
        obtain ⟨a2, k2, rfl⟩ := rdi_len s0
        have cN := fun W => idOfR_any x (.slice a2 x.lg.length k2) W
        have hal := alloc_bR wr (.cells #[.int .i64 x.i, .string x.nm, .slice a2 x.lg.length k2] 50)
        have hx := heap_alloc_new wr (.cells #[.int .i64 x.i, .string x.nm, .slice a2 x.lg.length k2] 50)
        have hcell : ∀ W', Below (wr.alloc (.cells #[.int .i64 x.i, .string x.nm, .slice a2 x.lg.length k2] 50)).heap.size (wr.alloc (.cells #[.int .i64 x.i, .string x.nm, .slice a2 x.lg.length k2] 50)) W' → W'.cell? ⟨wr.heap.size, 0, none⟩ = some (.int .i64 x.i) ∧ W'.cell? ⟨wr.heap.size, 1, none⟩ = some (.string x.nm) ∧ W'.cell? ⟨wr.heap.size, 2, none⟩ = some (.slice a2 x.lg.length k2) := fun W' h => by
          have q := fun j => cell_of_row W' wr.heap.size j _ _ (0, 0) ((h.block _ (heap_lt hx)).trans hx)
          exact ⟨q 0, q 1, q 2⟩
        have hBa := hbl.trans (hal.mono hbl.size)
        clear cb hx HA s0
        go_wp2_with fail
        refine (cN _).mono ?_
        rintro e w3 ⟨rfl, hb3⟩
        obtain ⟨y0, y1, y2⟩ := hcell w3 hb3
        have hB3 := hBa.trans (hb3.mono hBa.size)
        clear cN c0 c1 c2 hcell
        by_cases g1 : x.i ≤ a
        · have e := Hbd (.inl g1)
          subst e
          clear Hst Hbd cF
          go_wp2_with fail
          go_ret
          exact ⟨rfl, hB3⟩
        · by_cases g2 : x.i > last
          · have e := Hbd (.inr (.inl g2))
            subst e
            clear Hst Hbd cF
            go_wp2_with fail
            go_ret
            exact ⟨rfl, hB3⟩
          · go_wp2_with fail
            refine (cF w3 hB3).mono ?_
            rintro e w4 ⟨rfl, hb4⟩
            have hB4 := hB3.trans (hb4.mono hB3.size)
            clear cF y0 y1 y2
            cases g3 : brF x with
            | false =>
              have e := Hbd (.inr (.inr g3))
              subst e
              clear Hst Hbd
              go_wp2_with fail
              go_ret
              exact ⟨rfl, hB4⟩
            | true =>
              have H2 := Hst g1 g2 g3
              clear Hst Hbd
              go_wp2_with fail
              exact ⟨⟨k + 1, _, by omega, by go_num, rfl, H2, hB4⟩, by simp [Go.RowKit.intOf]; omega⟩
      · have hlt' : ¬ (k : Int) < (l.length : Int) := by omega
        have e : R = true := by rw [← HA.out, List.drop_of_length_le (by omega), rwG]
        subst e
        clear hcs HA
        go_wp2_with fail
        go_ret
        exact ⟨rfl, hbl⟩
/-- A row of them. -/
def RdCo (W : World) (v : Value) (l : List CoD) : Prop :=
  ∃ ao cp, v = .slice ao l.length cp ∧ ∀ (i : Nat) (x : CoD), l[i]? = some x → ∃ b off pv dv ov, ao = some ⟨b, off, none⟩ ∧ b < W.heap.size ∧ (W.cell? ⟨b, off + i * 6, none⟩ = some (.int .i64 x.n) ∧ W.cell? ⟨b, off + i * 6 + 1, none⟩ = some (pv) ∧ W.cell? ⟨b, off + i * 6 + 2, none⟩ = some (dv) ∧ W.cell? ⟨b, off + i * 6 + 3, none⟩ = some (ov) ∧ W.cell? ⟨b, off + i * 6 + 4, none⟩ = some (.int .i64 x.c) ∧ W.cell? ⟨b, off + i * 6 + 5, none⟩ = some (.int .i64 x.s)) ∧ RdI W pv x.ps ∧ RdD W dv x.d ∧ RdD W ov x.o
theorem RdCo.below {W W' : World} {v : Value} {l : List CoD} (h : RdCo W v l) (hb : Below W.heap.size W W') : RdCo W' v l := by
  obtain ⟨ao, cp, e, h1⟩ := h
  refine ⟨ao, cp, e, fun i x hi => ?_⟩
  obtain ⟨b, off, pv, dv, ov, e1, hl, ⟨c0, c1, c2, c3, c4, c5⟩, s0, s1, s2⟩ := h1 i x hi
  exact ⟨b, off, pv, dv, ov, e1, Nat.lt_of_lt_of_le hl hb.size, ⟨(hb.cell (p := ⟨b, off + i * 6, none⟩) hl).trans c0, (hb.cell (p := ⟨b, off + i * 6 + 1, none⟩) hl).trans c1, (hb.cell (p := ⟨b, off + i * 6 + 2, none⟩) hl).trans c2, (hb.cell (p := ⟨b, off + i * 6 + 3, none⟩) hl).trans c3, (hb.cell (p := ⟨b, off + i * 6 + 4, none⟩) hl).trans c4, (hb.cell (p := ⟨b, off + i * 6 + 5, none⟩) hl).trans c5⟩, s0.below hb, s1.below hb, s2.below hb⟩
theorem RdCo.nil (W : World) : RdCo W (.slice none 0 0) [] := ⟨none, 0, rfl, fun i o h => by simp at h⟩
set_option maxHeartbeats 400000 in
theorem numOfR_any (x : CoD) (pv dv ov : Value) (w : World) : Calls Try.prog 39 #[.agg #[.int .i64 x.n, pv, dv, ov, .int .i64 x.c, .int .i64 x.s]] w fun e w' => e = .returned (.int .i64 x.n) ∧ Below w.heap.size w w' := by
  have hal := alloc_bR w (.cells #[.int .i64 x.n, pv, dv, ov, .int .i64 x.c, .int .i64 x.s] 48)
  have x0 : (w.alloc (.cells #[.int .i64 x.n, pv, dv, ov, .int .i64 x.c, .int .i64 x.s] 48)).cell? ⟨w.heap.size, 0, none⟩ = some (.int .i64 x.n) := cell_of_row _ _ 0 _ _ (0, 0) (heap_alloc_new w _)
  generalize hw1 : w.alloc (.cells #[.int .i64 x.n, pv, dv, ov, .int .i64 x.c, .int .i64 x.s] 48) = w1 at *
  go_enter Try.func39, Try.ntmps39
  go_wp2_with fail
  go_ret
  exact ⟨rfl, hal⟩
set_option maxRecDepth 20000 in
set_option maxHeartbeats 2000000 in
theorem rowCo_any (v : Value) (l : List CoD) (most : Nat) (last : Int) (w : World) (hr : RdCo w v l) (hF : ∀ x ∈ l, x.Fit) (hm : most ≤ 1000) :
    Calls Try.prog 38 #[v, .int .i64 (most : Int), .int .i64 last, .func (.func 39) #[] #[], .func (.func 40) #[] #[]] w fun e w' => e = .returned (.bool (rwB CoD.n coF most last l)) ∧ Below w.heap.size w w' := by
  obtain ⟨ao, cp, rfl, hcs⟩ := hr
  obtain ⟨R, HR⟩ : ∃ R, Hid (rwB CoD.n coF most last l = R) := ⟨_, rfl⟩
  rw [HR.out]
  by_cases hbig : (l.length : Int) > (most : Int)
  · have e : R = false := by rw [← HR.out, rwB, decide_eq_false (by omega)]; rfl
    subst e
    clear HR hcs
    go_enter Try.func38, Try.ntmps38
    go_wp2_with fail
    go_ret
    exact ⟨rfl, Below.refl _ _⟩
  · have HR2 : Hid (rwG CoD.n coF last 0 l = R) := by show _ = _; rw [← HR.out, rwB, decide_eq_true (by omega), Bool.true_and]
    clear HR
    go_enter Try.func38, Try.ntmps38
    go_wp2_with fail
    go_loopw [11, 21] (fun ah i wr => ∃ (k : Nat) (a : Int), k ≤ l.length ∧ i = .int .i64 (k : Int) ∧ ah = .int .i64 a ∧ Hid (rwG CoD.n coF last a (l.drop k) = R) ∧ Below w.heap.size w wr) (fun _ i _ => l.length - (Go.RowKit.intOf i).toNat)
    case atStart => exact ⟨0, 0, by omega, rfl, rfl, HR2, Below.refl _ _⟩
    case round =>
      clear HR2
      obtain ⟨k, a, hk, rfl, rfl, HA, hbl⟩ := hrel
      by_cases hlt : k < l.length
      · have hlt' : (k : Int) < (l.length : Int) := by omega
        obtain ⟨b, off, pv, dv, ov, rfl, hl, ⟨c0, c1, c2, c3, c4, c5⟩, s0, s1, s2⟩ := hcs k l[k] (by simp [hlt])
        have hft := hF _ (List.getElem_mem hlt)
        have Hst := fun h1 h2 h3 => (rwG_step (num := CoD.n) (right := coF) (last := last) (a := a) hlt h1 h2 h3).symm.trans HA.out
        have Hbd := fun h => (rwG_bad (num := CoD.n) (right := coF) (last := last) (a := a) hlt h).symm.trans HA.out
        have cF := fun W (h : Below w.heap.size w W) => commitHF_any l[k] pv dv ov W (s0.below h) (s1.below h) (s2.below h) hft.dl hft.di hft.ol hft.oi hft.ps
        have cb := fun (p : Addr) (hp : p.block < w.heap.size) => hbl.cell (p := p) hp
        rw [← cb ⟨b, _, none⟩ hl] at c0 c1 c2 c3 c4 c5
        generalize l[k] = x at *
        obtain ⟨a2, k2, rfl⟩ := rdi_len s0
        obtain ⟨a3, k3, e3, -⟩ := id s1
        subst e3
        obtain ⟨a4, k4, e4, -⟩ := id s2
        subst e4
        have cN := fun W => numOfR_any x (.slice a2 x.ps.length k2) (.slice a3 x.d.length k3) (.slice a4 x.o.length k4) W
        have hal := alloc_bR wr (.cells #[.int .i64 x.n, .slice a2 x.ps.length k2, .slice a3 x.d.length k3, .slice a4 x.o.length k4, .int .i64 x.c, .int .i64 x.s] 48)
        have hx := heap_alloc_new wr (.cells #[.int .i64 x.n, .slice a2 x.ps.length k2, .slice a3 x.d.length k3, .slice a4 x.o.length k4, .int .i64 x.c, .int .i64 x.s] 48)
        have hcell : ∀ W', Below (wr.alloc (.cells #[.int .i64 x.n, .slice a2 x.ps.length k2, .slice a3 x.d.length k3, .slice a4 x.o.length k4, .int .i64 x.c, .int .i64 x.s] 48)).heap.size (wr.alloc (.cells #[.int .i64 x.n, .slice a2 x.ps.length k2, .slice a3 x.d.length k3, .slice a4 x.o.length k4, .int .i64 x.c, .int .i64 x.s] 48)) W' → W'.cell? ⟨wr.heap.size, 0, none⟩ = some (.int .i64 x.n) ∧ W'.cell? ⟨wr.heap.size, 1, none⟩ = some (.slice a2 x.ps.length k2) ∧ W'.cell? ⟨wr.heap.size, 2, none⟩ = some (.slice a3 x.d.length k3) ∧ W'.cell? ⟨wr.heap.size, 3, none⟩ = some (.slice a4 x.o.length k4) ∧ W'.cell? ⟨wr.heap.size, 4, none⟩ = some (.int .i64 x.c) ∧ W'.cell? ⟨wr.heap.size, 5, none⟩ = some (.int .i64 x.s) := fun W' h => by
          have q := fun j => cell_of_row W' wr.heap.size j _ _ (0, 0) ((h.block _ (heap_lt hx)).trans hx)
          exact ⟨q 0, q 1, q 2, q 3, q 4, q 5⟩
        have hBa := hbl.trans (hal.mono hbl.size)
        clear cb hx HA s0 s1 s2
        go_wp2_with fail
        refine (cN _).mono ?_
        rintro e w3 ⟨rfl, hb3⟩
        obtain ⟨y0, y1, y2, y3, y4, y5⟩ := hcell w3 hb3
        have hB3 := hBa.trans (hb3.mono hBa.size)
        clear cN c0 c1 c2 c3 c4 c5 hcell
        by_cases g1 : x.n ≤ a
        · have e := Hbd (.inl g1)
          subst e
          clear Hst Hbd cF
          go_wp2_with fail
          go_ret
          exact ⟨rfl, hB3⟩
        · by_cases g2 : x.n > last
          · have e := Hbd (.inr (.inl g2))
            subst e
            clear Hst Hbd cF
            go_wp2_with fail
            go_ret
            exact ⟨rfl, hB3⟩
          · go_wp2_with fail
            refine (cF w3 hB3).mono ?_
            rintro e w4 ⟨rfl, hb4⟩
            have hB4 := hB3.trans (hb4.mono hB3.size)
            clear cF y0 y1 y2 y3 y4 y5
            cases g3 : coF x with
            | false =>
              have e := Hbd (.inr (.inr g3))
              subst e
              clear Hst Hbd
              go_wp2_with fail
              go_ret
              exact ⟨rfl, hB4⟩
            | true =>
              have H2 := Hst g1 g2 g3
              clear Hst Hbd
              go_wp2_with fail
              exact ⟨⟨k + 1, _, by omega, by go_num, rfl, H2, hB4⟩, by simp [Go.RowKit.intOf]; omega⟩
      · have hlt' : ¬ (k : Int) < (l.length : Int) := by omega
        have e : R = true := by rw [← HA.out, List.drop_of_length_le (by omega), rwG]
        subst e
        clear hcs HA
        go_wp2_with fail
        go_ret
        exact ⟨rfl, hbl⟩
end Go.Proofs.Ytdheddgdlindmaa
