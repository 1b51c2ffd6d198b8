/-
  The program's newMatch (written by tools/gen/genTrG.py).
-/
import Derived.Test.YtjimolafoihnpaaDoorTrF
import Derived.Test.YtjimolafoihnpaaDoorMono
import Derived.Deep.RegionLaw
import Derived.Deep.AppendLies
namespace Go.Proofs.YtjimolafoihnpaaDoor.tc
open Go.Maps Go.ChangeShapes Go.WideShapes Go.ChangeAt Go.RowKit Go.PlainAid

/-- A place: its document, where it stands there, its code point. -/
abbrev Pl := Nat × Nat × Int
def cP (x : Pl) : List Value := [.int .i64 (x.1 : Int), .int .i64 (x.2.1 : Int), .int .i64 x.2.2]
theorem cP_len (x : Pl) : (cP x).length = 3 := rfl
def cR (x : Int × Int) : List Value := [.int .i64 x.1, .int .i64 x.2]
theorem cR_len (x : Int × Int) : (cR x).length = 2 := rfl
/-- Where the names of a document stand. -/
def evR (i : Nat) (row : List (Nat × Int)) : List (Nat × Pl) := row.zipIdx.map fun y => (y.1.1, (i, y.2, y.1.2))
theorem evR_one (i : Nat) (row : List (Nat × Int)) (x : Nat × Int) : evR i (row ++ [x]) = evR i row ++ [(x.1, (i, row.length, x.2))] := by
  simp [evR, List.zipIdx_append]
def evD (D : List (List (Nat × Int))) : List (Nat × Pl) := (D.zipIdx.map fun y => if sndD y.1 then evR y.2 y.1 else []).flatten
theorem evD_one (D : List (List (Nat × Int))) (row : List (Nat × Int)) : evD (D ++ [row]) = evD D ++ (if sndD row then evR D.length row else []) := by
  simp [evD, List.zipIdx_append]
/-- The places of a name. -/
def rst (E : List (Nat × Pl)) (n : Nat) : List Pl := (E.filter fun e => e.1 == n).map Prod.snd
def tabR (E : List (Nat × Pl)) (m : Nat) : List (List Pl) := (List.range m).map (rst E)
theorem tabR_len (E : List (Nat × Pl)) (m : Nat) : (tabR E m).length = m := by simp [tabR]
theorem tabR_at {E : List (Nat × Pl)} {m n : Nat} (h : n < m) : (tabR E m)[n]? = some (rst E n) := by simp [tabR, h]
theorem tabR_one {E : List (Nat × Pl)} {m n : Nat} {p : Pl} : tabR (E ++ [(n, p)]) m = (tabR E m).set n (rst E n ++ [p]) := by
  apply List.ext_getElem?
  intro i
  by_cases hi : i < m
  · rw [tabR_at hi]
    by_cases he : n = i
    · subst he
      rw [List.getElem?_set_self (by rw [tabR_len]; exact hi)]
      simp [rst]
    · rw [List.getElem?_set_ne he, tabR_at hi]
      simp [rst, he]
  · rw [List.getElem?_eq_none (by rw [tabR_len]; omega), List.getElem?_eq_none (by rw [List.length_set, tabR_len]; omega)]
theorem rst_len (E : List (Nat × Pl)) (n : Nat) : (rst E n).length ≤ E.length := by
  rw [rst, List.length_map]
  exact List.length_filter_le _ _
/-- One element more in one row of a table: what there is behind the append and behind the store. -/
theorem Tbl.step {α : Type} {W W9 : World} {B : Nat} {e : TypeId} {z : Nat} {C : α → List Value} {t : TypeId} {p n cp : Nat} {R : List Value} {X : List (List α)} (h : Tbl W B e z C t (.slice (some ⟨p, 0, none⟩) n cp) R X) (hte : e ≠ t) {i : Nat} {r : Value} {xs : List α} {a : α} {g k : Nat} (hr : R[i]? = some r) (hx : X[i]? = some xs)
    (ho : W9.ownsRow B e z (.slice (some ⟨g, 0, none⟩) (xs.length + 1) k) (xs.length + 1) ((xs.map C).flatten ++ C a)) (hg : W.grownBy W9 r.ownBlock) (hl : r.ownBlock = some g ∨ g = W.heap.size) :
    W9.cell? ⟨p, i, none⟩ = some r ∧ W9.frozen? ⟨p, i, none⟩ = false ∧ Tbl (W9.setCell ⟨p, i, none⟩ (.slice (some ⟨g, 0, none⟩) (xs.length + 1) k)) B e z C t (.slice (some ⟨p, 0, none⟩) n cp) (R.set i (.slice (some ⟨g, 0, none⟩) (xs.length + 1) k)) (X.set i (xs ++ [a])) ∧
    (∀ s, e ≠ s → t ≠ s → Sm s W (W9.setCell ⟨p, i, none⟩ (.slice (some ⟨g, 0, none⟩) (xs.length + 1) k))) ∧ (∀ w0, B ≤ W.heap.size → Below B w0 W → Below B w0 (W9.setCell ⟨p, i, none⟩ (.slice (some ⟨g, 0, none⟩) (xs.length + 1) k))) := by
  have hro := h.row i r xs hr hx
  have t2 := own_sm h.top (Sm.own hro hg hte)
  obtain ⟨cu, hcu⟩ := own_kind t2 (g := p) rfl
  have c := t2.cells (g := p) rfl i _ hr
  rw [addr4, Nat.zero_add] at c
  exact ⟨c, frz hcu i, h.app hte hr hx rfl ho hg hl, fun s h1 h2 => (Sm.own hro hg h1).trans (Sm.set hcu h2 _ _), fun w0 hB hb => (hb.grown hg hB (fun k hk => (hro.lt k hk).1)).setCell (p := ⟨p, i, none⟩) (t2.lt p rfl).1 _⟩
theorem infoPl : (Tryd.prog.info? 121).map (fun i => (i.zero, i.size, i.bytes)) = some (some (.agg #[.int .i64 0, .int .i64 0, .int .i64 0]), 3, 24) := by kernel_rfl
theorem infoRe : (Tryd.prog.info? 123).map (fun i => (i.zero, i.size, i.bytes)) = some (some (.agg #[.int .i64 0, .int .i64 0]), 2, 16) := by kernel_rfl
theorem infoPr : (Tryd.prog.info? 119).map (fun i => (i.zero, i.size, i.bytes)) = some (some (.slice none 0 0), 1, 24) := by kernel_rfl
def phNm (B b nd nn cd cn : Nat) (ad an : Option Addr) (Z Y : Array Value) : Nat → Value → World → Prop
  | 0, v, _ => v = (.pointer (some ⟨b, 0, none⟩))
  | 1, v, _ => v = (.pointer (some ⟨b, 0, none⟩))
  | 2, v, _ => v = (.pointer (some ⟨b, 0, none⟩))
  | 3, v, _ => v = (.slice ad nd cd)
  | 4, v, _ => v = (.pointer (some ⟨b, 0, none⟩))
  | 5, v, _ => v = (.pointer (some ⟨b, 0, none⟩))
  | 6, v, _ => v = (.pointer (some ⟨b, 1, none⟩))
  | 7, v, _ => v = (.slice an nn cn)
  | 8, v, _ => v = (.int .i64 (nn : Int))
  | 9, v, W => ∃ g, v = .slice (some ⟨g, 0, none⟩) nn nn ∧ W.heap[g]? = some (.cells Z 119) ∧ B ≤ g
  | 10, v, _ => v = (.pointer (some ⟨b, 0, none⟩))
  | 11, v, _ => v = (.pointer (some ⟨b, 0, none⟩))
  | 12, v, _ => v = (.pointer (some ⟨b, 0, none⟩))
  | 13, v, _ => v = (.slice ad nd cd)
  | 14, v, _ => v = (.int .i64 (nd : Int))
  | 15, v, W => ∃ g, v = .slice (some ⟨g, 0, none⟩) nd nd ∧ W.heap[g]? = some (.cells Y 123) ∧ B ≤ g
  | 16, v, W => ∃ g1 g2, v = .agg #[.slice ad nd cd, .slice (some ⟨g1, 0, none⟩) nn nn, .slice (some ⟨g2, 0, none⟩) nd nd] ∧ W.heap[g1]? = some (.cells Z 119) ∧ W.heap[g2]? = some (.cells Y 123) ∧ B ≤ g1 ∧ B ≤ g2
  | 17, v, W => ∃ m g1 g2, v = .pointer (some ⟨m, 0, none⟩) ∧ W.heap[m]? = some (.cells #[.slice ad nd cd, .slice (some ⟨g1, 0, none⟩) nn nn, .slice (some ⟨g2, 0, none⟩) nd nd] 118) ∧ B ≤ m ∧ W.heap[g1]? = some (.cells Z 119) ∧ W.heap[g2]? = some (.cells Y 123) ∧ B ≤ g1 ∧ B ≤ g2
  | 18, v, W => ∃ m g1 g2, v = .pointer (some ⟨m, 0, none⟩) ∧ W.heap[m]? = some (.cells #[.slice ad nd cd, .slice (some ⟨g1, 0, none⟩) nn nn, .slice (some ⟨g2, 0, none⟩) nd nd] 118) ∧ B ≤ m ∧ W.heap[g1]? = some (.cells Z 119) ∧ W.heap[g2]? = some (.cells Y 123) ∧ B ≤ g1 ∧ B ≤ g2
  | _, _, _ => True
theorem phNm_stays {B b nd nn cd cn : Nat} {ad an : Option Addr} {Z Y : Array Value} (i : Nat) (v : Value) (w w' : World) (h : phNm B b nd nn cd cn ad an Z Y i v w) (hg : Below w.heap.size w w') : phNm B b nd nn cd cn ad an Z Y i v w' := by
  unfold phNm at h ⊢
  split at h
  all_goals first
    | exact h
    | (obtain ⟨g, e, h1, h2⟩ := h; exact ⟨g, e, (hg.block g (lt_heap h1)).trans h1, h2⟩)
    | (obtain ⟨g1, g2, e, h1, h2, h3⟩ := h; exact ⟨g1, g2, e, (hg.block _ (lt_heap h1)).trans h1, (hg.block _ (lt_heap h2)).trans h2, h3⟩)
    | (obtain ⟨m, g1, g2, e, h0, h4, h1, h2, h3⟩ := h; exact ⟨m, g1, g2, e, (hg.block _ (lt_heap h0)).trans h0, h4, (hg.block _ (lt_heap h1)).trans h1, (hg.block _ (lt_heap h2)).trans h2, h3⟩)
    | trivial
def phNr (m p nn ba x1 k e rn kr2 gs g9 cap9 : Nat) (x2 : Int) (ar2 : Option Addr) : Nat → Value → World → Prop
  | 0, v, _ => v = (.pointer (some ⟨m, 0, none⟩))
  | 1, v, _ => v = (.pointer (some ⟨m, 0, none⟩))
  | 2, v, _ => v = (.pointer (some ⟨m, 1, none⟩))
  | 3, v, _ => v = (.slice (some ⟨p, 0, none⟩) nn nn)
  | 4, v, _ => v = (.pointer (some ⟨ba, 0, none⟩))
  | 5, v, _ => v = (.int .i64 (x1 : Int))
  | 6, v, _ => v = (.pointer (some ⟨m, 0, none⟩))
  | 7, v, _ => v = (.pointer (some ⟨m, 0, none⟩))
  | 8, v, _ => v = (.pointer (some ⟨m, 1, none⟩))
  | 9, v, _ => v = (.slice (some ⟨p, 0, none⟩) nn nn)
  | 10, v, _ => v = (.pointer (some ⟨ba, 0, none⟩))
  | 11, v, _ => v = (.int .i64 (x1 : Int))
  | 12, v, _ => v = (.pointer (some ⟨p, x1, none⟩))
  | 13, v, _ => v = (.slice ar2 rn kr2)
  | 14, v, _ => v = (.int .i64 (k : Int))
  | 15, v, _ => v = (.int .i64 (e : Int))
  | 16, v, _ => v = (.pointer (some ⟨ba, 1, none⟩))
  | 17, v, _ => v = (.int .i64 x2)
  | 18, v, _ => v = (.agg #[.int .i64 (k : Int), .int .i64 (e : Int), .int .i64 x2])
  | 19, v, _ => v = (.slice (some ⟨gs, 0, none⟩) 1 1)
  | 20, v, _ => v = (.slice (some ⟨g9, 0, none⟩) (rn + 1) cap9)
  | 21, v, _ => v = (.pointer (some ⟨p, x1, none⟩))
  | 22, _, _ => True
  | _, _, _ => True
theorem phNr_stays {m p nn ba x1 k e rn kr2 gs g9 cap9 : Nat} {x2 : Int} {ar2 : Option Addr} (i : Nat) (v : Value) (w w' : World) (h : phNr m p nn ba x1 k e rn kr2 gs g9 cap9 x2 ar2 i v w) (_ : True) : phNr m p nn ba x1 k e rn kr2 gs g9 cap9 x2 ar2 i v w' := by
  unfold phNr at h ⊢
  split at h
  all_goals first
    | exact h
    | trivial
/-- What holds documents against each other. -/
structure Mt (W : World) (B m p q : Nat) (dv : Value) (D : List (List (Nat × Int))) (X : List (List Pl)) (La : List (Int × Int)) (R : List Value) : Prop where
  box : W.heap[m]? = some (.cells #[dv, .slice (some ⟨p, 0, none⟩) X.length X.length, .slice (some ⟨q, 0, none⟩) D.length D.length] 118)
  docs : Tb W 114 cA 112 dv D
  top : W.ownsRow B 119 1 (.slice (some ⟨p, 0, none⟩) X.length X.length) X.length R
  rows : ∀ (i : Nat) (r : Value) (xs : List Pl), R[i]? = some r → X[i]? = some xs → Ln W 121 r xs.length (xs.map cP).flatten
  last : W.ownsRow B 123 2 (.slice (some ⟨q, 0, none⟩) D.length D.length) D.length (La.map cR).flatten
  hm : B ≤ m
theorem Mt.len {W : World} {B m p q : Nat} {dv : Value} {D : List (List (Nat × Int))} {X : List (List Pl)} {La : List (Int × Int)} {R : List Value} (h : Mt W B m p q dv D X La R) : R.length = X.length ∧ La.length = D.length := by
  have h1 := h.top.1
  have h2 := h.last.1
  rw [flat_len cR 2 cR_len] at h2
  omega
theorem Mt.below {W W' : World} {B m p q : Nat} {dv : Value} {D : List (List (Nat × Int))} {X : List (List Pl)} {La : List (Int × Int)} {R : List Value} (h : Mt W B m p q dv D X La R) (hb : Below W.heap.size W W') : Mt W' B m p q dv D X La R :=
  ⟨(hb.block _ (lt_heap h.box)).trans h.box, h.docs.below hb, own_below h.top hb, fun i r xs h1 h2 => (h.rows i r xs h1 h2).below hb, own_below h.last hb, h.hm⟩
/-- Zeros, pair by pair. -/
theorem rep_two (n : Nat) : ((List.replicate n ()).map fun _ => (Value.agg #[.int .i64 0, .int .i64 0]).cells.toList).flatten = ((List.replicate n ((0, 0) : Int × Int)).map cR).flatten := by
  induction n with
  | zero => rfl
  | succ n ih => rw [List.replicate_succ, List.replicate_succ, List.map_cons, List.map_cons, List.flatten_cons, List.flatten_cons, ih]; rfl
theorem evD_app_le (a b : List (List (Nat × Int))) : (evD a).length ≤ (evD (a ++ b)).length := by
  simp only [evD, List.zipIdx_append, List.map_append, List.flatten_append, List.length_append]
  omega
theorem evD_le (D : List (List (Nat × Int))) (k : Nat) : (evD (D.take k)).length ≤ (evD D).length := by
  have h := evD_app_le (D.take k) (D.drop k)
  rwa [List.take_append_drop] at h
theorem evR_len (i : Nat) (row : List (Nat × Int)) : (evR i row).length = row.length := by simp [evR]
/-- It on its way. -/
structure Nw (W : World) (B m p q nn : Nat) (dv vs : Value) (D : List (List (Nat × Int))) (E : List (Nat × Pl)) (R : List Value) : Prop where
  box : W.heap[m]? = some (.cells #[dv, .slice (some ⟨p, 0, none⟩) nn nn, .slice (some ⟨q, 0, none⟩) D.length D.length] 118)
  docs : Tb W 114 cA 112 dv D
  tbl : Tbl W B 121 3 cP 119 (.slice (some ⟨p, 0, none⟩) nn nn) R (tabR E nn)
  last : W.ownsRow B 123 2 (.slice (some ⟨q, 0, none⟩) D.length D.length) D.length ((List.replicate D.length ((0, 0) : Int × Int)).map cR).flatten
  snd : Ln W 4 vs D.length (bvT (D.map sndD))
theorem Nw.below {W W' : World} {B m p q nn : Nat} {dv vs : Value} {D : List (List (Nat × Int))} {E : List (Nat × Pl)} {R : List Value} (h : Nw W B m p q nn dv vs D E R) (hb : Below W.heap.size W W') : Nw W' B m p q nn dv vs D E R :=
  ⟨(hb.block _ (lt_heap h.box)).trans h.box, h.docs.below hb, h.tbl.below hb, own_below h.last hb, h.snd.below hb⟩
theorem Nw.step {W W9 : World} {B m p q nn : Nat} {dv vs : Value} {D : List (List (Nat × Int))} {E : List (Nat × Pl)} {R : List Value} (h : Nw W B m p q nn dv vs D E R) {i : Nat} {r : Value} {a : Pl} {g k : Nat} (hr : R[i]? = some r) (hi : i < nn)
    (ho : W9.ownsRow B 121 3 (.slice (some ⟨g, 0, none⟩) ((rst E i).length + 1) k) ((rst E i).length + 1) (((rst E i).map cP).flatten ++ cP a)) (hg : W.grownBy W9 r.ownBlock) (hl : r.ownBlock = some g ∨ g = W.heap.size) :
    W9.cell? ⟨p, i, none⟩ = some r ∧ W9.frozen? ⟨p, i, none⟩ = false ∧ Nw (W9.setCell ⟨p, i, none⟩ (.slice (some ⟨g, 0, none⟩) ((rst E i).length + 1) k)) B m p q nn dv vs D (E ++ [(i, a)]) (R.set i (.slice (some ⟨g, 0, none⟩) ((rst E i).length + 1) k)) ∧
    (∀ s, 121 ≠ s → 119 ≠ s → Sm s W (W9.setCell ⟨p, i, none⟩ (.slice (some ⟨g, 0, none⟩) ((rst E i).length + 1) k))) ∧ (∀ w0, B ≤ W.heap.size → Below B w0 W → Below B w0 (W9.setCell ⟨p, i, none⟩ (.slice (some ⟨g, 0, none⟩) ((rst E i).length + 1) k))) := by
  obtain ⟨s1, s2, s3, s4, s5⟩ := h.tbl.step (a := a) (by decide) hr (tabR_at hi) ho hg hl
  rw [← tabR_one] at s3
  exact ⟨s1, s2, ⟨s4 _ (by decide) (by decide) _ _ h.box, h.docs.sm (s4 _ (by decide) (by decide)) (s4 _ (by decide) (by decide)), s3, own_sm h.last (s4 _ (by decide) (by decide)), h.snd.sm (s4 _ (by decide) (by decide))⟩, s4, s5⟩
theorem drew_alN (W : World) (o : Obj) : Below W.heap.size W (W.drew.alloc o) := (Below.refl _ W).drew.alloc (Nat.le_refl _) o
theorem cell_alN {W : World} {p : Addr} {v : Value} (h : W.cell? p = some v) (o : Obj) : (W.alloc o).cell? p = some v := ((alloc_b W o).cell (World.block_lt_of_cell? W p h)).trans h
/-- What is met behind the append, and behind the store. -/
theorem Nw.facts {W W9 : World} {B m p q nn : Nat} {dv vs : Value} {D : List (List (Nat × Int))} {E : List (Nat × Pl)} {R : List Value} (h : Nw W B m p q nn dv vs D E R) {i : Nat} {r : Value} {o : Obj} (hr : R[i]? = some r) (hi : i < nn) (hg : (W.drew.alloc o).grownBy W9 r.ownBlock) :
    W9.cell? ⟨m, 1, none⟩ = some (.slice (some ⟨p, 0, none⟩) nn nn) ∧ W9.cell? ⟨p, i, none⟩ = some r ∧ W9.frozen? ⟨p, i, none⟩ = false ∧ Sm 114 W W9 := by
  have h1 := Nw.below (W := W) h (drew_alN W o)
  have hro := h1.tbl.row i r _ hr (tabR_at hi)
  have t2 := own_sm h1.tbl.top (Sm.own hro hg (by decide))
  obtain ⟨cu, hcu⟩ := own_kind t2 (g := p) rfl
  have c := t2.cells (g := p) rfl i _ hr
  rw [addr4, Nat.zero_add] at c
  have hb := (Sm.own hro hg (show 121 ≠ 118 by decide)) _ _ h1.box
  exact ⟨cell_of_row W9 m 1 _ _ (0, 0) hb, c, frz hcu i, (Sm.below (drew_alN W o)).trans (Sm.own hro hg (by decide))⟩
theorem Nw.stepD {W W9 : World} {B m p q nn : Nat} {dv vs : Value} {D : List (List (Nat × Int))} {E : List (Nat × Pl)} {R : List Value} {o : Obj} (h : Nw W B m p q nn dv vs D E R) {i : Nat} {r : Value} {a : Pl} {g k : Nat} (hr : R[i]? = some r) (hi : i < nn)
    (ho : W9.ownsRow B 121 3 (.slice (some ⟨g, 0, none⟩) ((rst E i).length + 1) k) ((rst E i).length + 1) (((rst E i).map cP).flatten ++ cP a)) (hg : (W.drew.alloc o).grownBy W9 r.ownBlock) (hl : r.ownBlock = some g ∨ g = W.heap.size + 1) :
    Nw (W9.setCell ⟨p, i, none⟩ (.slice (some ⟨g, 0, none⟩) ((rst E i).length + 1) k)) B m p q nn dv vs D (E ++ [(i, a)]) (R.set i (.slice (some ⟨g, 0, none⟩) ((rst E i).length + 1) k)) ∧
    (∀ s, 121 ≠ s → 119 ≠ s → Sm s W (W9.setCell ⟨p, i, none⟩ (.slice (some ⟨g, 0, none⟩) ((rst E i).length + 1) k))) ∧ (∀ w0, B ≤ W.heap.size → Below B w0 W → Below B w0 (W9.setCell ⟨p, i, none⟩ (.slice (some ⟨g, 0, none⟩) ((rst E i).length + 1) k))) := by
  have hs : (W.drew.alloc o).heap.size = W.heap.size + 1 := by simp
  obtain ⟨-, -, s3, s4, s5⟩ := (Nw.below (W := W) h (drew_alN W o)).step hr hi ho hg (by rw [hs]; exact hl)
  exact ⟨s3, fun t h1 h2 => (Sm.below (drew_alN W o)).trans (s4 t h1 h2), fun w0 hB hb => s5 w0 (by omega) (hb.drew.alloc hB o)⟩
set_option maxRecDepth 20000 in
set_option maxHeartbeats 4000000 in
theorem newMatch_any (b : Nat) (D : List (List (Nat × Int))) (N : List AtK) (vs : Value) (w : World) (hr : BkR w b D N) (hs : Ln w 4 vs D.length (bvT (D.map sndD))) (hD : D.length ≤ 1048576) (hN : N.length ≤ 1048576) (hrow : ∀ r ∈ D, r.length ≤ 1048576 ∧ ∀ x ∈ r, x.1 < N.length) (hE : (evD D).length ≤ 1048576) :
    Calls Tryd.prog 26 #[.pointer (some ⟨b, 0, none⟩), vs] w fun e w' => ∃ m p q dv R, e = .returned (.pointer (some ⟨m, 0, none⟩)) ∧ Mt w' w.heap.size m p q dv D (tabR (evD D) N.length) (List.replicate D.length (0, 0)) R ∧ Below w.heap.size w w' := by
  obtain ⟨i1, hi1, hy0, hy1, hy2⟩ := info_parts infoPl
  obtain ⟨Z, Z1, Z2, hmk⟩ := make_any (t := 115) Tryd.underlying115 infoPr rfl (by decide) (by decide) N.length (by omega)
  obtain ⟨Y, Y1, Y2, hmk2⟩ := make_any (t := 116) Tryd.underlying116 infoRe rfl (by decide) (by decide) D.length (by omega)
  rw [rep_one _ _ rfl] at Z1
  rw [rep_two] at Y1
  obtain ⟨dv, nv, hbx, htb, hln⟩ := hr
  obtain ⟨ad, cd, rfl, hcd⟩ := htb.form
  obtain ⟨an, cn, rfl, hcn⟩ := hln.form
  obtain ⟨av, cv, rfl, hcv⟩ := hs.form
  have hwd : Below w.heap.size w w.drew := (Below.refl _ w).drew
  have hS1 := hbx.below hwd
  have hwB : w.heap.size ≤ w.drew.heap.size := hwd.size
  go_enter Tryd.func26, Tryd.ntmps26
  go_upto_region 1 with fail
  refine mono.region_monoG (phNm w.heap.size b D.length N.length cd cn ad an Z Y) 74 [] [0, 1, 2, 3, 4, 5, 6, 7, 8, 9, 10, 11, 12, 13, 14, 15, 16, 17, 18] (by kernel_rfl) rfl rfl (by kernel_rfl) [] (by kernel_rfl) (by simp) phNm_stays (.cons ?_ (.cons ?_ (.cons ?_ (.cons ?_ (.cons ?_ (.cons ?_ (.cons ?_ (.cons ?_ (.cons ?_ (.cons ?_ (.cons ?_ (.cons ?_ (.cons ?_ (.cons ?_ (.cons ?_ (.cons ?_ (.cons ?_ (.cons ?_ (.cons ?_ (.nil)))))))))))))))))))) ?_
  · refine mono.duty_of rfl ?_
    intro f W hR hO hD K hK
    have eL : mono.lit 74 f [] = ⟨#[f 0, f 1, f 2, f 3, f 4, f 5, f 6, f 7, f 8, f 9, f 10, f 11, f 12, f 13, f 14, f 15, f 16, f 17, f 18, f 19, f 20, f 21, f 22, f 23, f 24, f 25, f 26, f 27, f 28, f 29, f 30, f 31, f 32, f 33, f 34, f 35, f 36, f 37, f 38, f 39, f 40, f 41, f 42, f 43, f 44, f 45, f 46, f 47, f 48, f 49, f 50, f 51, f 52, f 53, f 54, f 55, f 56, f 57, f 58, f 59, f 60, f 61, f 62, f 63, f 64, f 65, f 66, f 67, f 68, f 69, f 70, f 71, f 72, f 73], []⟩ := rfl
    replace hK : ∀ v W', Below W.heap.size W W' → phNm w.heap.size b D.length N.length cd cn ad an Z Y 0 v W' → K ((mono.lit 74 f []).put (some 10) v) W' := hK
    rw [eL] at hK ⊢
    simp only [Act.put, List.setIfInBounds_toArray, List.set_cons_succ, List.set_cons_zero] at hK
    have o0 : f 0 = (.pointer (some ⟨b, 0, none⟩)) := hO 0 (by kernel_rfl)
    rw [o0] at hK ⊢
    go_simp
    exact hK _ _ (Below.refl _ _) rfl
  · refine mono.duty_of rfl ?_
    intro f W hR hO hD K hK
    have eL : mono.lit 74 f [] = ⟨#[f 0, f 1, f 2, f 3, f 4, f 5, f 6, f 7, f 8, f 9, f 10, f 11, f 12, f 13, f 14, f 15, f 16, f 17, f 18, f 19, f 20, f 21, f 22, f 23, f 24, f 25, f 26, f 27, f 28, f 29, f 30, f 31, f 32, f 33, f 34, f 35, f 36, f 37, f 38, f 39, f 40, f 41, f 42, f 43, f 44, f 45, f 46, f 47, f 48, f 49, f 50, f 51, f 52, f 53, f 54, f 55, f 56, f 57, f 58, f 59, f 60, f 61, f 62, f 63, f 64, f 65, f 66, f 67, f 68, f 69, f 70, f 71, f 72, f 73], []⟩ := rfl
    replace hK : ∀ v W', Below W.heap.size W W' → phNm w.heap.size b D.length N.length cd cn ad an Z Y 1 v W' → K ((mono.lit 74 f []).put (some 11) v) W' := hK
    rw [eL] at hK ⊢
    simp only [Act.put, List.setIfInBounds_toArray, List.set_cons_succ, List.set_cons_zero] at hK
    have q0 := hD 0 10 (by kernel_rfl) (by kernel_rfl)
    replace q0 : f 10 = (.pointer (some ⟨b, 0, none⟩)) := q0
    rw [q0] at hK ⊢
    go_simp
    exact hK _ _ (Below.refl _ _) rfl
  · refine mono.duty_of rfl ?_
    intro f W hR hO hD K hK
    have eL : mono.lit 74 f [] = ⟨#[f 0, f 1, f 2, f 3, f 4, f 5, f 6, f 7, f 8, f 9, f 10, f 11, f 12, f 13, f 14, f 15, f 16, f 17, f 18, f 19, f 20, f 21, f 22, f 23, f 24, f 25, f 26, f 27, f 28, f 29, f 30, f 31, f 32, f 33, f 34, f 35, f 36, f 37, f 38, f 39, f 40, f 41, f 42, f 43, f 44, f 45, f 46, f 47, f 48, f 49, f 50, f 51, f 52, f 53, f 54, f 55, f 56, f 57, f 58, f 59, f 60, f 61, f 62, f 63, f 64, f 65, f 66, f 67, f 68, f 69, f 70, f 71, f 72, f 73], []⟩ := rfl
    replace hK : ∀ v W', Below W.heap.size W W' → phNm w.heap.size b D.length N.length cd cn ad an Z Y 2 v W' → K ((mono.lit 74 f []).put (some 12) v) W' := hK
    rw [eL] at hK ⊢
    simp only [Act.put, List.setIfInBounds_toArray, List.set_cons_succ, List.set_cons_zero] at hK
    have q1 := hD 1 11 (by kernel_rfl) (by kernel_rfl)
    replace q1 : f 11 = (.pointer (some ⟨b, 0, none⟩)) := q1
    rw [q1] at hK ⊢
    go_simp
    exact hK _ _ (Below.refl _ _) rfl
  · refine mono.duty_of rfl ?_
    intro f W hR hO hD K hK
    have eL : mono.lit 74 f [] = ⟨#[f 0, f 1, f 2, f 3, f 4, f 5, f 6, f 7, f 8, f 9, f 10, f 11, f 12, f 13, f 14, f 15, f 16, f 17, f 18, f 19, f 20, f 21, f 22, f 23, f 24, f 25, f 26, f 27, f 28, f 29, f 30, f 31, f 32, f 33, f 34, f 35, f 36, f 37, f 38, f 39, f 40, f 41, f 42, f 43, f 44, f 45, f 46, f 47, f 48, f 49, f 50, f 51, f 52, f 53, f 54, f 55, f 56, f 57, f 58, f 59, f 60, f 61, f 62, f 63, f 64, f 65, f 66, f 67, f 68, f 69, f 70, f 71, f 72, f 73], []⟩ := rfl
    replace hK : ∀ v W', Below W.heap.size W W' → phNm w.heap.size b D.length N.length cd cn ad an Z Y 3 v W' → K ((mono.lit 74 f []).put (some 13) v) W' := hK
    rw [eL] at hK ⊢
    simp only [Act.put, List.setIfInBounds_toArray, List.set_cons_succ, List.set_cons_zero] at hK
    have q2 := hD 2 12 (by kernel_rfl) (by kernel_rfl)
    replace q2 : f 12 = (.pointer (some ⟨b, 0, none⟩)) := q2
    rw [q2] at hK ⊢
    obtain ⟨x0, x1, -, -⟩ := (hS1.below hR).cells
    go_simp
    exact hK _ _ (Below.refl _ _) rfl
  · refine mono.duty_of rfl ?_
    intro f W hR hO hD K hK
    have eL : mono.lit 74 f [] = ⟨#[f 0, f 1, f 2, f 3, f 4, f 5, f 6, f 7, f 8, f 9, f 10, f 11, f 12, f 13, f 14, f 15, f 16, f 17, f 18, f 19, f 20, f 21, f 22, f 23, f 24, f 25, f 26, f 27, f 28, f 29, f 30, f 31, f 32, f 33, f 34, f 35, f 36, f 37, f 38, f 39, f 40, f 41, f 42, f 43, f 44, f 45, f 46, f 47, f 48, f 49, f 50, f 51, f 52, f 53, f 54, f 55, f 56, f 57, f 58, f 59, f 60, f 61, f 62, f 63, f 64, f 65, f 66, f 67, f 68, f 69, f 70, f 71, f 72, f 73], []⟩ := rfl
    replace hK : ∀ v W', Below W.heap.size W W' → phNm w.heap.size b D.length N.length cd cn ad an Z Y 4 v W' → K ((mono.lit 74 f []).put (some 14) v) W' := hK
    rw [eL] at hK ⊢
    simp only [Act.put, List.setIfInBounds_toArray, List.set_cons_succ, List.set_cons_zero] at hK
    have o0 : f 0 = (.pointer (some ⟨b, 0, none⟩)) := hO 0 (by kernel_rfl)
    rw [o0] at hK ⊢
    go_simp
    exact hK _ _ (Below.refl _ _) rfl
  · refine mono.duty_of rfl ?_
    intro f W hR hO hD K hK
    have eL : mono.lit 74 f [] = ⟨#[f 0, f 1, f 2, f 3, f 4, f 5, f 6, f 7, f 8, f 9, f 10, f 11, f 12, f 13, f 14, f 15, f 16, f 17, f 18, f 19, f 20, f 21, f 22, f 23, f 24, f 25, f 26, f 27, f 28, f 29, f 30, f 31, f 32, f 33, f 34, f 35, f 36, f 37, f 38, f 39, f 40, f 41, f 42, f 43, f 44, f 45, f 46, f 47, f 48, f 49, f 50, f 51, f 52, f 53, f 54, f 55, f 56, f 57, f 58, f 59, f 60, f 61, f 62, f 63, f 64, f 65, f 66, f 67, f 68, f 69, f 70, f 71, f 72, f 73], []⟩ := rfl
    replace hK : ∀ v W', Below W.heap.size W W' → phNm w.heap.size b D.length N.length cd cn ad an Z Y 5 v W' → K ((mono.lit 74 f []).put (some 15) v) W' := hK
    rw [eL] at hK ⊢
    simp only [Act.put, List.setIfInBounds_toArray, List.set_cons_succ, List.set_cons_zero] at hK
    have q4 := hD 4 14 (by kernel_rfl) (by kernel_rfl)
    replace q4 : f 14 = (.pointer (some ⟨b, 0, none⟩)) := q4
    rw [q4] at hK ⊢
    go_simp
    exact hK _ _ (Below.refl _ _) rfl
  · refine mono.duty_of rfl ?_
    intro f W hR hO hD K hK
    have eL : mono.lit 74 f [] = ⟨#[f 0, f 1, f 2, f 3, f 4, f 5, f 6, f 7, f 8, f 9, f 10, f 11, f 12, f 13, f 14, f 15, f 16, f 17, f 18, f 19, f 20, f 21, f 22, f 23, f 24, f 25, f 26, f 27, f 28, f 29, f 30, f 31, f 32, f 33, f 34, f 35, f 36, f 37, f 38, f 39, f 40, f 41, f 42, f 43, f 44, f 45, f 46, f 47, f 48, f 49, f 50, f 51, f 52, f 53, f 54, f 55, f 56, f 57, f 58, f 59, f 60, f 61, f 62, f 63, f 64, f 65, f 66, f 67, f 68, f 69, f 70, f 71, f 72, f 73], []⟩ := rfl
    replace hK : ∀ v W', Below W.heap.size W W' → phNm w.heap.size b D.length N.length cd cn ad an Z Y 6 v W' → K ((mono.lit 74 f []).put (some 16) v) W' := hK
    rw [eL] at hK ⊢
    simp only [Act.put, List.setIfInBounds_toArray, List.set_cons_succ, List.set_cons_zero] at hK
    have q5 := hD 5 15 (by kernel_rfl) (by kernel_rfl)
    replace q5 : f 15 = (.pointer (some ⟨b, 0, none⟩)) := q5
    rw [q5] at hK ⊢
    go_simp
    exact hK _ _ (Below.refl _ _) rfl
  · refine mono.duty_of rfl ?_
    intro f W hR hO hD K hK
    have eL : mono.lit 74 f [] = ⟨#[f 0, f 1, f 2, f 3, f 4, f 5, f 6, f 7, f 8, f 9, f 10, f 11, f 12, f 13, f 14, f 15, f 16, f 17, f 18, f 19, f 20, f 21, f 22, f 23, f 24, f 25, f 26, f 27, f 28, f 29, f 30, f 31, f 32, f 33, f 34, f 35, f 36, f 37, f 38, f 39, f 40, f 41, f 42, f 43, f 44, f 45, f 46, f 47, f 48, f 49, f 50, f 51, f 52, f 53, f 54, f 55, f 56, f 57, f 58, f 59, f 60, f 61, f 62, f 63, f 64, f 65, f 66, f 67, f 68, f 69, f 70, f 71, f 72, f 73], []⟩ := rfl
    replace hK : ∀ v W', Below W.heap.size W W' → phNm w.heap.size b D.length N.length cd cn ad an Z Y 7 v W' → K ((mono.lit 74 f []).put (some 17) v) W' := hK
    rw [eL] at hK ⊢
    simp only [Act.put, List.setIfInBounds_toArray, List.set_cons_succ, List.set_cons_zero] at hK
    have q6 := hD 6 16 (by kernel_rfl) (by kernel_rfl)
    replace q6 : f 16 = (.pointer (some ⟨b, 1, none⟩)) := q6
    rw [q6] at hK ⊢
    obtain ⟨x0, x1, -, -⟩ := (hS1.below hR).cells
    go_simp
    exact hK _ _ (Below.refl _ _) rfl
  · refine mono.duty_of rfl ?_
    intro f W hR hO hD K hK
    have eL : mono.lit 74 f [] = ⟨#[f 0, f 1, f 2, f 3, f 4, f 5, f 6, f 7, f 8, f 9, f 10, f 11, f 12, f 13, f 14, f 15, f 16, f 17, f 18, f 19, f 20, f 21, f 22, f 23, f 24, f 25, f 26, f 27, f 28, f 29, f 30, f 31, f 32, f 33, f 34, f 35, f 36, f 37, f 38, f 39, f 40, f 41, f 42, f 43, f 44, f 45, f 46, f 47, f 48, f 49, f 50, f 51, f 52, f 53, f 54, f 55, f 56, f 57, f 58, f 59, f 60, f 61, f 62, f 63, f 64, f 65, f 66, f 67, f 68, f 69, f 70, f 71, f 72, f 73], []⟩ := rfl
    replace hK : ∀ v W', Below W.heap.size W W' → phNm w.heap.size b D.length N.length cd cn ad an Z Y 8 v W' → K ((mono.lit 74 f []).put (some 18) v) W' := hK
    rw [eL] at hK ⊢
    simp only [Act.put, List.setIfInBounds_toArray, List.set_cons_succ, List.set_cons_zero] at hK
    have q7 := hD 7 17 (by kernel_rfl) (by kernel_rfl)
    replace q7 : f 17 = (.slice an N.length cn) := q7
    rw [q7] at hK ⊢
    go_simp
    exact hK _ _ (Below.refl _ _) rfl
  · refine mono.duty_of rfl ?_
    intro f W hR hO hD K hK
    have eL : mono.lit 74 f [] = ⟨#[f 0, f 1, f 2, f 3, f 4, f 5, f 6, f 7, f 8, f 9, f 10, f 11, f 12, f 13, f 14, f 15, f 16, f 17, f 18, f 19, f 20, f 21, f 22, f 23, f 24, f 25, f 26, f 27, f 28, f 29, f 30, f 31, f 32, f 33, f 34, f 35, f 36, f 37, f 38, f 39, f 40, f 41, f 42, f 43, f 44, f 45, f 46, f 47, f 48, f 49, f 50, f 51, f 52, f 53, f 54, f 55, f 56, f 57, f 58, f 59, f 60, f 61, f 62, f 63, f 64, f 65, f 66, f 67, f 68, f 69, f 70, f 71, f 72, f 73], []⟩ := rfl
    replace hK : ∀ v W', Below W.heap.size W W' → phNm w.heap.size b D.length N.length cd cn ad an Z Y 9 v W' → K ((mono.lit 74 f []).put (some 19) v) W' := hK
    rw [eL] at hK ⊢
    simp only [Act.put, List.setIfInBounds_toArray, List.set_cons_succ, List.set_cons_zero] at hK
    have q8 := hD 8 18 (by kernel_rfl) (by kernel_rfl)
    replace q8 : f 18 = (.int .i64 (N.length : Int)) := q8
    rw [q8] at hK ⊢
    have cX := hmk W
    have hsz := hR.size
    go_simp
    exact hK _ _ (alloc_b W _) ⟨_, rfl, heap_alloc_new W _, Nat.le_trans hwB hsz⟩
  · refine mono.duty_of rfl ?_
    intro f W hR hO hD K hK
    have eL : mono.lit 74 f [] = ⟨#[f 0, f 1, f 2, f 3, f 4, f 5, f 6, f 7, f 8, f 9, f 10, f 11, f 12, f 13, f 14, f 15, f 16, f 17, f 18, f 19, f 20, f 21, f 22, f 23, f 24, f 25, f 26, f 27, f 28, f 29, f 30, f 31, f 32, f 33, f 34, f 35, f 36, f 37, f 38, f 39, f 40, f 41, f 42, f 43, f 44, f 45, f 46, f 47, f 48, f 49, f 50, f 51, f 52, f 53, f 54, f 55, f 56, f 57, f 58, f 59, f 60, f 61, f 62, f 63, f 64, f 65, f 66, f 67, f 68, f 69, f 70, f 71, f 72, f 73], []⟩ := rfl
    replace hK : ∀ v W', Below W.heap.size W W' → phNm w.heap.size b D.length N.length cd cn ad an Z Y 10 v W' → K ((mono.lit 74 f []).put (some 20) v) W' := hK
    rw [eL] at hK ⊢
    simp only [Act.put, List.setIfInBounds_toArray, List.set_cons_succ, List.set_cons_zero] at hK
    have o0 : f 0 = (.pointer (some ⟨b, 0, none⟩)) := hO 0 (by kernel_rfl)
    rw [o0] at hK ⊢
    go_simp
    exact hK _ _ (Below.refl _ _) rfl
  · refine mono.duty_of rfl ?_
    intro f W hR hO hD K hK
    have eL : mono.lit 74 f [] = ⟨#[f 0, f 1, f 2, f 3, f 4, f 5, f 6, f 7, f 8, f 9, f 10, f 11, f 12, f 13, f 14, f 15, f 16, f 17, f 18, f 19, f 20, f 21, f 22, f 23, f 24, f 25, f 26, f 27, f 28, f 29, f 30, f 31, f 32, f 33, f 34, f 35, f 36, f 37, f 38, f 39, f 40, f 41, f 42, f 43, f 44, f 45, f 46, f 47, f 48, f 49, f 50, f 51, f 52, f 53, f 54, f 55, f 56, f 57, f 58, f 59, f 60, f 61, f 62, f 63, f 64, f 65, f 66, f 67, f 68, f 69, f 70, f 71, f 72, f 73], []⟩ := rfl
    replace hK : ∀ v W', Below W.heap.size W W' → phNm w.heap.size b D.length N.length cd cn ad an Z Y 11 v W' → K ((mono.lit 74 f []).put (some 21) v) W' := hK
    rw [eL] at hK ⊢
    simp only [Act.put, List.setIfInBounds_toArray, List.set_cons_succ, List.set_cons_zero] at hK
    have q10 := hD 10 20 (by kernel_rfl) (by kernel_rfl)
    replace q10 : f 20 = (.pointer (some ⟨b, 0, none⟩)) := q10
    rw [q10] at hK ⊢
    go_simp
    exact hK _ _ (Below.refl _ _) rfl
  · refine mono.duty_of rfl ?_
    intro f W hR hO hD K hK
    have eL : mono.lit 74 f [] = ⟨#[f 0, f 1, f 2, f 3, f 4, f 5, f 6, f 7, f 8, f 9, f 10, f 11, f 12, f 13, f 14, f 15, f 16, f 17, f 18, f 19, f 20, f 21, f 22, f 23, f 24, f 25, f 26, f 27, f 28, f 29, f 30, f 31, f 32, f 33, f 34, f 35, f 36, f 37, f 38, f 39, f 40, f 41, f 42, f 43, f 44, f 45, f 46, f 47, f 48, f 49, f 50, f 51, f 52, f 53, f 54, f 55, f 56, f 57, f 58, f 59, f 60, f 61, f 62, f 63, f 64, f 65, f 66, f 67, f 68, f 69, f 70, f 71, f 72, f 73], []⟩ := rfl
    replace hK : ∀ v W', Below W.heap.size W W' → phNm w.heap.size b D.length N.length cd cn ad an Z Y 12 v W' → K ((mono.lit 74 f []).put (some 22) v) W' := hK
    rw [eL] at hK ⊢
    simp only [Act.put, List.setIfInBounds_toArray, List.set_cons_succ, List.set_cons_zero] at hK
    have q11 := hD 11 21 (by kernel_rfl) (by kernel_rfl)
    replace q11 : f 21 = (.pointer (some ⟨b, 0, none⟩)) := q11
    rw [q11] at hK ⊢
    go_simp
    exact hK _ _ (Below.refl _ _) rfl
  · refine mono.duty_of rfl ?_
    intro f W hR hO hD K hK
    have eL : mono.lit 74 f [] = ⟨#[f 0, f 1, f 2, f 3, f 4, f 5, f 6, f 7, f 8, f 9, f 10, f 11, f 12, f 13, f 14, f 15, f 16, f 17, f 18, f 19, f 20, f 21, f 22, f 23, f 24, f 25, f 26, f 27, f 28, f 29, f 30, f 31, f 32, f 33, f 34, f 35, f 36, f 37, f 38, f 39, f 40, f 41, f 42, f 43, f 44, f 45, f 46, f 47, f 48, f 49, f 50, f 51, f 52, f 53, f 54, f 55, f 56, f 57, f 58, f 59, f 60, f 61, f 62, f 63, f 64, f 65, f 66, f 67, f 68, f 69, f 70, f 71, f 72, f 73], []⟩ := rfl
    replace hK : ∀ v W', Below W.heap.size W W' → phNm w.heap.size b D.length N.length cd cn ad an Z Y 13 v W' → K ((mono.lit 74 f []).put (some 23) v) W' := hK
    rw [eL] at hK ⊢
    simp only [Act.put, List.setIfInBounds_toArray, List.set_cons_succ, List.set_cons_zero] at hK
    have q12 := hD 12 22 (by kernel_rfl) (by kernel_rfl)
    replace q12 : f 22 = (.pointer (some ⟨b, 0, none⟩)) := q12
    rw [q12] at hK ⊢
    obtain ⟨x0, x1, -, -⟩ := (hS1.below hR).cells
    go_simp
    exact hK _ _ (Below.refl _ _) rfl
  · refine mono.duty_of rfl ?_
    intro f W hR hO hD K hK
    have eL : mono.lit 74 f [] = ⟨#[f 0, f 1, f 2, f 3, f 4, f 5, f 6, f 7, f 8, f 9, f 10, f 11, f 12, f 13, f 14, f 15, f 16, f 17, f 18, f 19, f 20, f 21, f 22, f 23, f 24, f 25, f 26, f 27, f 28, f 29, f 30, f 31, f 32, f 33, f 34, f 35, f 36, f 37, f 38, f 39, f 40, f 41, f 42, f 43, f 44, f 45, f 46, f 47, f 48, f 49, f 50, f 51, f 52, f 53, f 54, f 55, f 56, f 57, f 58, f 59, f 60, f 61, f 62, f 63, f 64, f 65, f 66, f 67, f 68, f 69, f 70, f 71, f 72, f 73], []⟩ := rfl
    replace hK : ∀ v W', Below W.heap.size W W' → phNm w.heap.size b D.length N.length cd cn ad an Z Y 14 v W' → K ((mono.lit 74 f []).put (some 24) v) W' := hK
    rw [eL] at hK ⊢
    simp only [Act.put, List.setIfInBounds_toArray, List.set_cons_succ, List.set_cons_zero] at hK
    have q13 := hD 13 23 (by kernel_rfl) (by kernel_rfl)
    replace q13 : f 23 = (.slice ad D.length cd) := q13
    rw [q13] at hK ⊢
    go_simp
    exact hK _ _ (Below.refl _ _) rfl
  · refine mono.duty_of rfl ?_
    intro f W hR hO hD K hK
    have eL : mono.lit 74 f [] = ⟨#[f 0, f 1, f 2, f 3, f 4, f 5, f 6, f 7, f 8, f 9, f 10, f 11, f 12, f 13, f 14, f 15, f 16, f 17, f 18, f 19, f 20, f 21, f 22, f 23, f 24, f 25, f 26, f 27, f 28, f 29, f 30, f 31, f 32, f 33, f 34, f 35, f 36, f 37, f 38, f 39, f 40, f 41, f 42, f 43, f 44, f 45, f 46, f 47, f 48, f 49, f 50, f 51, f 52, f 53, f 54, f 55, f 56, f 57, f 58, f 59, f 60, f 61, f 62, f 63, f 64, f 65, f 66, f 67, f 68, f 69, f 70, f 71, f 72, f 73], []⟩ := rfl
    replace hK : ∀ v W', Below W.heap.size W W' → phNm w.heap.size b D.length N.length cd cn ad an Z Y 15 v W' → K ((mono.lit 74 f []).put (some 25) v) W' := hK
    rw [eL] at hK ⊢
    simp only [Act.put, List.setIfInBounds_toArray, List.set_cons_succ, List.set_cons_zero] at hK
    have q14 := hD 14 24 (by kernel_rfl) (by kernel_rfl)
    replace q14 : f 24 = (.int .i64 (D.length : Int)) := q14
    rw [q14] at hK ⊢
    have cX := hmk2 W
    have hsz := hR.size
    go_simp
    exact hK _ _ (alloc_b W _) ⟨_, rfl, heap_alloc_new W _, Nat.le_trans hwB hsz⟩
  · refine mono.duty_of rfl ?_
    intro f W hR hO hD K hK
    have eL : mono.lit 74 f [] = ⟨#[f 0, f 1, f 2, f 3, f 4, f 5, f 6, f 7, f 8, f 9, f 10, f 11, f 12, f 13, f 14, f 15, f 16, f 17, f 18, f 19, f 20, f 21, f 22, f 23, f 24, f 25, f 26, f 27, f 28, f 29, f 30, f 31, f 32, f 33, f 34, f 35, f 36, f 37, f 38, f 39, f 40, f 41, f 42, f 43, f 44, f 45, f 46, f 47, f 48, f 49, f 50, f 51, f 52, f 53, f 54, f 55, f 56, f 57, f 58, f 59, f 60, f 61, f 62, f 63, f 64, f 65, f 66, f 67, f 68, f 69, f 70, f 71, f 72, f 73], []⟩ := rfl
    replace hK : ∀ v W', Below W.heap.size W W' → phNm w.heap.size b D.length N.length cd cn ad an Z Y 16 v W' → K ((mono.lit 74 f []).put (some 26) v) W' := hK
    rw [eL] at hK ⊢
    simp only [Act.put, List.setIfInBounds_toArray, List.set_cons_succ, List.set_cons_zero] at hK
    have q3 := hD 3 13 (by kernel_rfl) (by kernel_rfl)
    replace q3 : f 13 = (.slice ad D.length cd) := q3
    have q9 := hD 9 19 (by kernel_rfl) (by kernel_rfl)
    obtain ⟨g9, e9, h9, b9⟩ := q9
    have q15 := hD 15 25 (by kernel_rfl) (by kernel_rfl)
    obtain ⟨g15, e15, h15, b15⟩ := q15
    rw [q3, e9, e15] at hK ⊢
    go_simp
    exact hK _ _ (Below.refl _ _) ⟨_, _, rfl, h9, h15, b9, b15⟩
  · refine mono.duty_of rfl ?_
    intro f W hR hO hD K hK
    have eL : mono.lit 74 f [] = ⟨#[f 0, f 1, f 2, f 3, f 4, f 5, f 6, f 7, f 8, f 9, f 10, f 11, f 12, f 13, f 14, f 15, f 16, f 17, f 18, f 19, f 20, f 21, f 22, f 23, f 24, f 25, f 26, f 27, f 28, f 29, f 30, f 31, f 32, f 33, f 34, f 35, f 36, f 37, f 38, f 39, f 40, f 41, f 42, f 43, f 44, f 45, f 46, f 47, f 48, f 49, f 50, f 51, f 52, f 53, f 54, f 55, f 56, f 57, f 58, f 59, f 60, f 61, f 62, f 63, f 64, f 65, f 66, f 67, f 68, f 69, f 70, f 71, f 72, f 73], []⟩ := rfl
    replace hK : ∀ v W', Below W.heap.size W W' → phNm w.heap.size b D.length N.length cd cn ad an Z Y 17 v W' → K ((mono.lit 74 f []).put (some 27) v) W' := hK
    rw [eL] at hK ⊢
    simp only [Act.put, List.setIfInBounds_toArray, List.set_cons_succ, List.set_cons_zero] at hK
    have q16 := hD 16 26 (by kernel_rfl) (by kernel_rfl)
    obtain ⟨g1, g2, e16, h1, h2, l1, l2⟩ := q16
    rw [e16] at hK ⊢
    have hsz := hR.size
    go_simp
    exact hK _ _ (alloc_b W _) ⟨_, g1, g2, rfl, heap_alloc_new W _, Nat.le_trans hwB hsz, ((alloc_b W _).block _ (lt_heap h1)).trans h1, ((alloc_b W _).block _ (lt_heap h2)).trans h2, l1, l2⟩
  · refine mono.duty_of rfl ?_
    intro f W hR hO hD K hK
    have eL : mono.lit 74 f [] = ⟨#[f 0, f 1, f 2, f 3, f 4, f 5, f 6, f 7, f 8, f 9, f 10, f 11, f 12, f 13, f 14, f 15, f 16, f 17, f 18, f 19, f 20, f 21, f 22, f 23, f 24, f 25, f 26, f 27, f 28, f 29, f 30, f 31, f 32, f 33, f 34, f 35, f 36, f 37, f 38, f 39, f 40, f 41, f 42, f 43, f 44, f 45, f 46, f 47, f 48, f 49, f 50, f 51, f 52, f 53, f 54, f 55, f 56, f 57, f 58, f 59, f 60, f 61, f 62, f 63, f 64, f 65, f 66, f 67, f 68, f 69, f 70, f 71, f 72, f 73], []⟩ := rfl
    replace hK : ∀ v W', Below W.heap.size W W' → phNm w.heap.size b D.length N.length cd cn ad an Z Y 18 v W' → K ((mono.lit 74 f []).put (some 5) v) W' := hK
    rw [eL] at hK ⊢
    simp only [Act.put, List.setIfInBounds_toArray, List.set_cons_succ, List.set_cons_zero] at hK
    have q17 := hD 17 27 (by kernel_rfl) (by kernel_rfl)
    obtain ⟨m, g1, g2, e17, hm, lm, h1, h2, l1, l2⟩ := q17
    rw [e17] at hK ⊢
    go_simp
    exact hK _ _ (Below.refl _ _) ⟨m, g1, g2, rfl, hm, lm, h1, h2, l1, l2⟩
  intro f W hB9 hO hD
  have r0 : f 0 = (.pointer (some ⟨b, 0, none⟩)) := hO 0 (by kernel_rfl)
  have r1 : f 1 = (.slice av D.length cv) := hO 1 (by kernel_rfl)
  have r2 : f 2 = undef := hO 2 (by kernel_rfl)
  have r3 : f 3 = undef := hO 3 (by kernel_rfl)
  have r4 : f 4 = (.pointer none) := hO 4 (by kernel_rfl)
  have r5 := hD 18 5 (by kernel_rfl)
  obtain ⟨m, p, q, es5, hmx, hml, hpx, hqx, hpl, hql⟩ := r5
  have r6 : f 6 = undef := hO 6 (by kernel_rfl)
  have r7 : f 7 = undef := hO 7 (by kernel_rfl)
  have r8 : f 8 = undef := hO 8 (by kernel_rfl)
  have r9 : f 9 = undef := hO 9 (by kernel_rfl)
  have r28 : f 28 = undef := hO 28 (by kernel_rfl)
  have r29 : f 29 = undef := hO 29 (by kernel_rfl)
  have r30 : f 30 = undef := hO 30 (by kernel_rfl)
  have r31 : f 31 = undef := hO 31 (by kernel_rfl)
  have r32 : f 32 = undef := hO 32 (by kernel_rfl)
  have r33 : f 33 = undef := hO 33 (by kernel_rfl)
  have r34 : f 34 = undef := hO 34 (by kernel_rfl)
  have r35 : f 35 = undef := hO 35 (by kernel_rfl)
  have r36 : f 36 = undef := hO 36 (by kernel_rfl)
  have r37 : f 37 = undef := hO 37 (by kernel_rfl)
  have r38 : f 38 = undef := hO 38 (by kernel_rfl)
  have r39 : f 39 = undef := hO 39 (by kernel_rfl)
  have r40 : f 40 = undef := hO 40 (by kernel_rfl)
  have r41 : f 41 = undef := hO 41 (by kernel_rfl)
  have r42 : f 42 = undef := hO 42 (by kernel_rfl)
  have r43 : f 43 = undef := hO 43 (by kernel_rfl)
  have r44 : f 44 = undef := hO 44 (by kernel_rfl)
  have r45 : f 45 = undef := hO 45 (by kernel_rfl)
  have r46 : f 46 = undef := hO 46 (by kernel_rfl)
  have r47 : f 47 = undef := hO 47 (by kernel_rfl)
  have r48 : f 48 = undef := hO 48 (by kernel_rfl)
  have r49 : f 49 = undef := hO 49 (by kernel_rfl)
  have r50 : f 50 = undef := hO 50 (by kernel_rfl)
  have r51 : f 51 = undef := hO 51 (by kernel_rfl)
  have r52 : f 52 = undef := hO 52 (by kernel_rfl)
  have r53 : f 53 = undef := hO 53 (by kernel_rfl)
  have r54 : f 54 = undef := hO 54 (by kernel_rfl)
  have r55 : f 55 = undef := hO 55 (by kernel_rfl)
  have r56 : f 56 = undef := hO 56 (by kernel_rfl)
  have r57 : f 57 = undef := hO 57 (by kernel_rfl)
  have r58 : f 58 = undef := hO 58 (by kernel_rfl)
  have r59 : f 59 = undef := hO 59 (by kernel_rfl)
  have r60 : f 60 = undef := hO 60 (by kernel_rfl)
  have r61 : f 61 = undef := hO 61 (by kernel_rfl)
  have r62 : f 62 = undef := hO 62 (by kernel_rfl)
  have r63 : f 63 = undef := hO 63 (by kernel_rfl)
  have r64 : f 64 = undef := hO 64 (by kernel_rfl)
  have r65 : f 65 = undef := hO 65 (by kernel_rfl)
  have r66 : f 66 = undef := hO 66 (by kernel_rfl)
  have r67 : f 67 = undef := hO 67 (by kernel_rfl)
  have r68 : f 68 = undef := hO 68 (by kernel_rfl)
  have r69 : f 69 = undef := hO 69 (by kernel_rfl)
  have r70 : f 70 = undef := hO 70 (by kernel_rfl)
  have r71 : f 71 = undef := hO 71 (by kernel_rfl)
  have r72 : f 72 = undef := hO 72 (by kernel_rfl)
  have r73 : f 73 = undef := hO 73 (by kernel_rfl)
  have eL : mono.lit 74 f [] = ⟨#[f 0, f 1, f 2, f 3, f 4, f 5, f 6, f 7, f 8, f 9, f 10, f 11, f 12, f 13, f 14, f 15, f 16, f 17, f 18, f 19, f 20, f 21, f 22, f 23, f 24, f 25, f 26, f 27, f 28, f 29, f 30, f 31, f 32, f 33, f 34, f 35, f 36, f 37, f 38, f 39, f 40, f 41, f 42, f 43, f 44, f 45, f 46, f 47, f 48, f 49, f 50, f 51, f 52, f 53, f 54, f 55, f 56, f 57, f 58, f 59, f 60, f 61, f 62, f 63, f 64, f 65, f 66, f 67, f 68, f 69, f 70, f 71, f 72, f 73], []⟩ := rfl
  rw [eL, r0, r1, r2, r3, r4, es5, r6, r7, r8, r9, r28, r29, r30, r31, r32, r33, r34, r35, r36, r37, r38, r39, r40, r41, r42, r43, r44, r45, r46, r47, r48, r49, r50, r51, r52, r53, r54, r55, r56, r57, r58, r59, r60, r61, r62, r63, r64, r65, r66, r67, r68, r69, r70, r71, r72, r73]
  clear eL hO hD r0 r1 r2 r3 r4 r6 r7 r8 r9 r28 r29 r30 r31 r32 r33 r34 r35 r36 r37 r38 r39 r40 r41 r42 r43 r44 r45 r46 r47 r48 r49 r50 r51 r52 r53 r54 r55 r56 r57 r58 r59 r60 r61 r62 r63 r64 r65 r66 r67 r68 r69 r70 r71 r72 r73
  have hb1 := hwd.trans (hB9.mono hwd.size)
  have o1 : W.ownsRow w.heap.size 119 1 (.slice (some ⟨p, 0, none⟩) N.length N.length) N.length (List.replicate N.length (.slice none 0 0)) := by
    rw [← Z1]
    exact ⟨by rw [Array.length_toList, Z2], .inr ⟨p, N.length, Z, rfl, hpl, hpx, Nat.le_refl _, by unfold maxLen; omega, Z2, List.take_of_length_le (by rw [Array.length_toList, Z2]; exact Nat.le_refl _)⟩⟩
  have o2 : W.ownsRow w.heap.size 123 2 (.slice (some ⟨q, 0, none⟩) D.length D.length) D.length ((List.replicate D.length ((0, 0) : Int × Int)).map cR).flatten := by
    rw [← Y1]
    exact ⟨by rw [Array.length_toList, Y2], .inr ⟨q, D.length, Y, rfl, hql, hqx, Nat.le_refl _, by unfold maxLen; omega, Y2, List.take_of_length_le (by rw [Array.length_toList, Y2]; exact Nat.le_refl _)⟩⟩
  have t1 := Tbl.new (α := Pl) (e := 121) (z := 3) (C := cP) o1
  have e0 : List.replicate N.length ([] : List Pl) = tabR [] N.length := by
    apply List.ext_getElem?
    intro i
    by_cases hi : i < N.length
    · rw [tabR_at hi]; simp [hi, rst]
    · rw [List.getElem?_eq_none (by simp; omega), List.getElem?_eq_none (by rw [tabR_len]; omega)]
  rw [e0] at t1
  have hbx1 := hbx.below hb1
  have htb1 := htb.below hb1
  have hs1 := hs.below hb1
  obtain ⟨x0, x1, -, -⟩ := hbx1.cells
  clear hmk hmk2 Z1 Y1 Z2 Y2 o1 hpx hqx hbx htb hs hln hwd hS1 hwB hB9 hbx1 e0
  generalize W = w1 at *
  go_wp2_with fail
  have hNw : Nw w1 w.heap.size m p q N.length (.slice ad D.length cd) (.slice av D.length cv) D [] (List.replicate N.length (.slice none 0 0)) := ⟨hmx, htb1, t1, o2, hs1⟩
  clear hmx htb1 t1 o2 hs1 x0 x1
  go_loopw [33] (fun i wr => ∃ k : Nat, k ≤ D.length ∧ i = .int .i64 (k : Int) ∧ (∃ R, Nw wr w.heap.size m p q N.length (.slice ad D.length cd) (.slice av D.length cv) D (evD (D.take k)) R) ∧ Below w.heap.size w wr) (fun i _ => D.length - (Go.RowKit.intOf i).toNat)
  case atStart => exact ⟨0, by omega, rfl, ⟨_, by simpa [evD] using hNw⟩, hb1⟩
  case round =>
    obtain ⟨k, hk, rfl, ⟨R, hN1⟩, hb⟩ := hrel
    clear hNw hb1
    by_cases hlt : k < D.length
    · have hlt' : (k : Int) < (D.length : Int) := by omega
      have hDk : D[k]? = some D[k] := by simp [hlt]
      obtain ⟨gd, od, rv, e1, hgd, c0, hlr⟩ := hN1.docs.at hDk
      obtain ⟨hrl, hrn⟩ := hrow D[k] (List.getElem_mem hlt)
      obtain ⟨ar, kr, rfl, hkr⟩ := hlr.form
      have hfl : (bvT (D.map sndD))[k]? = some (.bool (sndD D[k])) := by simp [bvT, hlt]
      have HEV : Hid (evD (D.take (k + 1)) = evD (D.take k) ++ (if sndD D[k] then evR k (D[k].take D[k].length) else [])) := by
        show _ = _
        rw [List.take_succ_eq_append_getElem hlt, evD_one, List.take_of_length_le (Nat.le_refl _), List.length_take, Nat.min_eq_left (by omega)]
      have hEl : (evD (D.take k)).length + (if sndD D[k] then D[k].length else 0) ≤ 1048576 := by
        have h1 := evD_le D (k + 1)
        rw [HEV.out, List.length_append, List.take_of_length_le (Nat.le_refl _)] at h1
        split
        · rename_i hS
          rw [if_pos hS, evR_len] at h1
          omega
        · omega
      clear hDk hrow
      generalize D[k] = row at *
      subst e1
      have hN2 : ∃ R, Nw wr w.heap.size m p q N.length (.slice (some ⟨gd, od, none⟩) D.length cd) (.slice av D.length cv) D (evD (D.take k) ++ (if sndD row then evR k (row.take 0) else [])) R := ⟨R, by simpa [evR] using hN1⟩
      go_wp2_with fail
      clear hN1
      generalize wr = wa at *
      generalize evD (D.take k) = E0 at *
      go_loopw [40] (fun i wr => ∃ e : Nat, e ≤ row.length ∧ i = .int .i64 (e : Int) ∧ (∃ R, Nw wr w.heap.size m p q N.length (.slice (some ⟨gd, od, none⟩) D.length cd) (.slice av D.length cv) D (E0 ++ (if sndD row then evR k (row.take e) else [])) R) ∧ Ln wr 114 (.slice ar row.length kr) row.length (row.map cA).flatten ∧ Below w.heap.size w wr) (fun i _ => row.length - (Go.RowKit.intOf i).toNat)
      case atStart => exact ⟨0, by omega, rfl, hN2, hlr, hb⟩
      case round =>
        obtain ⟨e, he, rfl, ⟨R1, hN3⟩, hlr3, hb3⟩ := hrel
        clear hN2 hlr hb
        by_cases hle : e < row.length
        · have hle' : (e : Int) < (row.length : Int) := by omega
          have hxe : row[e]? = some row[e] := by simp [hle]
          have hxn := hrn row[e] (List.getElem_mem hle)
          have f0 := flat_at cA 2 cA_len row e _ hxe 0 (by decide)
          have f1 := flat_at cA 2 cA_len row e _ hxe 1 (by decide)
          obtain ⟨ga, oa, cur, e1, hga, hcell⟩ := hlr3.at (j := e * 2 + 0) (u := .int .i64 (row[e].1 : Int)) f0
          have c0 : wr.cell? ⟨ga, oa + e * 2, none⟩ = some (.int .i64 (row[e].1 : Int)) := hcell _ _ f0
          have c1 : wr.cell? ⟨ga, oa + e * 2 + 1, none⟩ = some (.int .i64 row[e].2) := hcell _ _ f1
          have HRO : Hid (evR k (row.take (e + 1)) = evR k (row.take e) ++ [(row[e].1, (k, e, row[e].2))]) := by
            show _ = _
            rw [List.take_succ_eq_append_getElem hle, evR_one, List.length_take, Nat.min_eq_left (by omega)]
          subst e1
          clear f0 f1 hcell hga hxe cur
          generalize row[e] = x at *
          have hal := alloc_b wr (.cells #[.int .i64 (x.1 : Int), .int .i64 x.2] 114)
          have hax : (wr.alloc (.cells #[.int .i64 (x.1 : Int), .int .i64 x.2] 114)).heap[wr.heap.size]? = some (.cells #[.int .i64 (x.1 : Int), .int .i64 x.2] 114) := heap_alloc_new _ _
          have hN4 := hN3.below hal
          have hlr4 := hlr3.below hal
          have hb4 := chain hb3 hal
          obtain ⟨gs0, os0, cus0, es0, hgs0, hcs0⟩ := hN4.snd.at hfl
          subst es0
          have z0 := hcs0 k _ hfl
          have hxn' : (x.1 : Int) < (N.length : Int) := by omega
          have hgs1 := lt_heap hgs0
          clear hcs0 hgs0
          cases hS : sndD row with
          | false =>
            rw [hS] at z0 hN4
            clear hS hN3 hlr3 hb3 hal hax
            go_wp2_with fail
            exact ⟨⟨e + 1, by omega, by go_num, ⟨R1, hN4⟩, hlr4, hb4⟩, by simp [Go.RowKit.intOf]; omega⟩
          | true =>
            rw [hS] at z0 hN4 hEl
            simp only [if_true] at hN4 hEl
            clear hS hN3 hlr3 hb3 hal
            have hrl4 : (E0 ++ evR k (row.take e)).length ≤ 1048575 := by
              rw [List.length_append, evR_len, List.length_take]
              omega
            generalize hE9 : E0 ++ evR k (row.take e) = E at *
            have HE2 : Hid (E0 ++ evR k (row.take (e + 1)) = E ++ [(x.1, (k, e, x.2))]) := by
              show _ = _
              rw [HRO.out, ← List.append_assoc, hE9]
            clear hE9
            obtain ⟨rr, hrr⟩ : ∃ rr, R1[x.1]? = some rr := ⟨_, List.getElem?_eq_getElem (by rw [hN4.tbl.len, tabR_len]; omega)⟩
            obtain ⟨ar2, kr2, er⟩ := own_form (hN4.tbl.row x.1 rr _ hrr (tabR_at hxn))
            subst er
            have hpc := hN4.tbl.top.cells (g := p) rfl x.1 _ hrr
            rw [addr4, Nat.zero_add] at hpc
            have hrs := rst_len E x.1
            go_upto_region 9 with fail
            clear z0 c0 c1
            generalize wr.alloc _ = w4 at *
            generalize wr.heap.size = ba at *
            have y1 := cell_of_row w4 m 1 _ _ (0, 0) hN4.box
            have y2 := cell_of_row w4 ba 0 _ _ (0, 0) hax
            have y3 := cell_of_row w4 ba 1 _ _ (0, 0) hax
            change w4.cell? _ = some (.slice (some ⟨p, 0, none⟩) N.length N.length) at y1
            change w4.cell? _ = some (.int .i64 (x.1 : Int)) at y2
            change w4.cell? _ = some (.int .i64 x.2) at y3
            have y4 := fun o => cell_alN y1 o
            have y5 := fun o => cell_alN y2 o
            have y7 := fun o => cell_alN hpc o
            have hrow4 := hN4.tbl.row x.1 _ _ hrr (tabR_at hxn)
            have hlen9 : (rst E x.1).length ≤ 1048575 := by omega
            obtain ⟨g9, cap9, w9, hrun, hown, hgr, hgl, hlt9⟩ := run_append_lies (P := Tryd.prog) (w4.drew.alloc (.cells #[.int .i64 (k : Int), .int .i64 (e : Int), .int .i64 x.2] 121)) 119 119 w.heap.size 121 i1 (.agg #[.int .i64 0, .int .i64 0, .int .i64 0]) 3 24 Tryd.underlying119 hi1 hy0 hy1 hy2 rfl (by decide) (.slice ar2 (rst E x.1).length kr2) (rst E x.1).length ((rst E x.1).map cP).flatten (World.ownsRow.alloc (w := w4.drew) hrow4 _) ⟨w4.heap.size, 0, none⟩ 1 1 [.int .i64 (k : Int), .int .i64 (e : Int), .int .i64 x.2] rfl (World.news_of_block (heap_alloc_new w4.drew _)) (by simp [Value.oneCell']) (by decide) (by unfold maxLen; omega) (by omega) (by have := hb4.size; simp; omega) (w4.heap.size + 1) (by simp)
            obtain ⟨k1, k2, k3, k4⟩ := hN4.facts hrr hxn hgr
            have k5 := cell_of_row w9 ba 0 _ _ (0, 0) (k4 _ _ hax)
            have k6 := cell_of_row w9 ba 1 _ _ (0, 0) (k4 _ _ hax)
            change w9.cell? _ = some (.int .i64 (x.1 : Int)) at k5
            change w9.cell? _ = some (.int .i64 x.2) at k6
            obtain ⟨E1, E2, E3⟩ := hN4.stepD (a := (k, e, x.2)) hrr hxn hown hgr hgl
            have F2 := hlr4.sm (E2 _ (by decide) (by decide))
            have F3 := E3 _ hb4.size hb4
            have y1a : (w4.drew.alloc (.cells #[.int .i64 (k : Int), .int .i64 (e : Int), .int .i64 x.2] 121)).cell? ⟨m, 1, none⟩ = _ := y4 _
            have y2a : (w4.drew.alloc (.cells #[.int .i64 (k : Int), .int .i64 (e : Int), .int .i64 x.2] 121)).cell? ⟨ba, 0, none⟩ = _ := y5 _
            have y3a : (w4.drew.alloc (.cells #[.int .i64 (k : Int), .int .i64 (e : Int), .int .i64 x.2] 121)).cell? ⟨ba, 1, none⟩ = _ := cell_alN y3 _
            have hpca : (w4.drew.alloc (.cells #[.int .i64 (k : Int), .int .i64 (e : Int), .int .i64 x.2] 121)).cell? ⟨p, x.1, none⟩ = _ := y7 _
            clear y4 y5 y7 hN4 hlr4 hrow4 hown hgr hgl k4 hax E2 E3 hlt9
            refine mono.region_monoS (fun _ _ => True) (fun _ => trivial) (fun _ _ _ _ _ => trivial) (phNr m p N.length ba x.1 k e (rst E x.1).length kr2 w4.heap.size g9 cap9 x.2 ar2) (mono.BxW 19 20 22 w4.drew (w4.drew.alloc (.cells #[.int .i64 (k : Int), .int .i64 (e : Int), .int .i64 x.2] 121)) w9 (w9.setCell ⟨p, x.1, none⟩ (.slice (some ⟨g9, 0, none⟩) ((rst E x.1).length + 1) cap9))) 74 [] [0, 1, 2, 3, 4, 5, 6, 7, 8, 9, 10, 11, 12, 13, 14, 15, 16, 17, 18, 19, 20, 21, 22] (by kernel_rfl) rfl rfl (by kernel_rfl) [] (by kernel_rfl) (by simp) phNr_stays mono.BxW.begin (.cons ?_ (.cons ?_ (.cons ?_ (.cons ?_ (.cons ?_ (.cons ?_ (.cons ?_ (.cons ?_ (.cons ?_ (.cons ?_ (.cons ?_ (.cons ?_ (.cons ?_ (.cons ?_ (.cons ?_ (.cons ?_ (.cons ?_ (.cons ?_ (.cons ?_ (.cons ?_ (.cons ?_ (.cons ?_ (.cons ?_ (.nil)))))))))))))))))))))))) ?_
            · refine mono.dutyS_of rfl ?_
              intro f W L hR hO hD hL hi hX K hK
              have eL : mono.lit 74 f [] = ⟨#[f 0, f 1, f 2, f 3, f 4, f 5, f 6, f 7, f 8, f 9, f 10, f 11, f 12, f 13, f 14, f 15, f 16, f 17, f 18, f 19, f 20, f 21, f 22, f 23, f 24, f 25, f 26, f 27, f 28, f 29, f 30, f 31, f 32, f 33, f 34, f 35, f 36, f 37, f 38, f 39, f 40, f 41, f 42, f 43, f 44, f 45, f 46, f 47, f 48, f 49, f 50, f 51, f 52, f 53, f 54, f 55, f 56, f 57, f 58, f 59, f 60, f 61, f 62, f 63, f 64, f 65, f 66, f 67, f 68, f 69, f 70, f 71, f 72, f 73], []⟩ := rfl
              replace hK : ∀ v W', True → phNr m p N.length ba x.1 k e (rst E x.1).length kr2 w4.heap.size g9 cap9 x.2 ar2 0 v W' → mono.BxW 19 20 22 w4.drew (w4.drew.alloc (.cells #[.int .i64 (k : Int), .int .i64 (e : Int), .int .i64 x.2] 121)) w9 (w9.setCell ⟨p, x.1, none⟩ (.slice (some ⟨g9, 0, none⟩) ((rst E x.1).length + 1) cap9)) (fun j => if j = 0 then true else L j) W' → K ((mono.lit 74 f []).put (some 49) v) W' := hK
              rw [eL] at hK ⊢
              simp only [Act.put, List.setIfInBounds_toArray, List.set_cons_succ, List.set_cons_zero] at hK
              have o5 : f 5 = (.pointer (some ⟨m, 0, none⟩)) := hO 5 (by kernel_rfl)
              rw [o5] at hK ⊢
              obtain ⟨hB, hw⟩ := hX.pure 0 hi (by decide) (by decide) (by decide)
              go_simp
              exact hK _ _ trivial rfl hB
            · refine mono.dutyS_of rfl ?_
              intro f W L hR hO hD hL hi hX K hK
              have eL : mono.lit 74 f [] = ⟨#[f 0, f 1, f 2, f 3, f 4, f 5, f 6, f 7, f 8, f 9, f 10, f 11, f 12, f 13, f 14, f 15, f 16, f 17, f 18, f 19, f 20, f 21, f 22, f 23, f 24, f 25, f 26, f 27, f 28, f 29, f 30, f 31, f 32, f 33, f 34, f 35, f 36, f 37, f 38, f 39, f 40, f 41, f 42, f 43, f 44, f 45, f 46, f 47, f 48, f 49, f 50, f 51, f 52, f 53, f 54, f 55, f 56, f 57, f 58, f 59, f 60, f 61, f 62, f 63, f 64, f 65, f 66, f 67, f 68, f 69, f 70, f 71, f 72, f 73], []⟩ := rfl
              replace hK : ∀ v W', True → phNr m p N.length ba x.1 k e (rst E x.1).length kr2 w4.heap.size g9 cap9 x.2 ar2 1 v W' → mono.BxW 19 20 22 w4.drew (w4.drew.alloc (.cells #[.int .i64 (k : Int), .int .i64 (e : Int), .int .i64 x.2] 121)) w9 (w9.setCell ⟨p, x.1, none⟩ (.slice (some ⟨g9, 0, none⟩) ((rst E x.1).length + 1) cap9)) (fun j => if j = 1 then true else L j) W' → K ((mono.lit 74 f []).put (some 50) v) W' := hK
              rw [eL] at hK ⊢
              simp only [Act.put, List.setIfInBounds_toArray, List.set_cons_succ, List.set_cons_zero] at hK
              have q0 : f 49 = (.pointer (some ⟨m, 0, none⟩)) := hD 0 49 (by kernel_rfl) (by kernel_rfl)
              rw [q0] at hK ⊢
              obtain ⟨hB, hw⟩ := hX.pure 1 hi (by decide) (by decide) (by decide)
              go_simp
              exact hK _ _ trivial rfl hB
            · refine mono.dutyS_of rfl ?_
              intro f W L hR hO hD hL hi hX K hK
              have eL : mono.lit 74 f [] = ⟨#[f 0, f 1, f 2, f 3, f 4, f 5, f 6, f 7, f 8, f 9, f 10, f 11, f 12, f 13, f 14, f 15, f 16, f 17, f 18, f 19, f 20, f 21, f 22, f 23, f 24, f 25, f 26, f 27, f 28, f 29, f 30, f 31, f 32, f 33, f 34, f 35, f 36, f 37, f 38, f 39, f 40, f 41, f 42, f 43, f 44, f 45, f 46, f 47, f 48, f 49, f 50, f 51, f 52, f 53, f 54, f 55, f 56, f 57, f 58, f 59, f 60, f 61, f 62, f 63, f 64, f 65, f 66, f 67, f 68, f 69, f 70, f 71, f 72, f 73], []⟩ := rfl
              replace hK : ∀ v W', True → phNr m p N.length ba x.1 k e (rst E x.1).length kr2 w4.heap.size g9 cap9 x.2 ar2 2 v W' → mono.BxW 19 20 22 w4.drew (w4.drew.alloc (.cells #[.int .i64 (k : Int), .int .i64 (e : Int), .int .i64 x.2] 121)) w9 (w9.setCell ⟨p, x.1, none⟩ (.slice (some ⟨g9, 0, none⟩) ((rst E x.1).length + 1) cap9)) (fun j => if j = 2 then true else L j) W' → K ((mono.lit 74 f []).put (some 51) v) W' := hK
              rw [eL] at hK ⊢
              simp only [Act.put, List.setIfInBounds_toArray, List.set_cons_succ, List.set_cons_zero] at hK
              have q1 : f 50 = (.pointer (some ⟨m, 0, none⟩)) := hD 1 50 (by kernel_rfl) (by kernel_rfl)
              rw [q1] at hK ⊢
              obtain ⟨hB, hw⟩ := hX.pure 2 hi (by decide) (by decide) (by decide)
              go_simp
              exact hK _ _ trivial rfl hB
            · refine mono.dutyS_of rfl ?_
              intro f W L hR hO hD hL hi hX K hK
              have eL : mono.lit 74 f [] = ⟨#[f 0, f 1, f 2, f 3, f 4, f 5, f 6, f 7, f 8, f 9, f 10, f 11, f 12, f 13, f 14, f 15, f 16, f 17, f 18, f 19, f 20, f 21, f 22, f 23, f 24, f 25, f 26, f 27, f 28, f 29, f 30, f 31, f 32, f 33, f 34, f 35, f 36, f 37, f 38, f 39, f 40, f 41, f 42, f 43, f 44, f 45, f 46, f 47, f 48, f 49, f 50, f 51, f 52, f 53, f 54, f 55, f 56, f 57, f 58, f 59, f 60, f 61, f 62, f 63, f 64, f 65, f 66, f 67, f 68, f 69, f 70, f 71, f 72, f 73], []⟩ := rfl
              replace hK : ∀ v W', True → phNr m p N.length ba x.1 k e (rst E x.1).length kr2 w4.heap.size g9 cap9 x.2 ar2 3 v W' → mono.BxW 19 20 22 w4.drew (w4.drew.alloc (.cells #[.int .i64 (k : Int), .int .i64 (e : Int), .int .i64 x.2] 121)) w9 (w9.setCell ⟨p, x.1, none⟩ (.slice (some ⟨g9, 0, none⟩) ((rst E x.1).length + 1) cap9)) (fun j => if j = 3 then true else L j) W' → K ((mono.lit 74 f []).put (some 52) v) W' := hK
              rw [eL] at hK ⊢
              simp only [Act.put, List.setIfInBounds_toArray, List.set_cons_succ, List.set_cons_zero] at hK
              have q2 : f 51 = (.pointer (some ⟨m, 1, none⟩)) := hD 2 51 (by kernel_rfl) (by kernel_rfl)
              rw [q2] at hK ⊢
              obtain ⟨hB, hw⟩ := hX.pure 3 hi (by decide) (by decide) (by decide)
              have y : W.cell? ⟨m, 1, none⟩ = some (.slice (some ⟨p, 0, none⟩) N.length N.length) := by
                rcases hw with rfl | rfl | rfl
                · exact y1
                · exact y1a
                · exact k1
              go_simp
              exact hK _ _ trivial rfl hB
            · refine mono.dutyS_of rfl ?_
              intro f W L hR hO hD hL hi hX K hK
              have eL : mono.lit 74 f [] = ⟨#[f 0, f 1, f 2, f 3, f 4, f 5, f 6, f 7, f 8, f 9, f 10, f 11, f 12, f 13, f 14, f 15, f 16, f 17, f 18, f 19, f 20, f 21, f 22, f 23, f 24, f 25, f 26, f 27, f 28, f 29, f 30, f 31, f 32, f 33, f 34, f 35, f 36, f 37, f 38, f 39, f 40, f 41, f 42, f 43, f 44, f 45, f 46, f 47, f 48, f 49, f 50, f 51, f 52, f 53, f 54, f 55, f 56, f 57, f 58, f 59, f 60, f 61, f 62, f 63, f 64, f 65, f 66, f 67, f 68, f 69, f 70, f 71, f 72, f 73], []⟩ := rfl
              replace hK : ∀ v W', True → phNr m p N.length ba x.1 k e (rst E x.1).length kr2 w4.heap.size g9 cap9 x.2 ar2 4 v W' → mono.BxW 19 20 22 w4.drew (w4.drew.alloc (.cells #[.int .i64 (k : Int), .int .i64 (e : Int), .int .i64 x.2] 121)) w9 (w9.setCell ⟨p, x.1, none⟩ (.slice (some ⟨g9, 0, none⟩) ((rst E x.1).length + 1) cap9)) (fun j => if j = 4 then true else L j) W' → K ((mono.lit 74 f []).put (some 53) v) W' := hK
              rw [eL] at hK ⊢
              simp only [Act.put, List.setIfInBounds_toArray, List.set_cons_succ, List.set_cons_zero] at hK
              have o9 : f 9 = (.pointer (some ⟨ba, 0, none⟩)) := hO 9 (by kernel_rfl)
              rw [o9] at hK ⊢
              obtain ⟨hB, hw⟩ := hX.pure 4 hi (by decide) (by decide) (by decide)
              go_simp
              exact hK _ _ trivial rfl hB
            · refine mono.dutyS_of rfl ?_
              intro f W L hR hO hD hL hi hX K hK
              have eL : mono.lit 74 f [] = ⟨#[f 0, f 1, f 2, f 3, f 4, f 5, f 6, f 7, f 8, f 9, f 10, f 11, f 12, f 13, f 14, f 15, f 16, f 17, f 18, f 19, f 20, f 21, f 22, f 23, f 24, f 25, f 26, f 27, f 28, f 29, f 30, f 31, f 32, f 33, f 34, f 35, f 36, f 37, f 38, f 39, f 40, f 41, f 42, f 43, f 44, f 45, f 46, f 47, f 48, f 49, f 50, f 51, f 52, f 53, f 54, f 55, f 56, f 57, f 58, f 59, f 60, f 61, f 62, f 63, f 64, f 65, f 66, f 67, f 68, f 69, f 70, f 71, f 72, f 73], []⟩ := rfl
              replace hK : ∀ v W', True → phNr m p N.length ba x.1 k e (rst E x.1).length kr2 w4.heap.size g9 cap9 x.2 ar2 5 v W' → mono.BxW 19 20 22 w4.drew (w4.drew.alloc (.cells #[.int .i64 (k : Int), .int .i64 (e : Int), .int .i64 x.2] 121)) w9 (w9.setCell ⟨p, x.1, none⟩ (.slice (some ⟨g9, 0, none⟩) ((rst E x.1).length + 1) cap9)) (fun j => if j = 5 then true else L j) W' → K ((mono.lit 74 f []).put (some 54) v) W' := hK
              rw [eL] at hK ⊢
              simp only [Act.put, List.setIfInBounds_toArray, List.set_cons_succ, List.set_cons_zero] at hK
              have q4 : f 53 = (.pointer (some ⟨ba, 0, none⟩)) := hD 4 53 (by kernel_rfl) (by kernel_rfl)
              rw [q4] at hK ⊢
              obtain ⟨hB, hw⟩ := hX.pure 5 hi (by decide) (by decide) (by decide)
              have y : W.cell? ⟨ba, 0, none⟩ = some (.int .i64 (x.1 : Int)) := by
                rcases hw with rfl | rfl | rfl
                · exact y2
                · exact y2a
                · exact k5
              go_simp
              exact hK _ _ trivial rfl hB
            · refine mono.dutyS_of rfl ?_
              intro f W L hR hO hD hL hi hX K hK
              have eL : mono.lit 74 f [] = ⟨#[f 0, f 1, f 2, f 3, f 4, f 5, f 6, f 7, f 8, f 9, f 10, f 11, f 12, f 13, f 14, f 15, f 16, f 17, f 18, f 19, f 20, f 21, f 22, f 23, f 24, f 25, f 26, f 27, f 28, f 29, f 30, f 31, f 32, f 33, f 34, f 35, f 36, f 37, f 38, f 39, f 40, f 41, f 42, f 43, f 44, f 45, f 46, f 47, f 48, f 49, f 50, f 51, f 52, f 53, f 54, f 55, f 56, f 57, f 58, f 59, f 60, f 61, f 62, f 63, f 64, f 65, f 66, f 67, f 68, f 69, f 70, f 71, f 72, f 73], []⟩ := rfl
              replace hK : ∀ v W', True → phNr m p N.length ba x.1 k e (rst E x.1).length kr2 w4.heap.size g9 cap9 x.2 ar2 6 v W' → mono.BxW 19 20 22 w4.drew (w4.drew.alloc (.cells #[.int .i64 (k : Int), .int .i64 (e : Int), .int .i64 x.2] 121)) w9 (w9.setCell ⟨p, x.1, none⟩ (.slice (some ⟨g9, 0, none⟩) ((rst E x.1).length + 1) cap9)) (fun j => if j = 6 then true else L j) W' → K ((mono.lit 74 f []).put (some 55) v) W' := hK
              rw [eL] at hK ⊢
              simp only [Act.put, List.setIfInBounds_toArray, List.set_cons_succ, List.set_cons_zero] at hK
              have o5 : f 5 = (.pointer (some ⟨m, 0, none⟩)) := hO 5 (by kernel_rfl)
              rw [o5] at hK ⊢
              obtain ⟨hB, hw⟩ := hX.pure 6 hi (by decide) (by decide) (by decide)
              go_simp
              exact hK _ _ trivial rfl hB
            · refine mono.dutyS_of rfl ?_
              intro f W L hR hO hD hL hi hX K hK
              have eL : mono.lit 74 f [] = ⟨#[f 0, f 1, f 2, f 3, f 4, f 5, f 6, f 7, f 8, f 9, f 10, f 11, f 12, f 13, f 14, f 15, f 16, f 17, f 18, f 19, f 20, f 21, f 22, f 23, f 24, f 25, f 26, f 27, f 28, f 29, f 30, f 31, f 32, f 33, f 34, f 35, f 36, f 37, f 38, f 39, f 40, f 41, f 42, f 43, f 44, f 45, f 46, f 47, f 48, f 49, f 50, f 51, f 52, f 53, f 54, f 55, f 56, f 57, f 58, f 59, f 60, f 61, f 62, f 63, f 64, f 65, f 66, f 67, f 68, f 69, f 70, f 71, f 72, f 73], []⟩ := rfl
              replace hK : ∀ v W', True → phNr m p N.length ba x.1 k e (rst E x.1).length kr2 w4.heap.size g9 cap9 x.2 ar2 7 v W' → mono.BxW 19 20 22 w4.drew (w4.drew.alloc (.cells #[.int .i64 (k : Int), .int .i64 (e : Int), .int .i64 x.2] 121)) w9 (w9.setCell ⟨p, x.1, none⟩ (.slice (some ⟨g9, 0, none⟩) ((rst E x.1).length + 1) cap9)) (fun j => if j = 7 then true else L j) W' → K ((mono.lit 74 f []).put (some 56) v) W' := hK
              rw [eL] at hK ⊢
              simp only [Act.put, List.setIfInBounds_toArray, List.set_cons_succ, List.set_cons_zero] at hK
              have q6 : f 55 = (.pointer (some ⟨m, 0, none⟩)) := hD 6 55 (by kernel_rfl) (by kernel_rfl)
              rw [q6] at hK ⊢
              obtain ⟨hB, hw⟩ := hX.pure 7 hi (by decide) (by decide) (by decide)
              go_simp
              exact hK _ _ trivial rfl hB
            · refine mono.dutyS_of rfl ?_
              intro f W L hR hO hD hL hi hX K hK
              have eL : mono.lit 74 f [] = ⟨#[f 0, f 1, f 2, f 3, f 4, f 5, f 6, f 7, f 8, f 9, f 10, f 11, f 12, f 13, f 14, f 15, f 16, f 17, f 18, f 19, f 20, f 21, f 22, f 23, f 24, f 25, f 26, f 27, f 28, f 29, f 30, f 31, f 32, f 33, f 34, f 35, f 36, f 37, f 38, f 39, f 40, f 41, f 42, f 43, f 44, f 45, f 46, f 47, f 48, f 49, f 50, f 51, f 52, f 53, f 54, f 55, f 56, f 57, f 58, f 59, f 60, f 61, f 62, f 63, f 64, f 65, f 66, f 67, f 68, f 69, f 70, f 71, f 72, f 73], []⟩ := rfl
              replace hK : ∀ v W', True → phNr m p N.length ba x.1 k e (rst E x.1).length kr2 w4.heap.size g9 cap9 x.2 ar2 8 v W' → mono.BxW 19 20 22 w4.drew (w4.drew.alloc (.cells #[.int .i64 (k : Int), .int .i64 (e : Int), .int .i64 x.2] 121)) w9 (w9.setCell ⟨p, x.1, none⟩ (.slice (some ⟨g9, 0, none⟩) ((rst E x.1).length + 1) cap9)) (fun j => if j = 8 then true else L j) W' → K ((mono.lit 74 f []).put (some 57) v) W' := hK
              rw [eL] at hK ⊢
              simp only [Act.put, List.setIfInBounds_toArray, List.set_cons_succ, List.set_cons_zero] at hK
              have q7 : f 56 = (.pointer (some ⟨m, 0, none⟩)) := hD 7 56 (by kernel_rfl) (by kernel_rfl)
              rw [q7] at hK ⊢
              obtain ⟨hB, hw⟩ := hX.pure 8 hi (by decide) (by decide) (by decide)
              go_simp
              exact hK _ _ trivial rfl hB
            · refine mono.dutyS_of rfl ?_
              intro f W L hR hO hD hL hi hX K hK
              have eL : mono.lit 74 f [] = ⟨#[f 0, f 1, f 2, f 3, f 4, f 5, f 6, f 7, f 8, f 9, f 10, f 11, f 12, f 13, f 14, f 15, f 16, f 17, f 18, f 19, f 20, f 21, f 22, f 23, f 24, f 25, f 26, f 27, f 28, f 29, f 30, f 31, f 32, f 33, f 34, f 35, f 36, f 37, f 38, f 39, f 40, f 41, f 42, f 43, f 44, f 45, f 46, f 47, f 48, f 49, f 50, f 51, f 52, f 53, f 54, f 55, f 56, f 57, f 58, f 59, f 60, f 61, f 62, f 63, f 64, f 65, f 66, f 67, f 68, f 69, f 70, f 71, f 72, f 73], []⟩ := rfl
              replace hK : ∀ v W', True → phNr m p N.length ba x.1 k e (rst E x.1).length kr2 w4.heap.size g9 cap9 x.2 ar2 9 v W' → mono.BxW 19 20 22 w4.drew (w4.drew.alloc (.cells #[.int .i64 (k : Int), .int .i64 (e : Int), .int .i64 x.2] 121)) w9 (w9.setCell ⟨p, x.1, none⟩ (.slice (some ⟨g9, 0, none⟩) ((rst E x.1).length + 1) cap9)) (fun j => if j = 9 then true else L j) W' → K ((mono.lit 74 f []).put (some 58) v) W' := hK
              rw [eL] at hK ⊢
              simp only [Act.put, List.setIfInBounds_toArray, List.set_cons_succ, List.set_cons_zero] at hK
              have q8 : f 57 = (.pointer (some ⟨m, 1, none⟩)) := hD 8 57 (by kernel_rfl) (by kernel_rfl)
              rw [q8] at hK ⊢
              obtain ⟨hB, hw⟩ := hX.pure 9 hi (by decide) (by decide) (by decide)
              have y : W.cell? ⟨m, 1, none⟩ = some (.slice (some ⟨p, 0, none⟩) N.length N.length) := by
                rcases hw with rfl | rfl | rfl
                · exact y1
                · exact y1a
                · exact k1
              go_simp
              exact hK _ _ trivial rfl hB
            · refine mono.dutyS_of rfl ?_
              intro f W L hR hO hD hL hi hX K hK
              have eL : mono.lit 74 f [] = ⟨#[f 0, f 1, f 2, f 3, f 4, f 5, f 6, f 7, f 8, f 9, f 10, f 11, f 12, f 13, f 14, f 15, f 16, f 17, f 18, f 19, f 20, f 21, f 22, f 23, f 24, f 25, f 26, f 27, f 28, f 29, f 30, f 31, f 32, f 33, f 34, f 35, f 36, f 37, f 38, f 39, f 40, f 41, f 42, f 43, f 44, f 45, f 46, f 47, f 48, f 49, f 50, f 51, f 52, f 53, f 54, f 55, f 56, f 57, f 58, f 59, f 60, f 61, f 62, f 63, f 64, f 65, f 66, f 67, f 68, f 69, f 70, f 71, f 72, f 73], []⟩ := rfl
              replace hK : ∀ v W', True → phNr m p N.length ba x.1 k e (rst E x.1).length kr2 w4.heap.size g9 cap9 x.2 ar2 10 v W' → mono.BxW 19 20 22 w4.drew (w4.drew.alloc (.cells #[.int .i64 (k : Int), .int .i64 (e : Int), .int .i64 x.2] 121)) w9 (w9.setCell ⟨p, x.1, none⟩ (.slice (some ⟨g9, 0, none⟩) ((rst E x.1).length + 1) cap9)) (fun j => if j = 10 then true else L j) W' → K ((mono.lit 74 f []).put (some 59) v) W' := hK
              rw [eL] at hK ⊢
              simp only [Act.put, List.setIfInBounds_toArray, List.set_cons_succ, List.set_cons_zero] at hK
              have o9 : f 9 = (.pointer (some ⟨ba, 0, none⟩)) := hO 9 (by kernel_rfl)
              rw [o9] at hK ⊢
              obtain ⟨hB, hw⟩ := hX.pure 10 hi (by decide) (by decide) (by decide)
              go_simp
              exact hK _ _ trivial rfl hB
            · refine mono.dutyS_of rfl ?_
              intro f W L hR hO hD hL hi hX K hK
              have eL : mono.lit 74 f [] = ⟨#[f 0, f 1, f 2, f 3, f 4, f 5, f 6, f 7, f 8, f 9, f 10, f 11, f 12, f 13, f 14, f 15, f 16, f 17, f 18, f 19, f 20, f 21, f 22, f 23, f 24, f 25, f 26, f 27, f 28, f 29, f 30, f 31, f 32, f 33, f 34, f 35, f 36, f 37, f 38, f 39, f 40, f 41, f 42, f 43, f 44, f 45, f 46, f 47, f 48, f 49, f 50, f 51, f 52, f 53, f 54, f 55, f 56, f 57, f 58, f 59, f 60, f 61, f 62, f 63, f 64, f 65, f 66, f 67, f 68, f 69, f 70, f 71, f 72, f 73], []⟩ := rfl
              replace hK : ∀ v W', True → phNr m p N.length ba x.1 k e (rst E x.1).length kr2 w4.heap.size g9 cap9 x.2 ar2 11 v W' → mono.BxW 19 20 22 w4.drew (w4.drew.alloc (.cells #[.int .i64 (k : Int), .int .i64 (e : Int), .int .i64 x.2] 121)) w9 (w9.setCell ⟨p, x.1, none⟩ (.slice (some ⟨g9, 0, none⟩) ((rst E x.1).length + 1) cap9)) (fun j => if j = 11 then true else L j) W' → K ((mono.lit 74 f []).put (some 60) v) W' := hK
              rw [eL] at hK ⊢
              simp only [Act.put, List.setIfInBounds_toArray, List.set_cons_succ, List.set_cons_zero] at hK
              have q10 : f 59 = (.pointer (some ⟨ba, 0, none⟩)) := hD 10 59 (by kernel_rfl) (by kernel_rfl)
              rw [q10] at hK ⊢
              obtain ⟨hB, hw⟩ := hX.pure 11 hi (by decide) (by decide) (by decide)
              have y : W.cell? ⟨ba, 0, none⟩ = some (.int .i64 (x.1 : Int)) := by
                rcases hw with rfl | rfl | rfl
                · exact y2
                · exact y2a
                · exact k5
              go_simp
              exact hK _ _ trivial rfl hB
            · refine mono.dutyS_of rfl ?_
              intro f W L hR hO hD hL hi hX K hK
              have eL : mono.lit 74 f [] = ⟨#[f 0, f 1, f 2, f 3, f 4, f 5, f 6, f 7, f 8, f 9, f 10, f 11, f 12, f 13, f 14, f 15, f 16, f 17, f 18, f 19, f 20, f 21, f 22, f 23, f 24, f 25, f 26, f 27, f 28, f 29, f 30, f 31, f 32, f 33, f 34, f 35, f 36, f 37, f 38, f 39, f 40, f 41, f 42, f 43, f 44, f 45, f 46, f 47, f 48, f 49, f 50, f 51, f 52, f 53, f 54, f 55, f 56, f 57, f 58, f 59, f 60, f 61, f 62, f 63, f 64, f 65, f 66, f 67, f 68, f 69, f 70, f 71, f 72, f 73], []⟩ := rfl
              replace hK : ∀ v W', True → phNr m p N.length ba x.1 k e (rst E x.1).length kr2 w4.heap.size g9 cap9 x.2 ar2 12 v W' → mono.BxW 19 20 22 w4.drew (w4.drew.alloc (.cells #[.int .i64 (k : Int), .int .i64 (e : Int), .int .i64 x.2] 121)) w9 (w9.setCell ⟨p, x.1, none⟩ (.slice (some ⟨g9, 0, none⟩) ((rst E x.1).length + 1) cap9)) (fun j => if j = 12 then true else L j) W' → K ((mono.lit 74 f []).put (some 61) v) W' := hK
              rw [eL] at hK ⊢
              simp only [Act.put, List.setIfInBounds_toArray, List.set_cons_succ, List.set_cons_zero] at hK
              have q9 : f 58 = (.slice (some ⟨p, 0, none⟩) N.length N.length) := hD 9 58 (by kernel_rfl) (by kernel_rfl)
              have q11 : f 60 = (.int .i64 (x.1 : Int)) := hD 11 60 (by kernel_rfl) (by kernel_rfl)
              rw [q9, q11] at hK ⊢
              obtain ⟨hB, hw⟩ := hX.pure 12 hi (by decide) (by decide) (by decide)
              go_simp
              exact hK _ _ trivial rfl hB
            · refine mono.dutyS_of rfl ?_
              intro f W L hR hO hD hL hi hX K hK
              have eL : mono.lit 74 f [] = ⟨#[f 0, f 1, f 2, f 3, f 4, f 5, f 6, f 7, f 8, f 9, f 10, f 11, f 12, f 13, f 14, f 15, f 16, f 17, f 18, f 19, f 20, f 21, f 22, f 23, f 24, f 25, f 26, f 27, f 28, f 29, f 30, f 31, f 32, f 33, f 34, f 35, f 36, f 37, f 38, f 39, f 40, f 41, f 42, f 43, f 44, f 45, f 46, f 47, f 48, f 49, f 50, f 51, f 52, f 53, f 54, f 55, f 56, f 57, f 58, f 59, f 60, f 61, f 62, f 63, f 64, f 65, f 66, f 67, f 68, f 69, f 70, f 71, f 72, f 73], []⟩ := rfl
              replace hK : ∀ v W', True → phNr m p N.length ba x.1 k e (rst E x.1).length kr2 w4.heap.size g9 cap9 x.2 ar2 13 v W' → mono.BxW 19 20 22 w4.drew (w4.drew.alloc (.cells #[.int .i64 (k : Int), .int .i64 (e : Int), .int .i64 x.2] 121)) w9 (w9.setCell ⟨p, x.1, none⟩ (.slice (some ⟨g9, 0, none⟩) ((rst E x.1).length + 1) cap9)) (fun j => if j = 13 then true else L j) W' → K ((mono.lit 74 f []).put (some 62) v) W' := hK
              rw [eL] at hK ⊢
              simp only [Act.put, List.setIfInBounds_toArray, List.set_cons_succ, List.set_cons_zero] at hK
              have q12 : f 61 = (.pointer (some ⟨p, x.1, none⟩)) := hD 12 61 (by kernel_rfl) (by kernel_rfl)
              rw [q12] at hK ⊢
              obtain ⟨hB, hw⟩ := hX.pure 13 hi (by decide) (by decide) (by decide)
              have y : W.cell? ⟨p, x.1, none⟩ = some (.slice ar2 (rst E x.1).length kr2) := by
                rcases hw with rfl | rfl | rfl
                · exact hpc
                · exact hpca
                · exact k2
              go_simp
              exact hK _ _ trivial rfl hB
            · refine mono.dutyS_of rfl ?_
              intro f W L hR hO hD hL hi hX K hK
              have eL : mono.lit 74 f [] = ⟨#[f 0, f 1, f 2, f 3, f 4, f 5, f 6, f 7, f 8, f 9, f 10, f 11, f 12, f 13, f 14, f 15, f 16, f 17, f 18, f 19, f 20, f 21, f 22, f 23, f 24, f 25, f 26, f 27, f 28, f 29, f 30, f 31, f 32, f 33, f 34, f 35, f 36, f 37, f 38, f 39, f 40, f 41, f 42, f 43, f 44, f 45, f 46, f 47, f 48, f 49, f 50, f 51, f 52, f 53, f 54, f 55, f 56, f 57, f 58, f 59, f 60, f 61, f 62, f 63, f 64, f 65, f 66, f 67, f 68, f 69, f 70, f 71, f 72, f 73], []⟩ := rfl
              replace hK : ∀ v W', True → phNr m p N.length ba x.1 k e (rst E x.1).length kr2 w4.heap.size g9 cap9 x.2 ar2 14 v W' → mono.BxW 19 20 22 w4.drew (w4.drew.alloc (.cells #[.int .i64 (k : Int), .int .i64 (e : Int), .int .i64 x.2] 121)) w9 (w9.setCell ⟨p, x.1, none⟩ (.slice (some ⟨g9, 0, none⟩) ((rst E x.1).length + 1) cap9)) (fun j => if j = 14 then true else L j) W' → K ((mono.lit 74 f []).put (some 63) v) W' := hK
              rw [eL] at hK ⊢
              simp only [Act.put, List.setIfInBounds_toArray, List.set_cons_succ, List.set_cons_zero] at hK
              have o6 : f 6 = (.int .i64 (k : Int)) := hO 6 (by kernel_rfl)
              rw [o6] at hK ⊢
              obtain ⟨hB, hw⟩ := hX.pure 14 hi (by decide) (by decide) (by decide)
              go_simp
              exact hK _ _ trivial rfl hB
            · refine mono.dutyS_of rfl ?_
              intro f W L hR hO hD hL hi hX K hK
              have eL : mono.lit 74 f [] = ⟨#[f 0, f 1, f 2, f 3, f 4, f 5, f 6, f 7, f 8, f 9, f 10, f 11, f 12, f 13, f 14, f 15, f 16, f 17, f 18, f 19, f 20, f 21, f 22, f 23, f 24, f 25, f 26, f 27, f 28, f 29, f 30, f 31, f 32, f 33, f 34, f 35, f 36, f 37, f 38, f 39, f 40, f 41, f 42, f 43, f 44, f 45, f 46, f 47, f 48, f 49, f 50, f 51, f 52, f 53, f 54, f 55, f 56, f 57, f 58, f 59, f 60, f 61, f 62, f 63, f 64, f 65, f 66, f 67, f 68, f 69, f 70, f 71, f 72, f 73], []⟩ := rfl
              replace hK : ∀ v W', True → phNr m p N.length ba x.1 k e (rst E x.1).length kr2 w4.heap.size g9 cap9 x.2 ar2 15 v W' → mono.BxW 19 20 22 w4.drew (w4.drew.alloc (.cells #[.int .i64 (k : Int), .int .i64 (e : Int), .int .i64 x.2] 121)) w9 (w9.setCell ⟨p, x.1, none⟩ (.slice (some ⟨g9, 0, none⟩) ((rst E x.1).length + 1) cap9)) (fun j => if j = 15 then true else L j) W' → K ((mono.lit 74 f []).put (some 64) v) W' := hK
              rw [eL] at hK ⊢
              simp only [Act.put, List.setIfInBounds_toArray, List.set_cons_succ, List.set_cons_zero] at hK
              have o8 : f 8 = (.int .i64 (e : Int)) := hO 8 (by kernel_rfl)
              rw [o8] at hK ⊢
              obtain ⟨hB, hw⟩ := hX.pure 15 hi (by decide) (by decide) (by decide)
              go_simp
              exact hK _ _ trivial rfl hB
            · refine mono.dutyS_of rfl ?_
              intro f W L hR hO hD hL hi hX K hK
              have eL : mono.lit 74 f [] = ⟨#[f 0, f 1, f 2, f 3, f 4, f 5, f 6, f 7, f 8, f 9, f 10, f 11, f 12, f 13, f 14, f 15, f 16, f 17, f 18, f 19, f 20, f 21, f 22, f 23, f 24, f 25, f 26, f 27, f 28, f 29, f 30, f 31, f 32, f 33, f 34, f 35, f 36, f 37, f 38, f 39, f 40, f 41, f 42, f 43, f 44, f 45, f 46, f 47, f 48, f 49, f 50, f 51, f 52, f 53, f 54, f 55, f 56, f 57, f 58, f 59, f 60, f 61, f 62, f 63, f 64, f 65, f 66, f 67, f 68, f 69, f 70, f 71, f 72, f 73], []⟩ := rfl
              replace hK : ∀ v W', True → phNr m p N.length ba x.1 k e (rst E x.1).length kr2 w4.heap.size g9 cap9 x.2 ar2 16 v W' → mono.BxW 19 20 22 w4.drew (w4.drew.alloc (.cells #[.int .i64 (k : Int), .int .i64 (e : Int), .int .i64 x.2] 121)) w9 (w9.setCell ⟨p, x.1, none⟩ (.slice (some ⟨g9, 0, none⟩) ((rst E x.1).length + 1) cap9)) (fun j => if j = 16 then true else L j) W' → K ((mono.lit 74 f []).put (some 65) v) W' := hK
              rw [eL] at hK ⊢
              simp only [Act.put, List.setIfInBounds_toArray, List.set_cons_succ, List.set_cons_zero] at hK
              have o9 : f 9 = (.pointer (some ⟨ba, 0, none⟩)) := hO 9 (by kernel_rfl)
              rw [o9] at hK ⊢
              obtain ⟨hB, hw⟩ := hX.pure 16 hi (by decide) (by decide) (by decide)
              go_simp
              exact hK _ _ trivial rfl hB
            · refine mono.dutyS_of rfl ?_
              intro f W L hR hO hD hL hi hX K hK
              have eL : mono.lit 74 f [] = ⟨#[f 0, f 1, f 2, f 3, f 4, f 5, f 6, f 7, f 8, f 9, f 10, f 11, f 12, f 13, f 14, f 15, f 16, f 17, f 18, f 19, f 20, f 21, f 22, f 23, f 24, f 25, f 26, f 27, f 28, f 29, f 30, f 31, f 32, f 33, f 34, f 35, f 36, f 37, f 38, f 39, f 40, f 41, f 42, f 43, f 44, f 45, f 46, f 47, f 48, f 49, f 50, f 51, f 52, f 53, f 54, f 55, f 56, f 57, f 58, f 59, f 60, f 61, f 62, f 63, f 64, f 65, f 66, f 67, f 68, f 69, f 70, f 71, f 72, f 73], []⟩ := rfl
              replace hK : ∀ v W', True → phNr m p N.length ba x.1 k e (rst E x.1).length kr2 w4.heap.size g9 cap9 x.2 ar2 17 v W' → mono.BxW 19 20 22 w4.drew (w4.drew.alloc (.cells #[.int .i64 (k : Int), .int .i64 (e : Int), .int .i64 x.2] 121)) w9 (w9.setCell ⟨p, x.1, none⟩ (.slice (some ⟨g9, 0, none⟩) ((rst E x.1).length + 1) cap9)) (fun j => if j = 17 then true else L j) W' → K ((mono.lit 74 f []).put (some 66) v) W' := hK
              rw [eL] at hK ⊢
              simp only [Act.put, List.setIfInBounds_toArray, List.set_cons_succ, List.set_cons_zero] at hK
              have q16 : f 65 = (.pointer (some ⟨ba, 1, none⟩)) := hD 16 65 (by kernel_rfl) (by kernel_rfl)
              rw [q16] at hK ⊢
              obtain ⟨hB, hw⟩ := hX.pure 17 hi (by decide) (by decide) (by decide)
              have y : W.cell? ⟨ba, 1, none⟩ = some (.int .i64 x.2) := by
                rcases hw with rfl | rfl | rfl
                · exact y3
                · exact y3a
                · exact k6
              go_simp
              exact hK _ _ trivial rfl hB
            · refine mono.dutyS_of rfl ?_
              intro f W L hR hO hD hL hi hX K hK
              have eL : mono.lit 74 f [] = ⟨#[f 0, f 1, f 2, f 3, f 4, f 5, f 6, f 7, f 8, f 9, f 10, f 11, f 12, f 13, f 14, f 15, f 16, f 17, f 18, f 19, f 20, f 21, f 22, f 23, f 24, f 25, f 26, f 27, f 28, f 29, f 30, f 31, f 32, f 33, f 34, f 35, f 36, f 37, f 38, f 39, f 40, f 41, f 42, f 43, f 44, f 45, f 46, f 47, f 48, f 49, f 50, f 51, f 52, f 53, f 54, f 55, f 56, f 57, f 58, f 59, f 60, f 61, f 62, f 63, f 64, f 65, f 66, f 67, f 68, f 69, f 70, f 71, f 72, f 73], []⟩ := rfl
              replace hK : ∀ v W', True → phNr m p N.length ba x.1 k e (rst E x.1).length kr2 w4.heap.size g9 cap9 x.2 ar2 18 v W' → mono.BxW 19 20 22 w4.drew (w4.drew.alloc (.cells #[.int .i64 (k : Int), .int .i64 (e : Int), .int .i64 x.2] 121)) w9 (w9.setCell ⟨p, x.1, none⟩ (.slice (some ⟨g9, 0, none⟩) ((rst E x.1).length + 1) cap9)) (fun j => if j = 18 then true else L j) W' → K ((mono.lit 74 f []).put (some 67) v) W' := hK
              rw [eL] at hK ⊢
              simp only [Act.put, List.setIfInBounds_toArray, List.set_cons_succ, List.set_cons_zero] at hK
              have q14 : f 63 = (.int .i64 (k : Int)) := hD 14 63 (by kernel_rfl) (by kernel_rfl)
              have q15 : f 64 = (.int .i64 (e : Int)) := hD 15 64 (by kernel_rfl) (by kernel_rfl)
              have q17 : f 66 = (.int .i64 x.2) := hD 17 66 (by kernel_rfl) (by kernel_rfl)
              rw [q14, q15, q17] at hK ⊢
              obtain ⟨hB, hw⟩ := hX.pure 18 hi (by decide) (by decide) (by decide)
              go_simp
              exact hK _ _ trivial rfl hB
            · refine mono.dutyS_of rfl ?_
              intro f W L hR hO hD hL hi hX K hK
              have eL : mono.lit 74 f [] = ⟨#[f 0, f 1, f 2, f 3, f 4, f 5, f 6, f 7, f 8, f 9, f 10, f 11, f 12, f 13, f 14, f 15, f 16, f 17, f 18, f 19, f 20, f 21, f 22, f 23, f 24, f 25, f 26, f 27, f 28, f 29, f 30, f 31, f 32, f 33, f 34, f 35, f 36, f 37, f 38, f 39, f 40, f 41, f 42, f 43, f 44, f 45, f 46, f 47, f 48, f 49, f 50, f 51, f 52, f 53, f 54, f 55, f 56, f 57, f 58, f 59, f 60, f 61, f 62, f 63, f 64, f 65, f 66, f 67, f 68, f 69, f 70, f 71, f 72, f 73], []⟩ := rfl
              replace hK : ∀ v W', True → phNr m p N.length ba x.1 k e (rst E x.1).length kr2 w4.heap.size g9 cap9 x.2 ar2 19 v W' → mono.BxW 19 20 22 w4.drew (w4.drew.alloc (.cells #[.int .i64 (k : Int), .int .i64 (e : Int), .int .i64 x.2] 121)) w9 (w9.setCell ⟨p, x.1, none⟩ (.slice (some ⟨g9, 0, none⟩) ((rst E x.1).length + 1) cap9)) (fun j => if j = 19 then true else L j) W' → K ((mono.lit 74 f []).put (some 68) v) W' := hK
              rw [eL] at hK ⊢
              simp only [Act.put, List.setIfInBounds_toArray, List.set_cons_succ, List.set_cons_zero] at hK
              have q18 : f 67 = (.agg #[.int .i64 (k : Int), .int .i64 (e : Int), .int .i64 x.2]) := hD 18 67 (by kernel_rfl) (by kernel_rfl)
              rw [q18] at hK ⊢
              obtain ⟨rfl, hB⟩ := hX.one hi (by decide) (by decide)
              go_simp
              exact hK _ _ trivial rfl hB
            · refine mono.dutyS_of rfl ?_
              intro f W L hR hO hD hL hi hX K hK
              have eL : mono.lit 74 f [] = ⟨#[f 0, f 1, f 2, f 3, f 4, f 5, f 6, f 7, f 8, f 9, f 10, f 11, f 12, f 13, f 14, f 15, f 16, f 17, f 18, f 19, f 20, f 21, f 22, f 23, f 24, f 25, f 26, f 27, f 28, f 29, f 30, f 31, f 32, f 33, f 34, f 35, f 36, f 37, f 38, f 39, f 40, f 41, f 42, f 43, f 44, f 45, f 46, f 47, f 48, f 49, f 50, f 51, f 52, f 53, f 54, f 55, f 56, f 57, f 58, f 59, f 60, f 61, f 62, f 63, f 64, f 65, f 66, f 67, f 68, f 69, f 70, f 71, f 72, f 73], []⟩ := rfl
              replace hK : ∀ v W', True → phNr m p N.length ba x.1 k e (rst E x.1).length kr2 w4.heap.size g9 cap9 x.2 ar2 20 v W' → mono.BxW 19 20 22 w4.drew (w4.drew.alloc (.cells #[.int .i64 (k : Int), .int .i64 (e : Int), .int .i64 x.2] 121)) w9 (w9.setCell ⟨p, x.1, none⟩ (.slice (some ⟨g9, 0, none⟩) ((rst E x.1).length + 1) cap9)) (fun j => if j = 20 then true else L j) W' → K ((mono.lit 74 f []).put (some 69) v) W' := hK
              rw [eL] at hK ⊢
              simp only [Act.put, List.setIfInBounds_toArray, List.set_cons_succ, List.set_cons_zero] at hK
              have q13 : f 62 = (.slice ar2 (rst E x.1).length kr2) := hD 13 62 (by kernel_rfl) (by kernel_rfl)
              have q19 : f 68 = (.slice (some ⟨w4.heap.size, 0, none⟩) 1 1) := hD 19 68 (by kernel_rfl) (by kernel_rfl)
              rw [q13, q19] at hK ⊢
              have hl1 := hL 19 (by kernel_rfl)
              obtain ⟨rfl, hB⟩ := hX.two hl1 hi (by decide) (by decide)
              exact mono.wp_append_run (.tmp 62) (.tmp 68) 119 rfl rfl rfl hrun (hK _ _ trivial rfl hB)
            · refine mono.dutyS_of rfl ?_
              intro f W L hR hO hD hL hi hX K hK
              have eL : mono.lit 74 f [] = ⟨#[f 0, f 1, f 2, f 3, f 4, f 5, f 6, f 7, f 8, f 9, f 10, f 11, f 12, f 13, f 14, f 15, f 16, f 17, f 18, f 19, f 20, f 21, f 22, f 23, f 24, f 25, f 26, f 27, f 28, f 29, f 30, f 31, f 32, f 33, f 34, f 35, f 36, f 37, f 38, f 39, f 40, f 41, f 42, f 43, f 44, f 45, f 46, f 47, f 48, f 49, f 50, f 51, f 52, f 53, f 54, f 55, f 56, f 57, f 58, f 59, f 60, f 61, f 62, f 63, f 64, f 65, f 66, f 67, f 68, f 69, f 70, f 71, f 72, f 73], []⟩ := rfl
              replace hK : ∀ v W', True → phNr m p N.length ba x.1 k e (rst E x.1).length kr2 w4.heap.size g9 cap9 x.2 ar2 21 v W' → mono.BxW 19 20 22 w4.drew (w4.drew.alloc (.cells #[.int .i64 (k : Int), .int .i64 (e : Int), .int .i64 x.2] 121)) w9 (w9.setCell ⟨p, x.1, none⟩ (.slice (some ⟨g9, 0, none⟩) ((rst E x.1).length + 1) cap9)) (fun j => if j = 21 then true else L j) W' → K ((mono.lit 74 f []).put (some 70) v) W' := hK
              rw [eL] at hK ⊢
              simp only [Act.put, List.setIfInBounds_toArray, List.set_cons_succ, List.set_cons_zero] at hK
              have q3 : f 52 = (.slice (some ⟨p, 0, none⟩) N.length N.length) := hD 3 52 (by kernel_rfl) (by kernel_rfl)
              have q5 : f 54 = (.int .i64 (x.1 : Int)) := hD 5 54 (by kernel_rfl) (by kernel_rfl)
              rw [q3, q5] at hK ⊢
              obtain ⟨hB, hw⟩ := hX.pure 21 hi (by decide) (by decide) (by decide)
              go_simp
              exact hK _ _ trivial rfl hB
            · refine mono.dutyS_of rfl ?_
              intro f W L hR hO hD hL hi hX K hK
              have eL : mono.lit 74 f [] = ⟨#[f 0, f 1, f 2, f 3, f 4, f 5, f 6, f 7, f 8, f 9, f 10, f 11, f 12, f 13, f 14, f 15, f 16, f 17, f 18, f 19, f 20, f 21, f 22, f 23, f 24, f 25, f 26, f 27, f 28, f 29, f 30, f 31, f 32, f 33, f 34, f 35, f 36, f 37, f 38, f 39, f 40, f 41, f 42, f 43, f 44, f 45, f 46, f 47, f 48, f 49, f 50, f 51, f 52, f 53, f 54, f 55, f 56, f 57, f 58, f 59, f 60, f 61, f 62, f 63, f 64, f 65, f 66, f 67, f 68, f 69, f 70, f 71, f 72, f 73], []⟩ := rfl
              replace hK : ∀ v W', True → phNr m p N.length ba x.1 k e (rst E x.1).length kr2 w4.heap.size g9 cap9 x.2 ar2 22 v W' → mono.BxW 19 20 22 w4.drew (w4.drew.alloc (.cells #[.int .i64 (k : Int), .int .i64 (e : Int), .int .i64 x.2] 121)) w9 (w9.setCell ⟨p, x.1, none⟩ (.slice (some ⟨g9, 0, none⟩) ((rst E x.1).length + 1) cap9)) (fun j => if j = 22 then true else L j) W' → K ((mono.lit 74 f []).put none v) W' := hK
              rw [eL] at hK ⊢
              simp only [Act.put] at hK
              have q21 : f 70 = (.pointer (some ⟨p, x.1, none⟩)) := hD 21 70 (by kernel_rfl) (by kernel_rfl)
              have q20 : f 69 = (.slice (some ⟨g9, 0, none⟩) ((rst E x.1).length + 1) cap9) := hD 20 69 (by kernel_rfl) (by kernel_rfl)
              rw [q21, q20] at hK ⊢
              have ha : ∀ j, j < 22 → L j = true := fun j hj => match j, hj with
                | 0, _ => hL 0 (by kernel_rfl)
                | 1, _ => hL 1 (by kernel_rfl)
                | 2, _ => hL 2 (by kernel_rfl)
                | 3, _ => hL 3 (by kernel_rfl)
                | 4, _ => hL 4 (by kernel_rfl)
                | 5, _ => hL 5 (by kernel_rfl)
                | 6, _ => hL 6 (by kernel_rfl)
                | 7, _ => hL 7 (by kernel_rfl)
                | 8, _ => hL 8 (by kernel_rfl)
                | 9, _ => hL 9 (by kernel_rfl)
                | 10, _ => hL 10 (by kernel_rfl)
                | 11, _ => hL 11 (by kernel_rfl)
                | 12, _ => hL 12 (by kernel_rfl)
                | 13, _ => hL 13 (by kernel_rfl)
                | 14, _ => hL 14 (by kernel_rfl)
                | 15, _ => hL 15 (by kernel_rfl)
                | 16, _ => hL 16 (by kernel_rfl)
                | 17, _ => hL 17 (by kernel_rfl)
                | 18, _ => hL 18 (by kernel_rfl)
                | 19, _ => hL 19 (by kernel_rfl)
                | 20, _ => hL 20 (by kernel_rfl)
                | 21, _ => hL 21 (by kernel_rfl)
                | (q + 22), h => absurd h (by omega)
              obtain ⟨rfl, hB⟩ := hX.three hi ha (by decide) (by decide)
              have y := k2
              have z := k3
              go_simp
              exact hK undef _ trivial trivial hB
            intro f W L hR hO hD hall hX
            obtain rfl := hX.fin hall (by decide)
            have r0 := hO 0 (by kernel_rfl)
            have r1 := hO 1 (by kernel_rfl)
            have r2 := hO 2 (by kernel_rfl)
            have r3 := hO 3 (by kernel_rfl)
            have r4 := hO 4 (by kernel_rfl)
            have r5 := hO 5 (by kernel_rfl)
            have r6 := hO 6 (by kernel_rfl)
            have r7 := hO 7 (by kernel_rfl)
            have r8 := hO 8 (by kernel_rfl)
            have r9 := hO 9 (by kernel_rfl)
            have r10 := hO 10 (by kernel_rfl)
            have r11 := hO 11 (by kernel_rfl)
            have r12 := hO 12 (by kernel_rfl)
            have r13 := hO 13 (by kernel_rfl)
            have r14 := hO 14 (by kernel_rfl)
            have r15 := hO 15 (by kernel_rfl)
            have r16 := hO 16 (by kernel_rfl)
            have r17 := hO 17 (by kernel_rfl)
            have r18 := hO 18 (by kernel_rfl)
            have r19 := hO 19 (by kernel_rfl)
            have r20 := hO 20 (by kernel_rfl)
            have r21 := hO 21 (by kernel_rfl)
            have r22 := hO 22 (by kernel_rfl)
            have r23 := hO 23 (by kernel_rfl)
            have r24 := hO 24 (by kernel_rfl)
            have r25 := hO 25 (by kernel_rfl)
            have r26 := hO 26 (by kernel_rfl)
            have r27 := hO 27 (by kernel_rfl)
            have r28 := hO 28 (by kernel_rfl)
            have r29 := hO 29 (by kernel_rfl)
            have r30 := hO 30 (by kernel_rfl)
            have r31 := hO 31 (by kernel_rfl)
            have r32 := hO 32 (by kernel_rfl)
            have r33 := hO 33 (by kernel_rfl)
            have r34 := hO 34 (by kernel_rfl)
            have r35 := hO 35 (by kernel_rfl)
            have r36 := hO 36 (by kernel_rfl)
            have r37 := hO 37 (by kernel_rfl)
            have r38 := hO 38 (by kernel_rfl)
            have r39 := hO 39 (by kernel_rfl)
            have r40 := hO 40 (by kernel_rfl)
            have r41 := hO 41 (by kernel_rfl)
            have r42 := hO 42 (by kernel_rfl)
            have r43 := hO 43 (by kernel_rfl)
            have r44 := hO 44 (by kernel_rfl)
            have r45 := hO 45 (by kernel_rfl)
            have r46 := hO 46 (by kernel_rfl)
            have r47 := hO 47 (by kernel_rfl)
            have r48 := hO 48 (by kernel_rfl)
            have r71 := hO 71 (by kernel_rfl)
            have r72 := hO 72 (by kernel_rfl)
            have r73 := hO 73 (by kernel_rfl)
            simp only [Array.getD_eq_getD_getElem?, List.getElem?_toArray, List.getElem?_cons_zero, List.getElem?_cons_succ, Option.getD_some] at r0 r1 r2 r3 r4 r5 r6 r7 r8 r9 r10 r11 r12 r13 r14 r15 r16 r17 r18 r19 r20 r21 r22 r23 r24 r25 r26 r27 r28 r29 r30 r31 r32 r33 r34 r35 r36 r37 r38 r39 r40 r41 r42 r43 r44 r45 r46 r47 r48 r71 r72 r73
            have eL : mono.lit 74 f [] = ⟨#[f 0, f 1, f 2, f 3, f 4, f 5, f 6, f 7, f 8, f 9, f 10, f 11, f 12, f 13, f 14, f 15, f 16, f 17, f 18, f 19, f 20, f 21, f 22, f 23, f 24, f 25, f 26, f 27, f 28, f 29, f 30, f 31, f 32, f 33, f 34, f 35, f 36, f 37, f 38, f 39, f 40, f 41, f 42, f 43, f 44, f 45, f 46, f 47, f 48, f 49, f 50, f 51, f 52, f 53, f 54, f 55, f 56, f 57, f 58, f 59, f 60, f 61, f 62, f 63, f 64, f 65, f 66, f 67, f 68, f 69, f 70, f 71, f 72, f 73], []⟩ := rfl
            rw [eL, r0, r1, r2, r3, r4, r5, r6, r7, r8, r9, r10, r11, r12, r13, r14, r15, r16, r17, r18, r19, r20, r21, r22, r23, r24, r25, r26, r27, r28, r29, r30, r31, r32, r33, r34, r35, r36, r37, r38, r39, r40, r41, r42, r43, r44, r45, r46, r47, r48, r71, r72, r73]
            clear eL hO hD hall hX hR r0 r1 r2 r3 r4 r5 r6 r7 r8 r9 r10 r11 r12 r13 r14 r15 r16 r17 r18 r19 r20 r21 r22 r23 r24 r25 r26 r27 r28 r29 r30 r31 r32 r33 r34 r35 r36 r37 r38 r39 r40 r41 r42 r43 r44 r45 r46 r47 r48 r71 r72 r73
            go_wp2_with fail

            exact ⟨⟨e + 1, by omega, by go_num, ⟨_, by rw [HE2.out]; exact E1⟩, F2, F3⟩, by simp [Go.RowKit.intOf]; omega⟩
        · obtain rfl : e = row.length := by omega
          go_wp2_with fail
          exact ⟨⟨k + 1, by omega, by go_num, ⟨R1, by rw [HEV.out]; exact hN3⟩, hb3⟩, by simp [Go.RowKit.intOf]; omega⟩
    · obtain rfl : k = D.length := by omega
      rw [List.take_length] at hN1
      go_wp2_with fail
      go_ret
      refine ⟨m, p, q, _, R, rfl, ⟨?_, hN1.docs, ?_, fun i r xs h1 h2 => Ln.own (hN1.tbl.row i r xs h1 h2), hN1.last, hml⟩, hb⟩
      · rw [tabR_len]; exact hN1.box
      · have := hN1.tbl.top; rw [tabR_len] at this ⊢; exact this
end Go.Proofs.YtjimolafoihnpaaDoor.tc
