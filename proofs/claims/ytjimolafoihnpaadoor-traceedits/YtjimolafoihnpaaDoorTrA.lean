/-
  Rows in blocks of a type; tables, owned and read. No walk.
-/
import Derived.Test.YtjimolafoihnpaaDoorTxPlain
import Derived.Deep.AppendLies
namespace Go.Proofs.YtjimolafoihnpaaDoor.tc
open Go.ChangeShapes Go.WideShapes Go.ChangeAt Go.RowKit Go.PlainAid

theorem lt_heap {w : World} {g : Nat} {o : Obj} (h : w.heap[g]? = some o) : g < w.heap.size := by
  rcases Nat.lt_or_ge g w.heap.size with h1 | h1
  · exact h1
  · rw [Array.getElem?_eq_none h1] at h; cases h
theorem own_below {w w' : World} {base e z n : Nat} {v : Value} {L : List Value} (h : w.ownsRow base e z v n L) (hb : Below w.heap.size w w') : w'.ownsRow base e z v n L :=
  h.kept (row := none) ⟨hb.os, hb.tape, hb.output, hb.size, fun k hk _ => hb.block k hk⟩ (by cases hv : v.ownBlock <;> simp)
theorem own_form {w : World} {b e z n : Nat} {v : Value} {L : List Value} (h : w.ownsRow b e z v n L) : ∃ ao cp, v = .slice ao n cp := by
  rcases h.2 with ⟨h1, h2⟩ | ⟨g, cap, cur, h1, _⟩
  · exact ⟨none, 0, by rw [h1, h2]⟩
  · exact ⟨_, _, h1⟩
theorem own_kind {W : World} {B e z n g : Nat} {v : Value} {xs : List Value} (h : W.ownsRow B e z v n xs) (hg : v.ownBlock = some g) : ∃ cur, W.heap[g]? = some (.cells cur e (0, 0)) := by
  rcases h.2 with ⟨rfl, _⟩ | ⟨g', cap, cur, rfl, hb, hgg, _⟩
  · simp [Value.ownBlock] at hg
  · simp [Value.ownBlock] at hg
    subst hg
    exact ⟨cur, hgg⟩
theorem own_mono {W : World} {B B' e z n : Nat} {v : Value} {xs : List Value} (h : W.ownsRow B e z v n xs) (hb : B' ≤ B) : W.ownsRow B' e z v n xs := by
  obtain ⟨h1, h2⟩ := h
  refine ⟨h1, ?_⟩
  rcases h2 with h2 | ⟨g, cap, cur, q, h3, r⟩
  · exact .inl h2
  · exact .inr ⟨g, cap, cur, q, by omega, r⟩
theorem alloc_b (w : World) (o : Obj) : Below w.heap.size w (w.alloc o) := (Below.refl _ w).alloc (Nat.le_refl _) _
theorem gb_below {a b : World} {o : Option Nat} (h : Below a.heap.size a b) : a.grownBy b o := ⟨h.os, h.tape, h.output, h.size, fun i hi _ => h.block i hi⟩
theorem gb_none {a b : World} (h : a.grownBy b none) : Below a.heap.size a b := ⟨h.os, h.tape, h.output, h.size, fun i hi => h.block i hi (by simp)⟩
theorem gb_set (W : World) (g j : Nat) (x : Value) : W.grownBy (W.setCell ⟨g, j, none⟩ x) (some g) :=
  ⟨rfl, rfl, rfl, by simp [World.setCell], fun k _ hk => Below.heap_setCell W _ x k (fun e => hk (by rw [e]))⟩
theorem frz {W : World} {p : Nat} {c : Array Value} {t : TypeId} (h : W.heap[p]? = some (.cells c t)) (j : Nat) : W.frozen? ⟨p, j, none⟩ = false := by
  simp [World.frozen?, h]
theorem hp_set {w : World} {g : Nat} {cs : Array Value} {t : TypeId} (h : w.heap[g]? = some (.cells cs t)) (j : Nat) (v : Value) : (w.setCell ⟨g, j, none⟩ v).heap[g]? = some (.cells (cs.setIfInBounds j v) t) :=
  heap_setCell_same w g j cs t v h
theorem hp_oth {w : World} {g p : Nat} {o : Obj} (h : w.heap[g]? = some o) (hne : g ≠ p) (j : Nat) (v : Value) : (w.setCell ⟨p, j, none⟩ v).heap[g]? = some o := by
  rw [heap_setCell_other w ⟨p, j, none⟩ g v hne]
  exact h

/-- Rows of a type stay. -/
def Sm (t : TypeId) (W W' : World) : Prop := ∀ (g : Nat) (cur : Array Value), W.heap[g]? = some (.cells cur t (0, 0)) → W'.heap[g]? = some (.cells cur t (0, 0))
theorem Sm.refl (t : TypeId) (W : World) : Sm t W W := fun _ _ h => h
theorem Sm.trans {t : TypeId} {a b c : World} (h : Sm t a b) (k : Sm t b c) : Sm t a c := fun g cur e => k g cur (h g cur e)
theorem Sm.below {t : TypeId} {a b : World} (h : Below a.heap.size a b) : Sm t a b := fun g _ e => (h.block g (lt_heap e)).trans e
theorem Sm.grown {t : TypeId} {a b : World} {p : Option Nat} (h : a.grownBy b p) (hp : ∀ g cur, p = some g → a.heap[g]? ≠ some (.cells cur t (0, 0))) : Sm t a b := fun g cur e =>
  (h.block g (lt_heap e) (fun q => hp g cur q.symm e)).trans e
theorem Sm.own {t : TypeId} {a b : World} {B e z n : Nat} {v : Value} {xs : List Value} (ho : a.ownsRow B e z v n xs) (hg : a.grownBy b v.ownBlock) (hne : e ≠ t) : Sm t a b :=
  Sm.grown hg (fun g cur q h => by
    obtain ⟨c, h1⟩ := own_kind ho q
    rw [h1] at h
    injection h with h
    injection h with _ h
    exact hne h)
theorem Sm.box {t e : TypeId} {a b : World} {p : Nat} {c : Array Value} (hx : a.heap[p]? = some (.cells c e)) (hg : a.grownBy b (some p)) (hne : e ≠ t) : Sm t a b :=
  Sm.grown hg (fun g cur q h => by
    injection q with q
    subst q
    rw [hx] at h
    injection h with h
    injection h with _ h
    exact hne h)
theorem Sm.set {t e : TypeId} {a : World} {p : Nat} {c : Array Value} (hx : a.heap[p]? = some (.cells c e)) (hne : e ≠ t) (j : Nat) (x : Value) : Sm t a (a.setCell ⟨p, j, none⟩ x) := Sm.box hx (gb_set a p j x) hne
theorem own_sm {W W' : World} {B t z n : Nat} {v : Value} {xs : List Value} (h : W.ownsRow B t z v n xs) (hs : Sm t W W') : W'.ownsRow B t z v n xs := by
  obtain ⟨h1, h2⟩ := h
  refine ⟨h1, ?_⟩
  rcases h2 with h2 | ⟨g, cap, cur, q, h3, h4, r⟩
  · exact .inl h2
  · exact .inr ⟨g, cap, cur, q, h3, hs g cur h4, r⟩

/-- A row that lies in a block of a type. -/
def Ln (W : World) (t : TypeId) (v : Value) (n : Nat) (xs : List Value) : Prop :=
  ∃ ao cp, v = .slice ao n cp ∧ n ≤ cp ∧ (xs = [] ∨ ∃ g off cur, ao = some ⟨g, off, none⟩ ∧ W.heap[g]? = some (.cells cur t (0, 0)) ∧ ∀ j u, xs[j]? = some u → cur[off + j]? = some u)
theorem Ln.nil (W : World) (t : TypeId) : Ln W t (.slice none 0 0) 0 [] := ⟨none, 0, rfl, Nat.le_refl _, .inl rfl⟩
theorem Ln.form {W : World} {t : TypeId} {v : Value} {n : Nat} {xs : List Value} (h : Ln W t v n xs) : ∃ ao cp, v = .slice ao n cp ∧ n ≤ cp := by
  obtain ⟨ao, cp, e, hc, -⟩ := h
  exact ⟨ao, cp, e, hc⟩
theorem Ln.sm {W W' : World} {t : TypeId} {v : Value} {n : Nat} {xs : List Value} (h : Ln W t v n xs) (hs : Sm t W W') : Ln W' t v n xs := by
  obtain ⟨ao, cp, e, hc, h⟩ := h
  refine ⟨ao, cp, e, hc, ?_⟩
  rcases h with h | ⟨g, off, cur, q, h1, h2⟩
  · exact .inl h
  · exact .inr ⟨g, off, cur, q, hs g cur h1, h2⟩
theorem Ln.below {W W' : World} {t : TypeId} {v : Value} {n : Nat} {xs : List Value} (h : Ln W t v n xs) (hb : Below W.heap.size W W') : Ln W' t v n xs := h.sm (Sm.below hb)
theorem Ln.own {W : World} {B t z n : Nat} {v : Value} {xs : List Value} (h : W.ownsRow B t z v n xs) : Ln W t v n xs := by
  obtain ⟨h1, h2⟩ := h
  rcases h2 with ⟨rfl, rfl⟩ | ⟨g, cap, cur, rfl, h3, h4, h5, h6, h7, h8⟩
  · refine ⟨_, _, rfl, Nat.le_refl _, .inl ?_⟩
    apply List.length_eq_zero_iff.1
    omega
  · refine ⟨_, _, rfl, h5, .inr ⟨g, 0, cur, rfl, h4, fun j u hu => ?_⟩⟩
    rw [← h8, List.getElem?_take] at hu
    split at hu
    · rw [Nat.zero_add]; simpa using hu
    · cases hu
/-- Where a cell of it stands. -/
theorem Ln.at {W : World} {t : TypeId} {ao : Option Addr} {n m cp : Nat} {xs : List Value} (h : Ln W t (.slice ao m cp) n xs) {j : Nat} {u : Value} (hu : xs[j]? = some u) : ∃ g off cur, ao = some ⟨g, off, none⟩ ∧ W.heap[g]? = some (.cells cur t (0, 0)) ∧ ∀ i x, xs[i]? = some x → W.cell? ⟨g, off + i, none⟩ = some x := by
  obtain ⟨a, c, e, -, h⟩ := h
  injection e with e1 e2 e3
  subst e1
  rcases h with h | ⟨g, off, cur, q, h1, h2⟩
  · rw [h] at hu; simp at hu
  · exact ⟨g, off, cur, q, h1, fun i x hx => by rw [cell_of_row W g (off + i) cur t (0, 0) h1]; exact h2 i x hx⟩
/-- Its tail. -/
theorem Ln.tail {W : World} {t : TypeId} {g off n cp z : Nat} {xs : List Value} (h : Ln W t (.slice (some ⟨g, off, none⟩) (n + 1) cp) (n + 1) xs) : Ln W t (.slice (some ⟨g, off + z, none⟩) n (cp - 1)) n (xs.drop z) := by
  obtain ⟨a, c, e, hc, h⟩ := h
  injection e with e1 e2 e3
  subst e1
  refine ⟨_, _, rfl, by omega, ?_⟩
  rcases h with h | ⟨g', off', cur, q, h1, h2⟩
  · exact .inl (by rw [h]; simp)
  · injection q with q
    injection q with q1 q2
    subst q1 q2
    refine .inr ⟨_, _, cur, rfl, h1, fun j u hu => ?_⟩
    rw [Nat.add_assoc]
    exact h2 _ _ (by rw [List.getElem?_drop] at hu; exact hu)

theorem flat_at {α : Type} (C : α → List Value) (z : Nat) (hC : ∀ a, (C a).length = z) : ∀ (l : List α) (i : Nat) (x : α), l[i]? = some x → ∀ j, j < z → (l.map C).flatten[i * z + j]? = (C x)[j]?
  | [], i, x, h, j, _ => by simp at h
  | y :: l, 0, x, h, j, hj => by
    simp at h
    subst h
    rw [List.map_cons, List.flatten_cons, Nat.zero_mul, Nat.zero_add, List.getElem?_append_left (by rw [hC]; exact hj)]
  | y :: l, i + 1, x, h, j, hj => by
    rw [List.map_cons, List.flatten_cons, List.getElem?_append_right (by rw [hC, Nat.add_mul]; omega), hC, show (i + 1) * z + j - z = i * z + j by rw [Nat.add_mul]; omega]
    exact flat_at C z hC l i x (by simpa using h) j hj
theorem flat_len {α : Type} (C : α → List Value) (z : Nat) (hC : ∀ a, (C a).length = z) : ∀ (l : List α), (l.map C).flatten.length = l.length * z
  | [] => by simp
  | y :: l => by rw [List.map_cons, List.flatten_cons, List.length_append, hC, flat_len C z hC l, List.length_cons, Nat.add_mul]; omega
theorem flat_app {α : Type} (C : α → List Value) (l : List α) (a : α) : ((l ++ [a]).map C).flatten = (l.map C).flatten ++ C a := by simp
theorem flat_drop {α : Type} (C : α → List Value) (z : Nat) (hC : ∀ a, (C a).length = z) (a : α) (l : List α) : ((a :: l).map C).flatten.drop z = (l.map C).flatten := by
  rw [List.map_cons, List.flatten_cons, List.drop_append_of_le_length (by rw [hC]; exact Nat.le_refl _), List.drop_of_length_le (by rw [hC]; exact Nat.le_refl _), List.nil_append]

/-- A table: rows in blocks of their own. -/
structure Tbl {α : Type} (W : World) (B : Nat) (e : TypeId) (z : Nat) (C : α → List Value) (t : TypeId) (v : Value) (R : List Value) (X : List (List α)) : Prop where
  top : W.ownsRow B t 1 v X.length R
  row : ∀ (i : Nat) (r : Value) (xs : List α), R[i]? = some r → X[i]? = some xs → W.ownsRow B e z r xs.length (xs.map C).flatten
  ne : ∀ (i j : Nat) (r s : Value), i ≠ j → R[i]? = some r → R[j]? = some s → r.ownBlock = none ∨ r.ownBlock ≠ s.ownBlock
theorem Tbl.len {α : Type} {W : World} {B : Nat} {e : TypeId} {z : Nat} {C : α → List Value} {t : TypeId} {v : Value} {R : List Value} {X : List (List α)} (h : Tbl W B e z C t v R X) : R.length = X.length := by have := h.top.1; omega
theorem Tbl.sm {α : Type} {W W' : World} {B : Nat} {e : TypeId} {z : Nat} {C : α → List Value} {t : TypeId} {v : Value} {R : List Value} {X : List (List α)} (h : Tbl W B e z C t v R X) (h1 : Sm t W W') (h2 : Sm e W W') : Tbl W' B e z C t v R X :=
  ⟨own_sm h.top h1, fun i r xs hr hx => own_sm (h.row i r xs hr hx) h2, h.ne⟩
theorem Tbl.below {α : Type} {W W' : World} {B : Nat} {e : TypeId} {z : Nat} {C : α → List Value} {t : TypeId} {v : Value} {R : List Value} {X : List (List α)} (h : Tbl W B e z C t v R X) (hb : Below W.heap.size W W') : Tbl W' B e z C t v R X := h.sm (Sm.below hb) (Sm.below hb)
/-- One element more in one row. -/
theorem Tbl.app {α : Type} {W W' : World} {B : Nat} {e : TypeId} {z : Nat} {C : α → List Value} {t : TypeId} {p n cp : Nat} {R : List Value} {X : List (List α)} (h : Tbl W B e z C t (.slice (some ⟨p, 0, none⟩) n cp) R X) (hte : e ≠ t) {i : Nat} {r r' : Value} {xs : List α} {a : α} {g k : Nat} (hr : R[i]? = some r) (hx : X[i]? = some xs)
    (hv : r' = .slice (some ⟨g, 0, none⟩) (xs.length + 1) k) (ho : W'.ownsRow B e z r' (xs.length + 1) ((xs.map C).flatten ++ C a)) (hg : W.grownBy W' r.ownBlock) (hl : r.ownBlock = some g ∨ g = W.heap.size) :
    Tbl (W'.setCell ⟨p, i, none⟩ r') B e z C t (.slice (some ⟨p, 0, none⟩) n cp) (R.set i r') (X.set i (xs ++ [a])) := by
  have hn : n = X.length := by
    obtain ⟨ao, c, e1⟩ := own_form h.top
    injection e1
  subst hn
  have hS : Sm t W W' := Sm.own (h.row i r xs hr hx) hg hte
  have t1 := own_sm h.top hS
  obtain ⟨cu, hcu⟩ := own_kind t1 (g := p) rfl
  have t2 := (t1.stored i r').1
  have hi : i < R.length := (List.getElem?_eq_some_iff.1 hr).1
  have hSe : Sm e W' (W'.setCell ⟨p, i, none⟩ r') := Sm.set hcu (fun q => hte q.symm) i r'
  have hrb : r'.ownBlock = some g := by rw [hv]; rfl
  have old : ∀ j s ys, j ≠ i → R[j]? = some s → X[j]? = some ys → s.ownBlock = none ∨ s.ownBlock ≠ some g := by
    intro j s ys hj hs hy
    rcases hl with hl | hl
    · rw [← hl]
      exact h.ne j i s r hj hs hr
    · cases hsb : s.ownBlock with
      | none => exact .inl rfl
      | some q =>
        have := (h.row j s ys hs hy).lt q hsb
        right
        intro q2
        injection q2 with q2
        omega
  have hlen := h.len
  refine ⟨by simpa using t2, fun j s ys hs hy => ?_, fun j k s u hjk hs hu => ?_⟩
  · by_cases hj : j = i
    · subst hj
      rw [List.getElem?_set_self hi] at hs
      rw [List.getElem?_set_self (by omega)] at hy
      cases hs
      cases hy
      rw [List.length_append, flat_app]
      exact own_sm ho hSe
    · rw [List.getElem?_set_ne (fun q => hj q.symm)] at hs hy
      have h1 := h.row j s ys hs hy
      refine own_sm (h1.kept hg ?_) hSe
      cases hsb : s.ownBlock with
      | none => exact .inl rfl
      | some q =>
        right
        rw [← hsb]
        rcases h.ne j i s r hj hs hr with q1 | q1
        · rw [hsb] at q1; cases q1
        · exact q1
  · have row : ∀ j s, (R.set i r')[j]? = some s → (j = i ∧ s = r') ∨ (j ≠ i ∧ R[j]? = some s) := by
      intro j s hs
      by_cases hj : j = i
      · subst hj
        rw [List.getElem?_set_self hi] at hs
        cases hs
        exact .inl ⟨rfl, rfl⟩
      · rw [List.getElem?_set_ne (fun q => hj q.symm)] at hs
        exact .inr ⟨hj, hs⟩
    have hX : ∀ j s, R[j]? = some s → ∃ ys, X[j]? = some ys := fun j s hs => by
      have := (List.getElem?_eq_some_iff.1 hs).1
      exact ⟨_, List.getElem?_eq_getElem (show j < X.length by omega)⟩
    rcases row j s hs with ⟨a1, a2⟩ | ⟨a1, a2⟩ <;> rcases row k u hu with ⟨b1, b2⟩ | ⟨b1, b2⟩
    · omega
    · subst a2
      rw [hrb]
      obtain ⟨ys, hy⟩ := hX k u b2
      rcases old k u ys b1 b2 hy with q | q
      · right; rw [q]; simp
      · exact .inr q.symm
    · subst b2
      rw [hrb]
      obtain ⟨ys, hy⟩ := hX j s a2
      exact old j s ys a1 a2 hy
    · exact h.ne j k s u hjk a2 b2
/-- An empty table. -/
theorem Tbl.new {α : Type} {W : World} {B : Nat} {e : TypeId} {z : Nat} {C : α → List Value} {t : TypeId} {v : Value} {n : Nat} (h : W.ownsRow B t 1 v n (List.replicate n (.slice none 0 0))) : Tbl (α := α) W B e z C t v (List.replicate n (.slice none 0 0)) (List.replicate n []) := by
  refine ⟨by simpa using h, fun i r xs hr hx => ?_, fun i j r s _ hr _ => ?_⟩
  · rw [List.getElem?_replicate] at hr hx
    split at hr
    · cases hr
      rw [if_pos ‹_›] at hx
      cases hx
      exact World.ownsRow_nil _ _ _ _
    · cases hr
  · rw [List.getElem?_replicate] at hr
    split at hr
    · cases hr
      exact .inl rfl
    · cases hr
/-- A table that is read. -/
def Tb {α : Type} (W : World) (e : TypeId) (C : α → List Value) (t : TypeId) (v : Value) (X : List (List α)) : Prop :=
  ∃ R : List Value, R.length = X.length ∧ Ln W t v X.length R ∧ ∀ (i : Nat) (r : Value) (xs : List α), R[i]? = some r → X[i]? = some xs → Ln W e r xs.length (xs.map C).flatten
theorem Tb.sm {α : Type} {W W' : World} {e : TypeId} {C : α → List Value} {t : TypeId} {v : Value} {X : List (List α)} (h : Tb W e C t v X) (h1 : Sm t W W') (h2 : Sm e W W') : Tb W' e C t v X := by
  obtain ⟨R, hl, a, b⟩ := h
  exact ⟨R, hl, a.sm h1, fun i r xs hr hx => (b i r xs hr hx).sm h2⟩
theorem Tb.below {α : Type} {W W' : World} {e : TypeId} {C : α → List Value} {t : TypeId} {v : Value} {X : List (List α)} (h : Tb W e C t v X) (hb : Below W.heap.size W W') : Tb W' e C t v X := h.sm (Sm.below hb) (Sm.below hb)
theorem Tbl.rd {α : Type} {W : World} {B : Nat} {e : TypeId} {z : Nat} {C : α → List Value} {t : TypeId} {v : Value} {R : List Value} {X : List (List α)} (h : Tbl W B e z C t v R X) : Tb W e C t v X :=
  ⟨R, h.len, Ln.own h.top, fun i r xs hr hx => Ln.own (h.row i r xs hr hx)⟩
/-- A row of it. -/
theorem Tb.at {α : Type} {W : World} {e : TypeId} {C : α → List Value} {t : TypeId} {ao : Option Addr} {n cp : Nat} {X : List (List α)} (h : Tb W e C t (.slice ao n cp) X) {i : Nat} {xs : List α} (hx : X[i]? = some xs) : ∃ g off r, ao = some ⟨g, off, none⟩ ∧ g < W.heap.size ∧ W.cell? ⟨g, off + i, none⟩ = some r ∧ Ln W e r xs.length (xs.map C).flatten := by
  obtain ⟨R, hl, a, b⟩ := h
  have hi : i < R.length := by rw [hl]; exact (List.getElem?_eq_some_iff.1 hx).1
  have hr : R[i]? = some R[i] := by simp [hi]
  obtain ⟨g, off, cur, e1, h1, h2⟩ := a.at hr
  exact ⟨g, off, R[i], e1, lt_heap h1, h2 i _ hr, b i _ xs hr hx⟩
theorem Tb.form {α : Type} {W : World} {e : TypeId} {C : α → List Value} {t : TypeId} {v : Value} {X : List (List α)} (h : Tb W e C t v X) : ∃ ao cp, v = .slice ao X.length cp ∧ X.length ≤ cp := by
  obtain ⟨R, hl, a, b⟩ := h
  exact a.form
/-! ### Rows that are made -/
theorem made_list (z : Value) (sz n : Nat) (h : z.cells.size = sz) (h0 : 0 < sz) : (madeCells z.cells (n * sz)).toList = ((List.replicate n ()).map fun _ => z.cells.toList).flatten := by
  apply List.ext_getElem?
  intro j
  have hC : ∀ a : Unit, ((fun _ : Unit => z.cells.toList) a).length = sz := fun _ => by simpa using h
  by_cases hj : j < n * sz
  · have h1 : j / sz < n := by rw [Nat.div_lt_iff_lt_mul h0]; exact hj
    have h2 : j % sz < sz := Nat.mod_lt _ h0
    have h3 := flat_at (fun _ : Unit => z.cells.toList) sz hC (List.replicate n ()) (j / sz) () (by simp [h1]) (j % sz) h2
    rw [show j / sz * sz + j % sz = j by rw [Nat.mul_comm]; exact Nat.div_add_mod j sz] at h3
    rw [h3]
    subst h
    rw [show (madeCells z.cells (n * z.cells.size)).toList[j]? = some z.cells[j % z.cells.size]! by simp [madeCells, hj]]
    simp [h2]
  · have h1 : (((List.replicate n ()).map fun _ => z.cells.toList).flatten).length = n * sz := by
      rw [flat_len (fun _ : Unit => z.cells.toList) sz hC]; simp
    have h2 : (madeCells z.cells (n * sz)).toList.length = n * sz := by simp [madeCells]
    rw [List.getElem?_eq_none (by rw [h2]; omega), List.getElem?_eq_none (by rw [h1]; omega)]
theorem make_any {t e B sz : Nat} {z : Value} (hu : Tryd.prog.underlying t = some (.slice e)) (hinfo : (Tryd.prog.info? e).map (fun i => (i.zero, i.size, i.bytes)) = some (some z, sz, B)) (hz : z.cells.size = sz) (h0 : 0 < sz) (hB : B ≤ 100) (n : Nat) (hn : n ≤ 1099511627776) :
    ∃ Z : Array Value, Z.toList = ((List.replicate n ()).map fun _ => z.cells.toList).flatten ∧ Z.size = n * sz ∧ ∀ W : World, (Instr.makeSlice t (.int .i64 (n : Int)) (.int .i64 (n : Int))).run Tryd.prog W = .ok (.slice (some ⟨W.heap.size, 0, none⟩) n n) (W.alloc (.cells Z e)) := by
  obtain ⟨i0, hi, hz0, hz1, hz2⟩ := info_parts hinfo
  refine ⟨madeCells z.cells (n * sz), made_list z sz n hz h0, by simp [madeCells], fun W => ?_⟩
  have hm : (i0.bytes : Int) * (n : Int) ≤ 281474976710656 := by
    rw [hz2]
    have h1 : (B : Int) * (n : Int) ≤ 100 * (n : Int) := Int.mul_le_mul_of_nonneg_right (by omega) (by omega)
    omega
  have h := run_make (P := Tryd.prog) W t e i0 _ hu hi hz0 .i64 .i64 (n : Int) (n : Int) (by omega) (by omega) hm (by omega)
  rw [hz1, Int.toNat_natCast] at h
  exact h
theorem own_made {Z : Array Value} {W : World} {e sz n B : Nat} {L : List Value} (h1 : Z.toList = L) (h2 : Z.size = n * sz) (hn : n ≤ 1099511627776) (hB : B ≤ W.heap.size) : (W.alloc (.cells Z e)).ownsRow B e sz (.slice (some ⟨W.heap.size, 0, none⟩) n n) n L := by
  rw [← h1]
  exact World.ownsRow_lit W Z n hB (by unfold maxLen; omega) h2
end Go.Proofs.YtjimolafoihnpaaDoor.tc
