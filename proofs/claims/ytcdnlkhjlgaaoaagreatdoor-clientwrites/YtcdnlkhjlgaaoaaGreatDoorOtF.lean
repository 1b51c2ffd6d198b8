/-
  The contract of what units gives.
-/
import Derived.Test.YtcdnlkhjlgaaoaaGreatDoorOtB
import Derived.Deep.RegionWith
import Derived.Deep.DeepCutAuto
import Derived.Deep.AppendLies
import Derived.Deep.LoopGhost
namespace Go.Proofs.YtcdnlkhjlgaaoaaGreatDoor
open Go.ChangeShapes Go.WideShapes Go.ChangeAt Go.RowKit Go.PlainAid

/-- What is answered behind the last one. -/
def zop : OpD := ⟨0, 0, ⟨#[]⟩⟩
def hdU : List U → OpD
  | [] => zop
  | u :: _ => uop u



theorem loaded {w w1 : World} {p q : Nat} {R : List U} {ds : List St} {rv dv : Value} {B : List Nat} {Z : Obj} (h : It w p q R ds rv dv B) (hb : Below (w.alloc Z).drew.heap.size (w.alloc Z).drew w1) :
    w1.cell? ⟨q, 0, none⟩ = some dv ∧ w1.cell? ⟨p, 0, none⟩ = some rv ∧ w1.frozen? ⟨p, 0, none⟩ = false ∧ w1.frozen? ⟨q, 0, none⟩ = false ∧ ∀ v, (w1.setCell ⟨p, 0, none⟩ v).cell? ⟨q, 0, none⟩ = some dv := by
  have hlp := h.lt p h.pb
  have hlq := h.lt q h.qb
  have hs : (w.alloc Z).drew.heap.size = w.heap.size + 1 := by show (w.alloc Z).heap.size = _; simp
  have hp : w1.heap[p]? = _ := ((hb.block p (by omega)).trans (Below.heap_alloc w Z p hlp)).trans h.cp
  have hq : w1.heap[q]? = _ := ((hb.block q (by omega)).trans (Below.heap_alloc w Z q hlq)).trans h.cq
  exact ⟨cell_of_row _ _ 0 _ _ (0, 0) hq, cell_of_row _ _ 0 _ _ (0, 0) hp, frz hp 0, frz hq 0, fun v => cell_of_row _ _ 0 _ _ (0, 0) (only_heap hq (Only.setCell (S := [p]) w1 (by simp) v) (by simp; exact fun e => h.ne e.symm))⟩

/-- Behind unitsOf and the two stores. -/
def Ld (w wx : World) (p q : Nat) (s : St) (ds : List St) (B : List Nat) : Prop :=
  ∃ rv dv B', It wx p q s.u ds rv dv B' ∧ (∀ g ∈ B', g ∈ B ∨ w.heap.size < g) ∧ wx.heap[w.heap.size]? = some (.cells #[.int .i64 0, .int .i64 0, .string ⟨#[]⟩] 59) ∧ Only [p, q] w wx
theorem ld_of {w w1 : World} {p q : Nat} {s : St} {ds : List St} {rv dv rv' dv' : Value} {B : List Nat} (h : It w p q [] (s :: ds) rv dv B) (hb : Below (w.alloc (.cells #[.int .i64 0, .int .i64 0, .string ⟨#[]⟩] 59)).drew.heap.size (w.alloc (.cells #[.int .i64 0, .int .i64 0, .string ⟨#[]⟩] 59)).drew w1)
    (ho : w1.ownsRow (w.alloc (.cells #[.int .i64 0, .int .i64 0, .string ⟨#[]⟩] 59)).drew.heap.size 59 3 rv' s.u.length (ocs (s.u.map uop))) (hd : RdD w dv' (ds.map St.op)) (hdb : dv'.ownBlock = dv.ownBlock) :
    Ld w ((w1.setCell ⟨p, 0, none⟩ rv').setCell ⟨q, 0, none⟩ dv') p q s ds B := by
  have hlp := h.lt p h.pb
  have hlq := h.lt q h.qb
  have hA : ∀ S, Only S w (w.alloc (.cells #[.int .i64 0, .int .i64 0, .string ⟨#[]⟩] 59)).drew := fun S => (Only.alloc S w _).trans (Only.drew S _)
  have hs : (w.alloc (.cells #[.int .i64 0, .int .i64 0, .string ⟨#[]⟩] 59)).drew.heap.size = w.heap.size + 1 := by show (w.alloc _).heap.size = _; simp
  have hn : (w.alloc (.cells #[.int .i64 0, .int .i64 0, .string ⟨#[]⟩] 59)).drew.heap[w.heap.size]? = some (.cells #[.int .i64 0, .int .i64 0, .string ⟨#[]⟩] 59) := heap_alloc_new w _
  have h' := h.only (hA []) (by simp)
  have hd2 := rdd_only hd (hA []) (by simp)
  obtain ⟨B', hI, hB⟩ := h'.load hb ho hd2 hdb
  have hO2 : Only [p, q] w1 ((w1.setCell ⟨p, 0, none⟩ rv').setCell ⟨q, 0, none⟩ dv') := (Only.setCell _ (by simp) _).trans (Only.setCell _ (by simp) _)
  refine ⟨_, _, B', hI, fun g hg => (hB g hg).imp id (fun e => by omega), ?_, ((hA _).trans (Only.of_below hb)).trans hO2⟩
  exact only_heap ((hb.block _ (by omega)).trans hn) hO2 (by simp; omega)


end Go.Proofs.YtcdnlkhjlgaaoaaGreatDoor

/-
  units; the store of an operation.
-/
namespace Go.Proofs.YtcdnlkhjlgaaoaaGreatDoor
open Go.ChangeShapes Go.WideShapes Go.ChangeAt Go.RowKit Go.PlainAid

theorem ItL.in {W : World} {p q : Nat} {L : List U} {B : List Nat} (h : ItL W p q L B) : p ∈ B ∧ q ∈ B ∧ ∀ g ∈ B, g < W.heap.size := by
  obtain ⟨R, ds, rv, dv, e, h⟩ := h
  exact ⟨h.pb, h.qb, h.lt⟩


/-- A whole operation is stored. -/
theorem run_store3 (w : World) (b : Nat) (k n t : Value) (cur : Array Value) (hb : w.heap[b]? = some (.cells cur 59 (0, 0))) (hs : cur.size = 3) (h1 : ∀ v ∈ [k, n, t], v.oneCell' = true) :
    (storeCells ⟨b, 0, none⟩ [k, n, t]).run Tryz.prog w = .ok () (w.setRow b #[k, n, t]) := by
  have h := run_storeCells_at Tryz.prog b 0 59 [k, n, t] 0 cur w hb (by simp [hs]) h1
  rw [h]
  congr 2
  apply Array.ext'
  simp only [Nat.add_zero, List.take_zero, List.nil_append, List.length_cons, List.length_nil]
  rw [List.drop_of_length_le (by simp [hs])]
  simp
end Go.Proofs.YtcdnlkhjlgaaoaaGreatDoor

/-
  What composed has on its way. No walk.
-/
namespace Go.Proofs.YtcdnlkhjlgaaoaaGreatDoor
open Go.ChangeShapes Go.WideShapes Go.ChangeAt Go.RowKit Go.PlainAid

/-- How long a word's target is. -/
def tgtU : List U → Nat
  | [] => 0
  | .R :: l => tgtU l
  | .K :: l => tgtU l + 1
  | .I _ :: l => tgtU l + 1

/-- a and then b. -/
def cmp : List U → List U → List U
  | .R :: a, b => .R :: cmp a b
  | [], .I z :: b => .I z :: cmp [] b
  | .K :: a, .I z :: b => .I z :: cmp (.K :: a) b
  | .I y :: a, .I z :: b => .I z :: cmp (.I y :: a) b
  | .K :: a, .K :: b => .K :: cmp a b
  | .I z :: a, .K :: b => .I z :: cmp a b
  | .K :: a, .R :: b => .R :: cmp a b
  | .I _ :: a, .R :: b => cmp a b
  | _, _ => []
termination_by a b => a.length + b.length

def OpD.cs (o : OpD) : Array Value := #[.int .i64 o.k, .int .i64 o.n, .string o.t]

/-- Two units' cells, two rows of units to come, and the delta that grows. -/
structure Cm (w W : World) (bx by' pA qA pB qB : Nat) (X Y : OpD) (LA LB : List U) (d : Value) (D : List OpD) (BA BB : List Nat) : Prop where
  own : W.ownsRow w.heap.size 59 3 d D.length (ocs D)
  cx : W.heap[bx]? = some (.cells X.cs 59 (0, 0))
  cy : W.heap[by']? = some (.cells Y.cs 59 (0, 0))
  ia : ItL W pA qA LA BA
  ib : ItL W pB qB LB BB
  dj : ∀ g ∈ BA, g ∉ BB
  xa : bx ∉ BA ∧ bx ∉ BB ∧ by' ∉ BA ∧ by' ∉ BB ∧ bx ≠ by'
  da : ∀ g, d.ownBlock = some g → g ∉ BA ∧ g ∉ BB ∧ g ≠ bx ∧ g ≠ by'
  bel : Below w.heap.size w W
  hi : w.heap.size ≤ pA ∧ w.heap.size ≤ qA ∧ w.heap.size ≤ pB ∧ w.heap.size ≤ qB ∧ w.heap.size ≤ bx ∧ w.heap.size ≤ by'

section
variable {w W W' : World} {bx by' pA qA pB qB : Nat} {X Y : OpD} {LA LB L' : List U} {d : Value} {D : List OpD} {BA BB B' : List Nat}
theorem Cm.le (h : Cm w W bx by' pA qA pB qB X Y LA LB d D BA BB) : w.heap.size ≤ W.heap.size := h.bel.size
theorem Cm.cellsX (h : Cm w W bx by' pA qA pB qB X Y LA LB d D BA BB) : W.cell? ⟨bx, 0, none⟩ = some (.int .i64 X.k) ∧ W.cell? ⟨bx, 1, none⟩ = some (.int .i64 X.n) ∧ W.cell? ⟨bx, 2, none⟩ = some (.string X.t) :=
  ⟨cell_of_row _ _ 0 _ _ (0, 0) h.cx, cell_of_row _ _ 1 _ _ (0, 0) h.cx, cell_of_row _ _ 2 _ _ (0, 0) h.cx⟩
theorem Cm.cellsY (h : Cm w W bx by' pA qA pB qB X Y LA LB d D BA BB) : W.cell? ⟨by', 0, none⟩ = some (.int .i64 Y.k) ∧ W.cell? ⟨by', 1, none⟩ = some (.int .i64 Y.n) ∧ W.cell? ⟨by', 2, none⟩ = some (.string Y.t) :=
  ⟨cell_of_row _ _ 0 _ _ (0, 0) h.cy, cell_of_row _ _ 1 _ _ (0, 0) h.cy, cell_of_row _ _ 2 _ _ (0, 0) h.cy⟩
theorem Cm.callA (h : Cm w W bx by' pA qA pB qB X Y LA LB d D BA BB) (ho : Only [pA, qA] W W') (hi : ItL W' pA qA L' B') (hB : ∀ g ∈ B', g ∈ BA ∨ W.heap.size ≤ g) : Cm w W' bx by' pA qA pB qB X Y L' LB d D B' BB := by
  obtain ⟨hpa, hqa, _⟩ := h.ia.in
  obtain ⟨_, _, hlb⟩ := h.ib.in
  have hxa := h.xa
  have hhi := h.hi
  have hlx := heap_lt h.cx
  have hly := heap_lt h.cy
  have hn : ∀ g, g ∉ BA → g ∉ [pA, qA] := fun g hg hm => by
    simp only [List.mem_cons, List.not_mem_nil, or_false] at hm
    rcases hm with rfl | rfl
    · exact hg hpa
    · exact hg hqa
  have hd : ∀ g, d.ownBlock = some g → g < W.heap.size := fun g e => (h.own.lt g e).2
  have hf : ∀ g, g < W.heap.size → g ∉ BA → g ∉ B' := fun g hl hg hm => (hB g hm).elim hg (fun h => by omega)
  exact ⟨own_only h.own ho (fun g e => hn g (h.da g e).1), only_heap h.cx ho (hn _ hxa.1), only_heap h.cy ho (hn _ hxa.2.2.1), hi, h.ib.only ho (fun g hg => hn g (fun hm => h.dj g hm hg)),
    fun g hg hb => (hB g hg).elim (fun hm => h.dj g hm hb) (fun hl => by have := hlb g hb; omega), ⟨hf _ hlx hxa.1, hxa.2.1, hf _ hly hxa.2.2.1, hxa.2.2.2⟩,
    fun g e => ⟨hf g (hd g e) (h.da g e).1, (h.da g e).2⟩, h.bel.trans (ho.below h.le (by simp; omega)), hhi⟩
theorem Cm.callB (h : Cm w W bx by' pA qA pB qB X Y LA LB d D BA BB) (ho : Only [pB, qB] W W') (hi : ItL W' pB qB L' B') (hB : ∀ g ∈ B', g ∈ BB ∨ W.heap.size ≤ g) : Cm w W' bx by' pA qA pB qB X Y LA L' d D BA B' := by
  obtain ⟨hpb, hqb, _⟩ := h.ib.in
  obtain ⟨_, _, hla⟩ := h.ia.in
  have hxa := h.xa
  have hhi := h.hi
  have hlx := heap_lt h.cx
  have hly := heap_lt h.cy
  have hn : ∀ g, g ∉ BB → g ∉ [pB, qB] := fun g hg hm => by
    simp only [List.mem_cons, List.not_mem_nil, or_false] at hm
    rcases hm with rfl | rfl
    · exact hg hpb
    · exact hg hqb
  have hd : ∀ g, d.ownBlock = some g → g < W.heap.size := fun g e => (h.own.lt g e).2
  have hf : ∀ g, g < W.heap.size → g ∉ BB → g ∉ B' := fun g hl hg hm => (hB g hm).elim hg (fun h => by omega)
  exact ⟨own_only h.own ho (fun g e => hn g (h.da g e).2.1), only_heap h.cx ho (hn _ hxa.2.1), only_heap h.cy ho (hn _ hxa.2.2.2.1), h.ia.only ho (fun g hg => hn g (h.dj g hg)), hi,
    fun g hg => hf g (hla g hg) (h.dj g hg), ⟨hxa.1, hf _ hlx hxa.2.1, hxa.2.2.1, hf _ hly hxa.2.2.2.1, hxa.2.2.2.2⟩,
    fun g e => ⟨(h.da g e).1, hf g (hd g e) (h.da g e).2.1, (h.da g e).2.2⟩, h.bel.trans (ho.below h.le (by simp; omega)), hhi⟩
theorem Cm.app {o : OpD} {x : Obj} {g cap : Nat} (h : Cm w W bx by' pA qA pB qB X Y LA LB d D BA BB)
    (ho : W'.ownsRow w.heap.size 59 3 (.slice (some ⟨g, 0, none⟩) (D.length + 1) cap) (D.length + 1) (ocs D ++ [Value.int .i64 o.k, .int .i64 o.n, .string o.t])) (hg : (W.alloc x).grownBy W' d.ownBlock) (hl : d.ownBlock = some g ∨ g = W.heap.size + 1) :
    Cm w W' bx by' pA qA pB qB X Y LA LB (.slice (some ⟨g, 0, none⟩) (D.length + 1) cap) (D ++ [o]) BA BB := by
  have hO : Only d.ownBlock.toList W W' := (Only.alloc _ W x).trans (Only.of_grown hg (fun k e => by simp [e]))
  have hn : ∀ (B : List Nat), (∀ g, d.ownBlock = some g → g ∉ B) → ∀ g ∈ B, g ∉ d.ownBlock.toList := fun B hB g hg hm => hB g (by simpa using hm) hg
  have hlx := heap_lt h.cx
  have hly := heap_lt h.cy
  obtain ⟨_, _, hla⟩ := h.ia.in
  obtain ⟨_, _, hlb⟩ := h.ib.in
  have hx : bx ∉ d.ownBlock.toList := fun hm => (h.da bx (by simpa using hm)).2.2.1 rfl
  have hy : by' ∉ d.ownBlock.toList := fun hm => (h.da by' (by simpa using hm)).2.2.2 rfl
  refine ⟨own_op ho rfl, only_heap h.cx hO hx, only_heap h.cy hO hy, h.ia.only hO (hn BA (fun g e => (h.da g e).1)), h.ib.only hO (hn BB (fun g e => (h.da g e).2.1)), h.dj, h.xa, ?_, h.bel.trans (hO.below h.le (fun k hk => (h.own.lt k (by simpa using hk)).1)), h.hi⟩
  intro g' e
  have e' : g = g' := by simpa [Value.ownBlock] using e
  subst e'
  rcases hl with hl | hl
  · exact h.da g hl
  · exact ⟨fun hm => by have := hla g hm; omega, fun hm => by have := hlb g hm; omega, by omega, by omega⟩
theorem Cm.storeX (h : Cm w W bx by' pA qA pB qB X Y LA LB d D BA BB) (Z : OpD) : Cm w (W.setRow bx Z.cs) bx by' pA qA pB qB Z Y LA LB d D BA BB := by
  have hO : Only [bx] W (W.setRow bx Z.cs) := ⟨rfl, rfl, rfl, by simp, fun k _ hn => setRow_other _ _ _ _ (by simpa using hn)⟩
  have hxa := h.xa
  exact ⟨own_only h.own hO (fun g e => by simp; exact (h.da g e).2.2.1), setRow_heap _ _ _ _ _ _ h.cx, only_heap h.cy hO (by simp; exact fun e => hxa.2.2.2.2 e.symm), h.ia.only hO (fun g hg => by simp; exact fun e => hxa.1 (e ▸ hg)), h.ib.only hO (fun g hg => by simp; exact fun e => hxa.2.1 (e ▸ hg)), h.dj, h.xa, h.da, h.bel.trans (hO.below h.le (by simp; exact h.hi.2.2.2.2.1)), h.hi⟩
theorem Cm.storeY (h : Cm w W bx by' pA qA pB qB X Y LA LB d D BA BB) (Z : OpD) : Cm w (W.setRow by' Z.cs) bx by' pA qA pB qB X Z LA LB d D BA BB := by
  have hO : Only [by'] W (W.setRow by' Z.cs) := ⟨rfl, rfl, rfl, by simp, fun k _ hn => setRow_other _ _ _ _ (by simpa using hn)⟩
  have hxa := h.xa
  exact ⟨own_only h.own hO (fun g e => by simp; exact (h.da g e).2.2.2), only_heap h.cx hO (by simp; exact hxa.2.2.2.2), setRow_heap _ _ _ _ _ _ h.cy, h.ia.only hO (fun g hg => by simp; exact fun e => hxa.2.2.1 (e ▸ hg)), h.ib.only hO (fun g hg => by simp; exact fun e => hxa.2.2.2.1 (e ▸ hg)), h.dj, h.xa, h.da, h.bel.trans (hO.below h.le (by simp; exact h.hi.2.2.2.2.2)), h.hi⟩
end
end Go.Proofs.YtcdnlkhjlgaaoaaGreatDoor
