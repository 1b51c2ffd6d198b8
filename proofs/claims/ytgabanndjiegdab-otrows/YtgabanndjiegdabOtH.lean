/-
  What composed has on its way. No walk.
-/
import Derived.Test.YtgabanndjiegdabOtG
namespace Go.Proofs.Ytgabanndjiegdab
open Go.ChangeShapes Go.WideShapes Go.ChangeAt Go.RowKit Go.PlainAid

/-- How long a word's target is. -/
def tgtU : List U → Nat
  | [] => 0
  | .R :: l => tgtU l
  | .K :: l => tgtU l + 1
  | .I _ :: l => tgtU l + 1

/-- a and then b. -/
def cmp : List U → List U → List U
  | .R :: a, b => .R :: cmp a b
  | [], .I z :: b => .I z :: cmp [] b
  | .K :: a, .I z :: b => .I z :: cmp (.K :: a) b
  | .I y :: a, .I z :: b => .I z :: cmp (.I y :: a) b
  | .K :: a, .K :: b => .K :: cmp a b
  | .I z :: a, .K :: b => .I z :: cmp a b
  | .K :: a, .R :: b => .R :: cmp a b
  | .I _ :: a, .R :: b => cmp a b
  | _, _ => []
termination_by a b => a.length + b.length

def OpD.cs (o : OpD) : Array Value := #[.int .i64 o.k, .int .i64 o.n, .string o.t]

/-- Two units' cells, two rows of units to come, and the delta that grows. -/
structure Cm (w W : World) (bx by' pA qA pB qB : Nat) (X Y : OpD) (LA LB : List U) (d : Value) (D : List OpD) (BA BB : List Nat) : Prop where
  own : W.ownsRow w.heap.size 35 3 d D.length (ocs D)
  cx : W.heap[bx]? = some (.cells X.cs 35 (0, 0))
  cy : W.heap[by']? = some (.cells Y.cs 35 (0, 0))
  ia : ItL W pA qA LA BA
  ib : ItL W pB qB LB BB
  dj : ∀ g ∈ BA, g ∉ BB
  xa : bx ∉ BA ∧ bx ∉ BB ∧ by' ∉ BA ∧ by' ∉ BB ∧ bx ≠ by'
  da : ∀ g, d.ownBlock = some g → g ∉ BA ∧ g ∉ BB ∧ g ≠ bx ∧ g ≠ by'
  bel : Below w.heap.size w W
  hi : w.heap.size ≤ pA ∧ w.heap.size ≤ qA ∧ w.heap.size ≤ pB ∧ w.heap.size ≤ qB ∧ w.heap.size ≤ bx ∧ w.heap.size ≤ by'

section
variable {w W W' : World} {bx by' pA qA pB qB : Nat} {X Y : OpD} {LA LB L' : List U} {d : Value} {D : List OpD} {BA BB B' : List Nat}
theorem Cm.le (h : Cm w W bx by' pA qA pB qB X Y LA LB d D BA BB) : w.heap.size ≤ W.heap.size := h.bel.size
theorem Cm.cellsX (h : Cm w W bx by' pA qA pB qB X Y LA LB d D BA BB) : W.cell? ⟨bx, 0, none⟩ = some (.int .i64 X.k) ∧ W.cell? ⟨bx, 1, none⟩ = some (.int .i64 X.n) ∧ W.cell? ⟨bx, 2, none⟩ = some (.string X.t) :=
  ⟨cell_of_row _ _ 0 _ _ (0, 0) h.cx, cell_of_row _ _ 1 _ _ (0, 0) h.cx, cell_of_row _ _ 2 _ _ (0, 0) h.cx⟩
theorem Cm.cellsY (h : Cm w W bx by' pA qA pB qB X Y LA LB d D BA BB) : W.cell? ⟨by', 0, none⟩ = some (.int .i64 Y.k) ∧ W.cell? ⟨by', 1, none⟩ = some (.int .i64 Y.n) ∧ W.cell? ⟨by', 2, none⟩ = some (.string Y.t) :=
  ⟨cell_of_row _ _ 0 _ _ (0, 0) h.cy, cell_of_row _ _ 1 _ _ (0, 0) h.cy, cell_of_row _ _ 2 _ _ (0, 0) h.cy⟩
theorem Cm.callA (h : Cm w W bx by' pA qA pB qB X Y LA LB d D BA BB) (ho : Only [pA, qA] W W') (hi : ItL W' pA qA L' B') (hB : ∀ g ∈ B', g ∈ BA ∨ W.heap.size ≤ g) : Cm w W' bx by' pA qA pB qB X Y L' LB d D B' BB := by
  obtain ⟨hpa, hqa, _⟩ := h.ia.in
  obtain ⟨_, _, hlb⟩ := h.ib.in
  have hxa := h.xa
  have hhi := h.hi
  have hlx := heap_lt h.cx
  have hly := heap_lt h.cy
  have hn : ∀ g, g ∉ BA → g ∉ [pA, qA] := fun g hg hm => by
    simp only [List.mem_cons, List.not_mem_nil, or_false] at hm
    rcases hm with rfl | rfl
    · exact hg hpa
    · exact hg hqa
  have hd : ∀ g, d.ownBlock = some g → g < W.heap.size := fun g e => (h.own.lt g e).2
  have hf : ∀ g, g < W.heap.size → g ∉ BA → g ∉ B' := fun g hl hg hm => (hB g hm).elim hg (fun h => by omega)
  exact ⟨own_only h.own ho (fun g e => hn g (h.da g e).1), only_heap h.cx ho (hn _ hxa.1), only_heap h.cy ho (hn _ hxa.2.2.1), hi, h.ib.only ho (fun g hg => hn g (fun hm => h.dj g hm hg)),
    fun g hg hb => (hB g hg).elim (fun hm => h.dj g hm hb) (fun hl => by have := hlb g hb; omega), ⟨hf _ hlx hxa.1, hxa.2.1, hf _ hly hxa.2.2.1, hxa.2.2.2⟩,
    fun g e => ⟨hf g (hd g e) (h.da g e).1, (h.da g e).2⟩, h.bel.trans (ho.below h.le (by simp; omega)), hhi⟩
theorem Cm.callB (h : Cm w W bx by' pA qA pB qB X Y LA LB d D BA BB) (ho : Only [pB, qB] W W') (hi : ItL W' pB qB L' B') (hB : ∀ g ∈ B', g ∈ BB ∨ W.heap.size ≤ g) : Cm w W' bx by' pA qA pB qB X Y LA L' d D BA B' := by
  obtain ⟨hpb, hqb, _⟩ := h.ib.in
  obtain ⟨_, _, hla⟩ := h.ia.in
  have hxa := h.xa
  have hhi := h.hi
  have hlx := heap_lt h.cx
  have hly := heap_lt h.cy
  have hn : ∀ g, g ∉ BB → g ∉ [pB, qB] := fun g hg hm => by
    simp only [List.mem_cons, List.not_mem_nil, or_false] at hm
    rcases hm with rfl | rfl
    · exact hg hpb
    · exact hg hqb
  have hd : ∀ g, d.ownBlock = some g → g < W.heap.size := fun g e => (h.own.lt g e).2
  have hf : ∀ g, g < W.heap.size → g ∉ BB → g ∉ B' := fun g hl hg hm => (hB g hm).elim hg (fun h => by omega)
  exact ⟨own_only h.own ho (fun g e => hn g (h.da g e).2.1), only_heap h.cx ho (hn _ hxa.2.1), only_heap h.cy ho (hn _ hxa.2.2.2.1), h.ia.only ho (fun g hg => hn g (h.dj g hg)), hi,
    fun g hg => hf g (hla g hg) (h.dj g hg), ⟨hxa.1, hf _ hlx hxa.2.1, hxa.2.2.1, hf _ hly hxa.2.2.2.1, hxa.2.2.2.2⟩,
    fun g e => ⟨(h.da g e).1, hf g (hd g e) (h.da g e).2.1, (h.da g e).2.2⟩, h.bel.trans (ho.below h.le (by simp; omega)), hhi⟩
theorem Cm.app {o : OpD} {x : Obj} {g cap : Nat} (h : Cm w W bx by' pA qA pB qB X Y LA LB d D BA BB)
    (ho : W'.ownsRow w.heap.size 35 3 (.slice (some ⟨g, 0, none⟩) (D.length + 1) cap) (D.length + 1) (ocs D ++ [Value.int .i64 o.k, .int .i64 o.n, .string o.t])) (hg : (W.alloc x).grownBy W' d.ownBlock) (hl : d.ownBlock = some g ∨ g = W.heap.size + 1) :
    Cm w W' bx by' pA qA pB qB X Y LA LB (.slice (some ⟨g, 0, none⟩) (D.length + 1) cap) (D ++ [o]) BA BB := by
  have hO : Only d.ownBlock.toList W W' := (Only.alloc _ W x).trans (Only.of_grown hg (fun k e => by simp [e]))
  have hn : ∀ (B : List Nat), (∀ g, d.ownBlock = some g → g ∉ B) → ∀ g ∈ B, g ∉ d.ownBlock.toList := fun B hB g hg hm => hB g (by simpa using hm) hg
  have hlx := heap_lt h.cx
  have hly := heap_lt h.cy
  obtain ⟨_, _, hla⟩ := h.ia.in
  obtain ⟨_, _, hlb⟩ := h.ib.in
  have hx : bx ∉ d.ownBlock.toList := fun hm => (h.da bx (by simpa using hm)).2.2.1 rfl
  have hy : by' ∉ d.ownBlock.toList := fun hm => (h.da by' (by simpa using hm)).2.2.2 rfl
  refine ⟨own_op ho rfl, only_heap h.cx hO hx, only_heap h.cy hO hy, h.ia.only hO (hn BA (fun g e => (h.da g e).1)), h.ib.only hO (hn BB (fun g e => (h.da g e).2.1)), h.dj, h.xa, ?_, h.bel.trans (hO.below h.le (fun k hk => (h.own.lt k (by simpa using hk)).1)), h.hi⟩
  intro g' e
  have e' : g = g' := by simpa [Value.ownBlock] using e
  subst e'
  rcases hl with hl | hl
  · exact h.da g hl
  · exact ⟨fun hm => by have := hla g hm; omega, fun hm => by have := hlb g hm; omega, by omega, by omega⟩
theorem Cm.storeX (h : Cm w W bx by' pA qA pB qB X Y LA LB d D BA BB) (Z : OpD) : Cm w (W.setRow bx Z.cs) bx by' pA qA pB qB Z Y LA LB d D BA BB := by
  have hO : Only [bx] W (W.setRow bx Z.cs) := ⟨rfl, rfl, rfl, by simp, fun k _ hn => setRow_other _ _ _ _ (by simpa using hn)⟩
  have hxa := h.xa
  exact ⟨own_only h.own hO (fun g e => by simp; exact (h.da g e).2.2.1), setRow_heap _ _ _ _ _ _ h.cx, only_heap h.cy hO (by simp; exact fun e => hxa.2.2.2.2 e.symm), h.ia.only hO (fun g hg => by simp; exact fun e => hxa.1 (e ▸ hg)), h.ib.only hO (fun g hg => by simp; exact fun e => hxa.2.1 (e ▸ hg)), h.dj, h.xa, h.da, h.bel.trans (hO.below h.le (by simp; exact h.hi.2.2.2.2.1)), h.hi⟩
theorem Cm.storeY (h : Cm w W bx by' pA qA pB qB X Y LA LB d D BA BB) (Z : OpD) : Cm w (W.setRow by' Z.cs) bx by' pA qA pB qB X Z LA LB d D BA BB := by
  have hO : Only [by'] W (W.setRow by' Z.cs) := ⟨rfl, rfl, rfl, by simp, fun k _ hn => setRow_other _ _ _ _ (by simpa using hn)⟩
  have hxa := h.xa
  exact ⟨own_only h.own hO (fun g e => by simp; exact (h.da g e).2.2.2), only_heap h.cx hO (by simp; exact hxa.2.2.2.2), setRow_heap _ _ _ _ _ _ h.cy, h.ia.only hO (fun g hg => by simp; exact fun e => hxa.2.2.1 (e ▸ hg)), h.ib.only hO (fun g hg => by simp; exact fun e => hxa.2.2.2.1 (e ▸ hg)), h.dj, h.xa, h.da, h.bel.trans (hO.below h.le (by simp; exact h.hi.2.2.2.2.2)), h.hi⟩
end
end Go.Proofs.Ytgabanndjiegdab
