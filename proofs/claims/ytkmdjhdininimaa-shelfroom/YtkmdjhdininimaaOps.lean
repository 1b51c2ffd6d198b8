/-
  The walk's laws for an array as one value (laid, stored, loaded, filled from a text), for a look-up in a map of sectors, for clear; a frame 'Only S': no block but those of S has turned.
-/
import Derived.Test.YtkmdjhdininimaaMap
import Derived.WalkKit
import Derived.Deep.WholeRow
import Derived.Laws.CopyRow
import Derived.Laws.CopyOwn
import Derived.Maps.OwnOps
import Derived.StillTail
namespace Go.Proofs.Ytkmdjhdininimaa
open Go.Maps Go.RowKit

section
variable {P : Program} {ops : Array Oper} {rest : List Oper} {o : Oper} {a : Act} {w : World} {Q : Exit → Act → World → Prop}

/-! Guards: they change nothing, and fit at that operation alone. -/
theorem at_load (t : TypeId) (x : Operand) (_ : o.op = Op.load t x) (h : wpList P ops Q (o :: rest) a w) : wpList P ops Q (o :: rest) a w := h
theorem at_store (t : TypeId) (x y : Operand) (_ : o.op = Op.store t x y) (h : wpList P ops Q (o :: rest) a w) : wpList P ops Q (o :: rest) a w := h
theorem at_alloc (t : TypeId) (_ : o.op = Op.alloc t) (h : wpList P ops Q (o :: rest) a w) : wpList P ops Q (o :: rest) a w := h
theorem at_bi (b : Builtin) (x : Array Operand) (t : Array TypeId) (_ : o.op = Op.call { callee := Callee.builtin b, args := x, argTypes := t }) (h : wpList P ops Q (o :: rest) a w) : wpList P ops Q (o :: rest) a w := h

theorem wpList_alloc_arr (hg : o.guard = none) (t : TypeId) (hop : o.op = Op.alloc t) (z : Array Value) (hz : ∀ u, (zeroValue t).run P u = .ok (.agg z) u)
    (hK : wpList P ops Q rest (a.put o.dst (.pointer (some ⟨w.heap.size, 0, none⟩))) (w.alloc (.cells z t))) : wpList P ops Q (o :: rest) a w := by
  refine wpList_plain hg fun K hK' => ?_
  unfold Oper.wp
  simp [execOp, hop, Instr.alloc, hz, newVar, newRow, newObj, Value.cells, Result.andThen, go_sem]
  exact hK' _ _ hK

theorem wpList_store_new (u : World) (hg : o.guard = none) (t : TypeId) (x y : Operand) (hop : o.op = Op.store t x y) (c c' : Array Value) (hw : w = u.alloc (.cells c t)) (hx : a.eval x = .pointer (some ⟨u.heap.size, 0, none⟩)) (hy : a.eval y = .agg c')
    (hi : (P.info? t).map (·.size) = some c'.size) (ho : c.size = c'.size) (h1 : c'.all (·.oneCell') = true)
    (hK : wpList P ops Q rest (a.put o.dst undef) (u.alloc (.cells c' t))) : wpList P ops Q (o :: rest) a w := by
  subst hw
  refine wpList_plain hg fun K hK' => ?_
  unfold Oper.wp
  simp [execOp, hop, hx, hy, run_storeAt_new u t c c' hi ho h1, Result.andThen]
  exact hK' _ _ hK

theorem wpList_load_row (hg : o.guard = none) (t : TypeId) (x : Operand) (hop : o.op = Op.load t x) (g : Nat) (t' : TypeId) (cs : Array Value) (fr : Nat × Nat) (d : TypeDesc) (hh : w.heap[g]? = some (.cells cs t' fr)) (hx : a.eval x = .pointer (some ⟨g, 0, none⟩))
    (hu : P.underlying t = some d) (hd : (match d with | .struct _ | .array _ _ => true | _ => false) = true) (hi : (P.info? t).map (·.size) = some cs.size)
    (hK : wpList P ops Q rest (a.put o.dst (.agg cs)) w) : wpList P ops Q (o :: rest) a w := by
  refine wpList_plain hg fun K hK' => ?_
  unfold Oper.wp
  simp only [execOp, hop, hx, Instr.loadAt, Instr.sureAddr, Sem.run_bind, Sem.run_pure, Result.andThen, run_loadVar_row w g t' t cs fr d hh hu hd hi]
  exact hK' _ _ hK

/-- What copy(b[:], text) makes of an array. -/
def cpy (x : ByteArray) (c : List Value) : List Value := bv (x.data.toList.take c.length) ++ c.drop x.size

theorem wpList_copy_str (u : World) (hg : o.guard = none) (d s : Operand) (dT sT e t : TypeId) (hop : o.op = Op.call { callee := Callee.builtin Builtin.copy, args := #[d, s], argTypes := #[dT, sT] })
    (c : List Value) (x : ByteArray) (n : Nat) (hn : c.length = n) (hw : w = u.alloc (.cells c.toArray t)) (hd : a.eval d = .slice (some ⟨u.heap.size, 0, none⟩) n n) (hs : a.eval s = .string x)
    (hu : P.underlying dT = some (.slice e)) (hi : (P.info? e).map (·.size) = some 1)
    (hK : ∀ m, wpList P ops Q rest (a.put o.dst m) (u.alloc (.cells (cpy x c).toArray t))) : wpList P ops Q (o :: rest) a w := by
  subst hw
  refine wpList_plain hg fun K hK' => ?_
  have hfc : ∀ m, (Builtin.firstCells 1 m (.string x)).run P (u.alloc (.cells c.toArray t)) = .ok (bv (x.data.toList.take m)).toArray (u.alloc (.cells c.toArray t)) := by
    intro m
    have e1 : ((x.extract 0 m).data.map fun b : UInt8 => Value.int .u8 (b.toNat : Int)) = (bv (x.data.toList.take m)).toArray := by
      apply Array.toList_inj.1
      simp [bv, ByteArray.data_extract, List.map_take]
    simp only [Builtin.firstCells, e1]
    rfl
  have hst := run_storeCells_at P u.heap.size 0 t (bv (x.data.toList.take (Nat.min x.size n))) 0 c.toArray (u.alloc (.cells c.toArray t)) (heap_alloc_last u _) (by
    simp [bv_len, List.length_take]
    have : Nat.min x.size n ≤ n := Nat.min_le_right _ _
    omega) (fun v hv => by
      obtain ⟨b, _, rfl⟩ := List.mem_map.1 hv
      rfl)
  have hres : (c.toArray.toList.take (0 + 0) ++ bv (x.data.toList.take (Nat.min x.size n)) ++ c.toArray.toList.drop (0 + 0 + (bv (x.data.toList.take (Nat.min x.size n))).length)) = cpy x c := by
    have hxs : x.data.toList.length = x.size := by rw [Array.length_toList]; rfl
    unfold cpy
    rw [bv_len, List.length_take, hxs, ← hn]
    by_cases h : x.size ≤ c.length
    · have e1 : Nat.min x.size c.length = x.size := Nat.min_eq_left h
      rw [e1]
      simp [List.take_of_length_le (show x.data.toList.length ≤ x.size by omega), List.take_of_length_le (show x.data.toList.length ≤ c.length by omega)]
    · have e1 : Nat.min x.size c.length = c.length := Nat.min_eq_right (by omega)
      rw [e1]
      have e2 : min c.length x.size = c.length := Nat.min_eq_left (by omega)
      simp [e2, List.drop_eq_nil_of_le (show c.length ≤ x.size by omega)]
  rw [hres, World.setRow_alloc_new] at hst
  unfold Oper.wp
  cases hq : P.info? e with
  | none => simp [hq] at hi
  | some i =>
    have hi' : i.size = 1 := by simpa [hq] using hi
    simp [execOp, hop, resolve, invoke, builtin, hd, hs, Builtin.copy_, run_underlying hu, Builtin.lenOf, sizeOf, typeInfo, hq, hi', hfc, hst, Result.andThen]
    exact hK' _ _ (hK _)

theorem cpy_full {x : ByteArray} {c : List Value} (h : x.size = c.length) : cpy x c = bv x.data.toList := by
  have hxs : x.data.toList.length = x.size := by rw [Array.length_toList]; rfl
  unfold cpy
  rw [List.take_of_length_le (by omega), List.drop_eq_nil_of_le (by omega), List.append_nil]

/-- 'clear(m)'. -/
theorem ownsMap_clear {k e t ty : TypeId} {R : Value → Option (DataW Unit × List MemPlace)} {b n : Nat} {D : DataW Unit} (h : w.ownsMap P k R b n D) (ht : P.underlying t = some (.map k e)) :
    ∃ w', (Builtin.clear_ #[t] ty #[.map (some b)]).run P w = .ok (.tuple #[]) w' ∧ w'.ownsMap P k R b n (.map []) ∧ w.grownBy w' (some b) := by
  obtain ⟨es, clock, hb, F, hs, _⟩ := h
  refine ⟨ChangeMaps.setBlock w b (.map #[] clock), ?_, ⟨#[], clock, ChangeMaps.heap_setBlock_same hb _, ⟨by simp, MapKept.stamped_empty clock, by simp⟩, by simp, rfl⟩, ⟨rfl, rfl, rfl, by simp [ChangeMaps.setBlock], fun i _ hi => ChangeMaps.heap_setBlock_other hb _ (fun e => hi (by rw [e]))⟩⟩
  simp [Builtin.clear_, run_underlying ht, MapKept.run_getObj_map hb, MapKept.run_setObj_map _ hb, Result.andThen, ChangeMaps.setBlock]

theorem wpList_clear_own (hg : o.guard = none) (m : Operand) (t : TypeId) (hop : o.op = Op.call { callee := Callee.builtin Builtin.clear, args := #[m], argTypes := #[t] })
    (k e : TypeId) (ht : P.underlying t = some (.map k e)) (R : Value → Option (DataW Unit × List MemPlace)) (b n : Nat) (D : DataW Unit) (hm : a.eval m = .map (some b)) (hown : w.ownsMap P k R b n D)
    (hK : ∀ w', w'.ownsMap P k R b n (.map []) → w.grownBy w' (some b) → wpList P ops Q rest (a.put o.dst (.tuple #[])) w') : wpList P ops Q (o :: rest) a w := by
  refine wpList_plain hg fun K' hK' => ?_
  obtain ⟨w', hrun, r1, r2⟩ := ownsMap_clear (ty := o.type) hown ht
  unfold Oper.wp
  simp [execOp, hop, resolve, invoke, builtin, hm, hrun, Result.andThen]
  exact hK' _ _ (hK w' r1 r2)
end

/-! ### The frame -/

/-- No block of w but those of S has turned; the streams are as they were. -/
structure Only (S : List Nat) (w w' : World) : Prop where
  os : w'.os = w.os
  tape : w'.tape = w.tape
  output : w'.output = w.output
  size : w.heap.size ≤ w'.heap.size
  block : ∀ k, k < w.heap.size → k ∉ S → w'.heap[k]? = w.heap[k]?

theorem Only.refl (S : List Nat) (w : World) : Only S w w := ⟨rfl, rfl, rfl, Nat.le_refl _, fun _ _ _ => rfl⟩
theorem Only.trans {S : List Nat} {a b c : World} (h : Only S a b) (k : Only S b c) : Only S a c :=
  ⟨k.os.trans h.os, k.tape.trans h.tape, k.output.trans h.output, Nat.le_trans h.size k.size, fun i hi hn => (k.block i (Nat.lt_of_lt_of_le hi h.size) hn).trans (h.block i hi hn)⟩
theorem Only.mono {S T : List Nat} {a b : World} (h : Only S a b) (hs : ∀ k ∈ S, k ∈ T) : Only T a b := ⟨h.os, h.tape, h.output, h.size, fun i hi hn => h.block i hi (fun hk => hn (hs i hk))⟩
theorem Only.of_grown {S : List Nat} {a b : World} {row : Option Nat} (h : a.grownBy b row) (hs : ∀ k, row = some k → k ∈ S) : Only S a b :=
  ⟨h.os, h.tape, h.output, h.size, fun i hi hn => h.block i hi (fun e => hn (hs i e.symm))⟩
theorem Only.of_below {S : List Nat} {a b : World} (h : Below a.heap.size a b) : Only S a b := ⟨h.os, h.tape, h.output, h.size, fun i hi _ => h.block i hi⟩
theorem Only.alloc (S : List Nat) (w : World) (o : Obj) : Only S w (w.alloc o) := ⟨rfl, rfl, rfl, by simp, fun k hk _ => Below.heap_alloc w o k hk⟩
theorem Only.drew (S : List Nat) (w : World) : Only S w w.drew := ⟨rfl, rfl, rfl, Nat.le_refl _, fun _ _ _ => rfl⟩
theorem Only.setCell {S : List Nat} (w : World) {p : Addr} (hp : p.block ∈ S) (v : Value) : Only S w (w.setCell p v) :=
  ⟨rfl, rfl, rfl, by simp [World.setCell], fun k _ hn => Below.heap_setCell w p v k (fun e => hn (by rw [e]; exact hp))⟩
theorem Only.below {S : List Nat} {w w' : World} (h : Only S w w') {B : Nat} (hB : B ≤ w.heap.size) (hS : ∀ k ∈ S, B ≤ k) : Below B w w' :=
  ⟨h.os, h.tape, h.output, h.size, fun k hk => h.block k (by omega) (fun hm => by have := hS k hm; omega)⟩
/-- New blocks alone. -/
theorem Only.nil_below {w w' : World} (h : Only [] w w') : Below w.heap.size w w' := h.below (Nat.le_refl _) (by simp)

theorem ownsMap_only {P : Program} {k : TypeId} {R : Value → Option (DataW Unit × List MemPlace)} {w w' : World} {b n : Nat} {D : DataW Unit} {S : List Nat} (h : w.ownsMap P k R b n D) (ho : Only S w w') (hb : b ∉ S) : w'.ownsMap P k R b n D := by
  have hlt := h.lt
  obtain ⟨es, clock, hh, F, hs, hD⟩ := h
  exact ⟨es, clock, (ho.block b hlt hb).trans hh, F, hs, hD⟩

theorem heap_lt {w : World} {b : Nat} {o : Obj} (h : w.heap[b]? = some o) : b < w.heap.size := (Array.getElem?_eq_some_iff.1 h).1

theorem only_heap {S : List Nat} {w w' : World} {b : Nat} {o : Obj} (h : w.heap[b]? = some o) (ho : Only S w w') (hb : b ∉ S) : w'.heap[b]? = some o := (ho.block b (heap_lt h) hb).trans h

theorem cell_at {w : World} {g : Nat} {cs : Array Value} {t : TypeId} {fr : Nat × Nat} (h : w.heap[g]? = some (.cells cs t fr)) (j : Nat) : w.cell? ⟨g, j, none⟩ = cs[j]? := by simp [World.cell?, h]
theorem frozen_at {w : World} {g : Nat} {cs : Array Value} {t : TypeId} (h : w.heap[g]? = some (.cells cs t)) (j : Nat) : w.frozen? ⟨g, j, none⟩ = false := by simp [World.frozen?, h]
theorem heap_setCell {w : World} {g : Nat} {cs : Array Value} {t : TypeId} (h : w.heap[g]? = some (.cells cs t)) (j : Nat) (v : Value) : (w.setCell ⟨g, j, none⟩ v).heap[g]? = some (.cells (cs.setIfInBounds j v) t) := by
  simp [World.setCell, Array.getElem?_modify, h]
end Go.Proofs.Ytkmdjhdininimaa
