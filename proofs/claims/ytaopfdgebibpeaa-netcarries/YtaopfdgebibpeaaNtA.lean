/-
  Letters as data; the frame; the contracts of strings.Clone and copyOf.
-/
import Derived.Test.YtaopfdgebibpeaaRows
import Derived.WalkKit
import Derived.ProofKit
import Derived.OpenShut
import Derived.PlainAid
import Derived.Laws.Rows
import Derived.Laws.IdiomStrings
import Derived.WalkLawsBesides
import Derived.Handy
import Derived.Maps.Own
import Derived.Maps.OwnSet
import Derived.Maps.OwnOps
import Derived.Maps.Ext
import Derived.DeepKeys4
import Derived.Lib.Hide
import Derived.Below
import Derived.Deep.WholeRow
import Derived.Lib.BufferWrite
import Derived.Lib.UnsafeStr
import Derived.Deep.RegionHeld3
import Derived.BigQuiet
import Derived.BigRegion
import Derived.WideKeyEntry
namespace Go.Proofs.Ytaopfdgebibpeaa.nt
open Go.Maps Go.WideShapes Go.RowKit Go.ChangeShapes Go.ChangeAt Go.PlainAid

theorem ret_bool {b : Bool} (h : b = true) : Ending.returned (.bool b) = .returned (.bool true) := by rw [h]
theorem ret_int {k : IntKind} {a b : Int} (h : a = b) : Ending.returned (.int k a) = .returned (.int k b) := by rw [h]
theorem chain {w a b : World} (h : Below w.heap.size w a) (k : Below a.heap.size a b) : Below w.heap.size w b := h.trans (k.mono h.size)
theorem heap_lt {W : World} {p : Nat} {o : Obj} (h : W.heap[p]? = some o) : p < W.heap.size := (Array.getElem?_eq_some_iff.1 h).1
theorem wf_bd {k : Int} (h : (Lit.int .i64 k).wf = true) : -9223372036854775808 ≤ k ∧ k ≤ 9223372036854775807 := by
  have e0 : IntKind.i64.min = -9223372036854775808 := by decide
  have e1 : IntKind.i64.max = 9223372036854775807 := by decide
  simpa [Lit.wf, e0, e1] using h
theorem wf_i64 {k : Int} (h0 : -9223372036854775808 ≤ k) (h1 : k ≤ 9223372036854775807) : (Lit.int .i64 k).wf = true := by
  have e0 : IntKind.i64.min = -9223372036854775808 := by decide
  have e1 : IntKind.i64.max = 9223372036854775807 := by decide
  simp only [Lit.wf, e0, e1, h0, h1, decide_true, Bool.and_self]

/-! ### All blocks but those of S are as they were -/

structure Only (S : List Nat) (w w' : World) : Prop where
  os : w'.os = w.os
  tape : w'.tape = w.tape
  output : w'.output = w.output
  size : w.heap.size ≤ w'.heap.size
  block : ∀ k, k < w.heap.size → k ∉ S → w'.heap[k]? = w.heap[k]?
theorem Only.refl (S : List Nat) (w : World) : Only S w w := ⟨rfl, rfl, rfl, Nat.le_refl _, fun _ _ _ => rfl⟩
theorem Only.trans {S : List Nat} {a b c : World} (h : Only S a b) (k : Only S b c) : Only S a c :=
  ⟨k.os.trans h.os, k.tape.trans h.tape, k.output.trans h.output, Nat.le_trans h.size k.size, fun i hi hn => (k.block i (Nat.lt_of_lt_of_le hi h.size) hn).trans (h.block i hi hn)⟩
theorem Only.mono {S T : List Nat} {a b : World} (h : Only S a b) (hs : ∀ k ∈ S, k ∈ T) : Only T a b := ⟨h.os, h.tape, h.output, h.size, fun i hi hn => h.block i hi (fun hk => hn (hs i hk))⟩
theorem Only.of_grown {S : List Nat} {a b : World} {row : Option Nat} (h : a.grownBy b row) (hs : ∀ k, row = some k → k ∈ S) : Only S a b :=
  ⟨h.os, h.tape, h.output, h.size, fun i hi hn => h.block i hi (fun e => hn (hs i e.symm))⟩
theorem Only.of_below {S : List Nat} {a b : World} (h : Below a.heap.size a b) : Only S a b := ⟨h.os, h.tape, h.output, h.size, fun i hi _ => h.block i hi⟩
theorem Only.alloc (S : List Nat) (w : World) (o : Obj) : Only S w (w.alloc o) := ⟨rfl, rfl, rfl, by simp, fun k hk _ => Below.heap_alloc w o k hk⟩
theorem Only.drew (S : List Nat) (w : World) : Only S w w.drew := ⟨rfl, rfl, rfl, Nat.le_refl _, fun _ _ _ => rfl⟩
theorem Only.setCell {S : List Nat} (w : World) {p : Addr} (hp : p.block ∈ S) (v : Value) : Only S w (w.setCell p v) :=
  ⟨rfl, rfl, rfl, by simp [World.setCell], fun k _ hn => Below.heap_setCell w p v k (fun e => hn (by rw [e]; exact hp))⟩
theorem Only.below {S : List Nat} {w w' : World} (h : Only S w w') {B : Nat} (hB : B ≤ w.heap.size) (hS : ∀ k ∈ S, B ≤ k) : Below B w w' :=
  ⟨h.os, h.tape, h.output, h.size, fun k hk => h.block k (by omega) (fun hm => by have := hS k hm; omega)⟩
theorem only_heap {S : List Nat} {w w' : World} {b : Nat} {o : Obj} (h : w.heap[b]? = some o) (ho : Only S w w') (hb : b ∉ S) : w'.heap[b]? = some o := (ho.block b (heap_lt h) hb).trans h
theorem Only.new {S T : List Nat} {a b c : World} (h : Only T a b) (k : Only S b c) (hs : ∀ i ∈ S, i ∈ T ∨ a.heap.size ≤ i) : Only T a c :=
  ⟨k.os.trans h.os, k.tape.trans h.tape, k.output.trans h.output, Nat.le_trans h.size k.size, fun i hi hn => (k.block i (Nat.lt_of_lt_of_le hi h.size) (fun hk => (hs i hk).elim hn (fun h => by omega))).trans (h.block i hi hn)⟩
theorem only_cell {S : List Nat} {w w' : World} {b j : Nat} {v : Value} (ho : Only S w w') (hl : b < w.heap.size) (hb : b ∉ S) (h : w.cell? ⟨b, j, none⟩ = some v) : w'.cell? ⟨b, j, none⟩ = some v := by
  unfold World.cell? at *
  rw [ho.block b hl hb]
  exact h
theorem ownsMap_only {P : Program} {k : TypeId} {R : Value → Option (DataW Unit × List MemPlace)} {w w' : World} {b n : Nat} {D : DataW Unit} {S : List Nat} (h : w.ownsMap P k R b n D) (ho : Only S w w') (hb : b ∉ S) : w'.ownsMap P k R b n D := by
  have hlt := h.lt
  obtain ⟨es, clock, hh, F, hs, hD⟩ := h
  exact ⟨es, clock, (ho.block b hlt hb).trans hh, F, hs, hD⟩
/-- A cell lies in no map's block. -/
theorem map_ne {P : Program} {k : TypeId} {R : Value → Option (DataW Unit × List MemPlace)} {w : World} {b n g j : Nat} {D : DataW Unit} {v : Value} (h : w.ownsMap P k R b n D) (hc : w.cell? ⟨g, j, none⟩ = some v) : g ≠ b := by
  rintro rfl
  obtain ⟨es, clock, hh, _⟩ := h
  simp [World.cell?, hh] at hc


theorem addr4 (b o j : Nat) : (⟨b, o, none⟩ : Addr).add j = ⟨b, o + j, none⟩ := by unfold Addr.add; split <;> simp_all

/-! ### strings.Clone -/

theorem Try.info5 : (Try.prog.info? 5).map (fun i => (i.zero, i.size, i.bytes)) = some (some (.int .u8 0), 1, 1) := by kernel_rfl
theorem make_u8 (n : Nat) (hn : n ≤ 1125899906842) : ∃ Z : Array Value, Z.size = n ∧ ∀ W : World, (Instr.makeSlice 54 (.int .i64 (n : Int)) (.int .i64 (n : Int))).run Try.prog W = .ok (.slice (some ⟨W.heap.size, 0, none⟩) n n) (W.alloc (.cells Z 5)) := by
  obtain ⟨i0, hi, hz0, hz1, hz2⟩ := info_parts Try.info5
  refine ⟨madeCells (Value.int .u8 0).cells (n * i0.size), ?_, fun W => ?_⟩
  rotate_left
  · have h := run_make (P := Try.prog) W 54 5 i0 _ Try.underlying54 hi hz0 .i64 .i64 (n : Int) (n : Int) (by omega) (by omega) (by rw [hz2]; omega) (by omega)
    simpa using h
  · simp [size_madeCells, hz1]

set_option maxRecDepth 20000 in
set_option maxHeartbeats 1000000 in
theorem liteClone_any (s : ByteArray) (w : World) (h0 : s.size ≠ 0) (hs : s.size ≤ 1125899906842) :
    Calls Try.prog 45 #[.string s] w fun e w' => e = .returned (.string s) ∧ Below w.heap.size w w' := by
  obtain ⟨Z, hZ, hmk⟩ := make_u8 s.size hs
  have hz : ((s.size : Int) == 0) = false := beq_eq_false_iff_ne.2 (by omega)
  have hnew : (w.alloc (.cells Z 5)).heap[w.heap.size]? = some (.cells Z 5 (0, 0)) := heap_alloc_new w _
  have hcp := fun ty => Lib.run_copy_row_string (P := Try.prog) (w.alloc (.cells Z 5)) 54 9 ty 5 w.heap.size 0 s.size s.size s Z 5 Try.underlying54 (by kernel_rfl) hnew (Nat.le_refl _) (by omega)
  have hrow : (Z.toList.take 0 ++ Lib.byteCells s.data.toList ++ Z.toList.drop (0 + s.size)).toArray = (Lib.byteCells s.data.toList).toArray := by
    rw [List.drop_of_length_le (by simp; omega)]
    simp
  rw [hrow] at hcp
  have hset := setRow_heap (w.alloc (.cells Z 5)) w.heap.size Z (Lib.byteCells s.data.toList).toArray 5 (0, 0) hnew
  have hlen : s.data.toList.length = s.size := by rw [Array.length_toList]; rfl
  have hUS := fun ty => Lib.run_unsafeString_row (P := Try.prog) ((w.alloc (.cells Z 5)).setRow w.heap.size (Lib.byteCells s.data.toList).toArray) 107 3 ty 5 Try.underlying107 (by kernel_rfl) w.heap.size s.size (by unfold World.shape?; rw [hset]; simp [Lib.byteCells_length, hlen]) s.data.toList (fun e => by rw [e] at hlen; simp at hlen; omega) (by omega) (by omega)
    (fun j x hx => by
      rw [addr4]
      unfold World.cell?
      simp only [hset]
      simp [Lib.byteCells, hx])
  rw [hlen] at hUS
  have hB1 : Below w.heap.size (w.alloc (.cells Z 5)) ((w.alloc (.cells Z 5)).setRow w.heap.size (Lib.byteCells s.data.toList).toArray) := ⟨rfl, rfl, rfl, by simp, fun k hk => setRow_other _ _ _ _ (by omega)⟩
  have hB : Below w.heap.size w (((w.alloc (.cells Z 5)).setRow w.heap.size (Lib.byteCells s.data.toList).toArray).freeze ⟨w.heap.size, 0, none⟩ s.size) :=
    Lib.below_freeze (((Below.refl _ w).alloc (Nat.le_refl _) _).trans hB1) (p := ⟨w.heap.size, 0, none⟩) (Nat.le_refl _) _
  go_enter Try.func45, Try.ntmps45
  go_wp2_with fail
  go_ret
  exact ⟨rfl, hB⟩

set_option maxRecDepth 20000 in
set_option maxHeartbeats 1000000 in
theorem strClone_any (s : ByteArray) (w : World) (h0 : s.size ≠ 0) (hs : s.size ≤ 1125899906842) :
    Calls Try.prog 37 #[.string s] w fun e w' => e = .returned (.string s) ∧ Below w.heap.size w w' := by
  have h := liteClone_any s w h0 hs
  go_enter Try.func37, Try.ntmps37
  go_wp2_with (go_at_call 45; refine h.mono ?_; rintro e w1 ⟨rfl, hb1⟩)
  go_ret
  exact ⟨rfl, hb1⟩

set_option maxRecDepth 20000 in
set_option maxHeartbeats 1000000 in
theorem clone_any (s : ByteArray) (w : World) (hs : s.size ≤ 1125899906842) :
    Calls Try.prog 37 #[.string s] w fun e w' => e = .returned (.string s) ∧ Below w.heap.size w w' := by
  by_cases h0 : s.size = 0
  · obtain rfl : s = ⟨#[]⟩ := by
      cases s with
      | mk a => congr 1; exact Array.eq_empty_of_size_eq_zero h0
    go_enter Try.func37, Try.ntmps37
    go_wp2_with go_in
    go_ret
    exact ⟨rfl, Below.refl _ _⟩
  · exact strClone_any s w h0 hs

/-! ### Letters -/

/-- A letter: To, Text. -/
structure LtD where
  to : Int
  t : ByteArray
deriving DecidableEq
def LtD.v (x : LtD) : Value := .agg #[.int .i64 x.to, .string x.t]
/-- Letters as cells. -/
def lcs (l : List LtD) : List Value := (l.map fun x => [Value.int .i64 x.to, .string x.t]).flatten
theorem lcs_append (a b : List LtD) : lcs (a ++ b) = lcs a ++ lcs b := by simp [lcs]
theorem lcs_one (x : LtD) : lcs [x] = [Value.int .i64 x.to, .string x.t] := by simp [lcs]
theorem lcs_cons (x : LtD) (l : List LtD) : lcs (x :: l) = .int .i64 x.to :: .string x.t :: lcs l := by simp [lcs]
theorem lcs_length : ∀ (l : List LtD), (lcs l).length = l.length * 2
  | [] => rfl
  | x :: l => by rw [lcs_cons, List.length_cons, List.length_cons, lcs_length l, List.length_cons]; omega
theorem lcs_at : ∀ (l : List LtD) (i : Nat) (x : LtD), l[i]? = some x → (lcs l)[i * 2]? = some (.int .i64 x.to) ∧ (lcs l)[i * 2 + 1]? = some (.string x.t)
  | [], i, x, h => by simp at h
  | y :: l, 0, x, h => by simp at h; subst h; simp [lcs_cons]
  | y :: l, i + 1, x, h => by
    have := lcs_at l i x (by simpa using h)
    rw [lcs_cons, show (i + 1) * 2 = i * 2 + 1 + 1 by omega]
    simpa using this
theorem lcs_one' (l : List LtD) : ∀ u ∈ lcs l, u.oneCell' = true := by
  intro u hu
  simp only [lcs, List.mem_flatten, List.mem_map] at hu
  obtain ⟨s, ⟨x, _, rfl⟩, hx⟩ := hu
  simp at hx
  rcases hx with rfl | rfl <;> rfl
theorem lcs_take (l : List LtD) (k : Nat) : (lcs l).take (k * 2) = lcs (l.take k) := by
  by_cases h : k ≤ l.length
  · have e : lcs l = lcs (l.take k) ++ lcs (l.drop k) := by rw [← lcs_append, List.take_append_drop]
    rw [e, List.take_append_of_le_length (by rw [lcs_length, List.length_take]; omega), List.take_of_length_le (by rw [lcs_length, List.length_take]; omega)]
  · rw [List.take_of_length_le (by rw [lcs_length]; omega), List.take_of_length_le (by omega)]
theorem lcs_drop (l : List LtD) (k : Nat) : (lcs l).drop (k * 2) = lcs (l.drop k) := by
  by_cases h : k ≤ l.length
  · have e : lcs l = lcs (l.take k) ++ lcs (l.drop k) := by rw [← lcs_append, List.take_append_drop]
    have e2 : (lcs (l.take k)).length = k * 2 := by rw [lcs_length, List.length_take]; omega
    rw [e, ← e2, List.drop_left]
  · rw [List.drop_of_length_le (by rw [lcs_length]; omega), List.drop_of_length_le (by omega)]; rfl
theorem heap_setCell {w : World} {g : Nat} {cs : Array Value} {t : TypeId} (h : w.heap[g]? = some (.cells cs t)) (j : Nat) (v : Value) : (w.setCell ⟨g, j, none⟩ v).heap[g]? = some (.cells (cs.setIfInBounds j v) t) := by
  have := (Array.getElem?_eq_some_iff.1 h)
  simp [World.setCell, Array.getElem?_modify, h]
/-- A letter's box. -/
def LB (W : World) (p : Nat) (x : LtD) : Prop := W.heap[p]? = some (.cells #[.int .i64 x.to, .string x.t] 36)
theorem LB.only {S : List Nat} {W W' : World} {p : Nat} {x : LtD} (h : LB W p x) (ho : Only S W W') (hp : p ∉ S) : LB W' p x := only_heap h ho hp
theorem LB.below {W W' : World} {p : Nat} {x : LtD} (h : LB W p x) (hb : Below W.heap.size W W') : LB W' p x := (hb.block p (heap_lt h)).trans h
theorem LB.facts {W : World} {p : Nat} {x : LtD} (h : LB W p x) : W.cell? ⟨p, 0, none⟩ = some (.int .i64 x.to) ∧ W.cell? ⟨p, 1, none⟩ = some (.string x.t) ∧ W.frozen? ⟨p, 0, none⟩ = false ∧ W.frozen? ⟨p, 1, none⟩ = false :=
  ⟨cell_of_row _ _ 0 _ _ (0, 0) h, cell_of_row _ _ 1 _ _ (0, 0) h, by simp [World.frozen?, show W.heap[p]? = _ from h], by simp [World.frozen?, show W.heap[p]? = _ from h]⟩
theorem LB.set {W : World} {p : Nat} {x : LtD} (h : LB W p x) (y : LtD) : LB ((W.setCell ⟨p, 0, none⟩ (.int .i64 y.to)).setCell ⟨p, 1, none⟩ (.string y.t)) p y := heap_setCell (heap_setCell h 0 _) 1 _
end Go.Proofs.Ytaopfdgebibpeaa.nt
