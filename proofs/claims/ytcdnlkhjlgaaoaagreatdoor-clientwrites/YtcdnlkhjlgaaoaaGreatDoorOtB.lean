/-
  slices.Repeat of one operation.
-/
import Derived.Test.YtcdnlkhjlgaaoaaGreatDoorOtA
import Derived.StillTail
import Derived.StillTactics
import Derived.Laws.CopyRow
import Derived.WalkSmall
import Derived.Lib.OthersKept
import Derived.Test.YtcdnlkhjlgaaoaaGreatDoorDMa
namespace Go.Proofs.YtcdnlkhjlgaaoaaGreatDoor
open Go.ChangeShapes Go.WideShapes Go.ChangeAt Go.RowKit Go.PlainAid

theorem Tryz.mixed : Tryz.prog.follows .mixedOrders = true := by kernel_rfl
theorem region_tail {P : Program} {id : Nat} {Q : Exit → Act → World → Prop} {a : Act} {w : World} {l : List Oper} (n : Nat) (hm : P.follows .mixedOrders = true) (hB : Region.lexTailB .any l.toArray n = true)
    (h : wpStill P l.toArray w.drew (fun a' => wpList P l.toArray Q (l.drop n) a' w.drew) (l.take n) a) : (Code.region id l.toArray true).wp P Q a w :=
  wp_region_still_tail n hm hB h

theorem copy3 (w : World) (ty : TypeId) (g o dLen dCap : Nat) (a : Addr) (sLen sCap : Nat) (cur : Array Value) (cs : List Value)
    (hg : w.heap[g]? = some (.cells cur 59 (0, 0))) (hn : cs.length = Nat.min sLen dLen * 3)
    (hsrc : ∀ j v, cs[j]? = some v → w.cell? (a.add j) = some v) (hfit : o + cs.length ≤ cur.size) (h1 : ∀ v ∈ cs, v.oneCell' = true) :
    (Builtin.copy_ #[39, 39] ty #[.slice (some ⟨g, o, none⟩) dLen dCap, .slice (some a) sLen sCap]).run Tryz.prog w =
      .ok (goInt (Nat.min sLen dLen)) (w.setRow g (cur.toList.take o ++ cs ++ cur.toList.drop (o + cs.length)).toArray) := by
  obtain ⟨i0, hi, hz0, hz1, hz2⟩ := info_parts Tryz.infoOp
  have hl := run_loadCells_list (P := Tryz.prog) w a cs hsrc
  have hst := run_storeCells_at Tryz.prog g o 59 cs 0 cur w hg (by simpa using hfit) h1
  simp [Builtin.copy_, run_underlying Tryz.underlying39, Builtin.lenOf, Builtin.firstCells, sizeOf, typeInfo, hi, hz1, ← hn, hl, hst]
theorem wpList_copy3 {ops : Array Oper} {rest : List Oper} {o : Oper} {a : Act} {Q : Exit → Act → World → Prop} (w : World) (hgd : o.guard = none) (d s : Operand)
    (ho : o.op = .call { callee := .builtin .copy, args := #[d, s], argTypes := #[39, 39] })
    (g off dLen dCap : Nat) (ad : Addr) (sLen sCap n : Nat) (hd : a.eval d = .slice (some ⟨g, off, none⟩) dLen dCap) (hs : a.eval s = .slice (some ad) sLen sCap) (hmin : Nat.min sLen dLen = n)
    (cur : Array Value) (hg : w.heap[g]? = some (.cells cur 59 (0, 0))) (cs : List Value) (hn : cs.length = n * 3)
    (hsrc : ∀ j v, cs[j]? = some v → w.cell? (ad.add j) = some v) (hfit : off + cs.length ≤ cur.size) (h1 : ∀ v ∈ cs, v.oneCell' = true)
    (h : wpList Tryz.prog ops Q rest (a.put o.dst (goInt n)) (w.setRow g (cur.toList.take off ++ cs ++ cur.toList.drop (off + cs.length)).toArray)) : wpList Tryz.prog ops Q (o :: rest) a w := by
  subst hmin
  refine wpList_plain hgd fun K hK => ?_
  have hrun := copy3 w o.type g off dLen dCap ad sLen sCap cur cs hg hn hsrc hfit h1
  unfold Oper.wp
  simp [execOp, ho, resolve, invoke, builtin, hd, hs, hrun, Result.andThen]
  exact hK _ _ (by simpa using h)

theorem u64_and (x : Nat) (h : x < 4294967296) : bits .and .u64 (x : Int) 4294967295 = (x : Int) := by
  have hw : ∀ n : Int, 0 ≤ n → n < 2 ^ 62 → IntKind.u64.wrap n = n := fun n h0 h1 => by rw [IntKind.wrap_u64]; omega
  have := bits_mask .u64 62 (by decide) hw 32 (by decide) (x : Int) (by omega) (by omega)
  rw [show (2 : Int) ^ 32 - 1 = 4294967295 by decide] at this
  rw [this]
  omega

end Go.Proofs.YtcdnlkhjlgaaoaaGreatDoor

/-
  slices.Repeat of one operation.
-/
namespace Go.Proofs.YtcdnlkhjlgaaoaaGreatDoor
open Go.ChangeShapes Go.WideShapes Go.ChangeAt Go.RowKit Go.PlainAid


theorem make_op (n : Nat) (hn : n ≤ 1000000) : ∃ Z : Array Value, Z.size = n * 3 ∧ ∀ W : World, (Instr.makeSlice 39 (.int .i64 (n : Int)) (.int .i64 (n : Int))).run Tryz.prog W = .ok (.slice (some ⟨W.heap.size, 0, none⟩) n n) (W.alloc (.cells Z 59)) := by
  obtain ⟨i0, hi, hz0, hz1, hz2⟩ := info_parts Tryz.infoOp
  refine ⟨madeCells (Value.agg #[.int .i64 0, .int .i64 0, .string ⟨#[]⟩]).cells (n * i0.size), ?_, fun W => ?_⟩
  rotate_left
  · have h := run_make (P := Tryz.prog) W 39 59 i0 _ Tryz.underlying39 hi hz0 .i64 .i64 (n : Int) (n : Int) (by omega) (by omega) (by rw [hz2]; omega) (by omega)
    simpa using h
  · simp [size_madeCells, hz1]

theorem sizeOp (W : World) : (sizeOf 59).run Tryz.prog W = .ok 3 W := by
  obtain ⟨i0, hi, hz0, hz1, hz2⟩ := info_parts Tryz.infoOp
  simp [sizeOf, typeInfo, hi, hz1]
theorem addr3 (b o j : Nat) : (⟨b, o, none⟩ : Addr).add j = ⟨b, o + j, none⟩ := by unfold Addr.add; split <;> simp_all
set_option maxRecDepth 20000 in
theorem sliceO_head (b o len cp n : Nat) (hn : n ≤ len) (hc : len ≤ cp) (h0 : 0 < n) (W : World) :
    (Instr.slice 39 (.slice (some ⟨b, o, none⟩) len cp) none (some (.int .i64 (n : Int))) none).run Tryz.prog W = .ok (.slice (some ⟨b, o, none⟩) n cp) W := by
  rw [run_slice_h (P := Tryz.prog) W 39 (some ⟨b, o, none⟩) len cp Tryz.underlying39 .i64 (n : Int) (by omega) (by omega)]
  have e : Tryz.prog.elem 39 = 59 := by kernel_rfl
  rw [e, sizeOp]
  simp only [Result.andThen, sliced, Int.toNat_natCast, Option.map_some, Nat.zero_mul, addr3]
  rw [if_neg (by omega)]
  simp
set_option maxRecDepth 20000 in
theorem sliceO_tail (b o len cp n : Nat) (hn : n ≤ len) (h0 : n < cp) (W : World) :
    (Instr.slice 39 (.slice (some ⟨b, o, none⟩) len cp) (some (.int .i64 (n : Int))) none none).run Tryz.prog W = .ok (.slice (some ⟨b, o + n * 3, none⟩) (len - n) (cp - n)) W := by
  rw [run_slice_l (P := Tryz.prog) W 39 (some ⟨b, o, none⟩) len cp Tryz.underlying39 .i64 (n : Int) (by omega) (by omega)]
  have e : Tryz.prog.elem 39 = 59 := by kernel_rfl
  rw [e, sizeOp]
  simp only [Result.andThen, sliced, Int.toNat_natCast, Option.map_some, addr3]
  rw [if_neg (by omega)]

theorem ocs_rep_take (o : OpD) (k n : Nat) (h : n ≤ k) : (ocs (List.replicate k o)).take (n * 3) = ocs (List.replicate n o) := by
  have e : List.replicate k o = List.replicate n o ++ List.replicate (k - n) o := by rw [List.replicate_append_replicate]; congr 1; omega
  rw [e, ocs_append, List.take_left' (by rw [ocs_length, List.length_replicate])]
theorem ocs_cell (l : List OpD) : ∀ v ∈ ocs l, v.oneCell' = true := by
  intro v hv
  simp only [ocs, List.mem_flatten, List.mem_map] at hv
  obtain ⟨x, ⟨o, _, rfl⟩, hx⟩ := hv
  simp only [List.mem_cons, List.not_mem_nil, or_false] at hx
  rcases hx with rfl | rfl | rfl <;> rfl

/-- So much of the row has been written. -/
structure Rep (w W : World) (o : OpD) (N k : Nat) (cur : Array Value) : Prop where
  blk : W.heap[w.heap.size]? = some (.cells cur 59 (0, 0))
  siz : cur.size = N * 3
  one : 0 < k
  le : k ≤ N
  cts : cur.toList.take (k * 3) = ocs (List.replicate k o)
  bel : Below w.heap.size w W

theorem Rep.step {w W : World} {o : OpD} {N k n : Nat} {cur : Array Value} (h : Rep w W o N k cur) (hn : n ≤ N - k) :
    Rep w (W.setRow w.heap.size (cur.toList.take (k * 3) ++ ocs (List.replicate n o) ++ cur.toList.drop (k * 3 + (ocs (List.replicate n o)).length)).toArray) o N (k + n) (cur.toList.take (k * 3) ++ ocs (List.replicate n o) ++ cur.toList.drop (k * 3 + (ocs (List.replicate n o)).length)).toArray := by
  have hl := ocs_length (List.replicate n o)
  rw [List.length_replicate] at hl
  have hs := h.siz
  have hle := h.le
  have ho := h.one
  refine ⟨setRow_heap _ _ cur _ 59 (0, 0) h.blk, ?_, by omega, by omega, ?_, h.bel.trans ⟨rfl, rfl, rfl, by simp, fun k hk => setRow_other _ _ _ _ (by omega)⟩⟩
  · simp only [List.size_toArray, List.length_append, List.length_take, List.length_drop, Array.length_toList, hl]
    omega
  · have hr : ocs (List.replicate (k + n) o) = ocs (List.replicate k o) ++ ocs (List.replicate n o) := by rw [← ocs_append, List.replicate_append_replicate]
    have hk := ocs_length (List.replicate k o)
    rw [List.length_replicate] at hk
    rw [hr, h.cts]
    refine List.take_left' ?_
    rw [List.length_append, hk, hl]
    omega
theorem Rep.src {w W : World} {o : OpD} {N k n : Nat} {cur : Array Value} (h : Rep w W o N k cur) (hn : n ≤ k) (j : Nat) (v : Value) (hv : (ocs (List.replicate n o))[j]? = some v) : W.cell? ((⟨w.heap.size, 0, none⟩ : Addr).add j) = some v := by
  rw [← ocs_rep_take o k n hn, ← h.cts, List.take_take] at hv
  have hj : j < Nat.min (n * 3) (k * 3) := by
    rcases Nat.lt_or_ge j (Nat.min (n * 3) (k * 3)) with h1 | h1
    · exact h1
    · rw [List.getElem?_eq_none (by rw [List.length_take]; exact Nat.le_trans (Nat.min_le_left _ _) h1)] at hv; cases hv
  rw [List.getElem?_take_of_lt hj] at hv
  rw [addr3, Nat.zero_add]
  have hv' : cur[j]? = some v := by rw [← Array.getElem?_toList]; exact hv
  unfold World.cell?
  simp [h.blk, hv']

end Go.Proofs.YtcdnlkhjlgaaoaaGreatDoor

/-
  The contract of unitsOf.
-/
namespace Go.Proofs.YtcdnlkhjlgaaoaaGreatDoor
open Go.ChangeShapes Go.WideShapes Go.ChangeAt Go.RowKit Go.PlainAid

/-- The operation of one code point. -/
def uop : U → OpD
  | .K => ⟨1, 1, ⟨#[]⟩⟩
  | .R => ⟨3, 1, ⟨#[]⟩⟩
  | .I z => ⟨2, 0, mk (ptB z.toNat)⟩
def iop (z : Int) : OpD := uop (.I z)

/-- unitsOf on its way: k code points of s have been seen. -/
structure Uo (w W : World) (s : ByteArray) (k : Nat) (l : Value) : Prop where
  own : W.ownsRow (w.heap.size + 2) 59 3 l k (ocs ((ptL s k).map iop))
  it : W.heap[w.heap.size + 1]? = some (.stringIter s (pos s k))
  bel : Below w.heap.size w W
  le : w.heap.size + 2 ≤ W.heap.size

/-- As that, when the next code point has been taken. -/
structure Un (w W : World) (s : ByteArray) (k : Nat) (l : Value) : Prop where
  own : W.ownsRow (w.heap.size + 2) 59 3 l k (ocs ((ptL s k).map iop))
  it : W.heap[w.heap.size + 1]? = some (.stringIter s (pos s (k + 1)))
  bel : Below w.heap.size w W
  le : w.heap.size + 2 ≤ W.heap.size

theorem Uo.next {w W : World} {s : ByteArray} {k : Nat} {l : Value} (h : Uo w W s k l) : Un w (W.iterAt (w.heap.size + 1) s (pos s (k + 1))) s k l :=
  ⟨ownsRow_iterAt h.own (by omega) _ _, Lib.iterAt_heap _ _ _ _ _ h.it, h.bel.trans ⟨rfl, rfl, rfl, by simp [World.iterAt], fun j hj => Lib.iterAt_other _ _ _ _ _ (by omega)⟩, by have := h.le; simp [World.iterAt]; omega⟩
theorem Un.below {w W W' : World} {s : ByteArray} {k : Nat} {l : Value} (h : Un w W s k l) (hb : Below W.heap.size W W') : Un w W' s k l :=
  ⟨own_belowG h.own hb, (hb.block _ (heap_lt h.it)).trans h.it, h.bel.trans (hb.mono (by have := h.le; omega)), Nat.le_trans h.le hb.size⟩
theorem un_app {w W W' : World} {s : ByteArray} {k : Nat} {l l' : Value} {x : Obj} (h : Un w W s k l)
    (ho : W'.ownsRow (w.heap.size + 2) 59 3 l' (k + 1) (ocs ((ptL s k).map iop) ++ [Value.int .i64 2, .int .i64 0, .string (mk (ptB (pt s k).toNat))])) (hg : (W.alloc x).grownBy W' l.ownBlock) : Uo w W' s (k + 1) l' := by
  have hle := h.le
  have hs := hg.size
  rw [World.size_alloc] at hs
  have hit : (W.alloc x).heap[w.heap.size + 1]? = some (.stringIter s (pos s (k + 1))) := (Below.heap_alloc W x _ (heap_lt h.it)).trans h.it
  refine ⟨?_, ?_, ?_, by omega⟩
  · have := own_op (L := (ptL s k).map iop) (o := iop (pt s k)) ho (by rw [List.length_map, ptL_length])
    rw [ptL_succ, List.map_append]
    rw [List.length_append, List.length_map, ptL_length] at this
    exact this
  · rw [hg.block _ (heap_lt hit) (fun e => by have := (h.own.lt _ e.symm).1; omega)]
    exact hit
  · exact (h.bel.alloc (by omega) x).grown hg (by simp; omega) (fun j hj => by have := (h.own.lt j hj).1; omega)

theorem src_new (W : World) (o : OpD) : ∀ j v, (ocs [o])[j]? = some v → (W.alloc (.cells #[.int .i64 o.k, .int .i64 o.n, .string o.t] 59)).cell? ((⟨W.heap.size, 0, none⟩ : Addr).add j) = some v := by
  intro j v h
  rw [ocs_one] at h
  exact many_new W _ 59 j v h

theorem ocs_rep (n : Nat) (u : U) : (List.replicate n u).map uop = List.replicate n (uop u) := by simp


def lenV : Value → Nat
  | .slice _ n _ => n
  | _ => 0


theorem size_small {s : ByteArray} (h0 : 0 < cpl s) (h : cpl s ≤ 1000) : s.size ≤ 4000 := by
  have := size_cpl h0
  omega

end Go.Proofs.YtcdnlkhjlgaaoaaGreatDoor

/-
  What units has on its way: a row of units and the rest of a delta, in two cells. No walk.
-/
namespace Go.Proofs.YtcdnlkhjlgaaoaaGreatDoor
open Go.ChangeShapes Go.WideShapes Go.ChangeAt Go.RowKit Go.PlainAid

/-- All blocks but those of S are as they were. -/
structure Only (S : List Nat) (w w' : World) : Prop where
  os : w'.os = w.os
  tape : w'.tape = w.tape
  output : w'.output = w.output
  size : w.heap.size ≤ w'.heap.size
  block : ∀ k, k < w.heap.size → k ∉ S → w'.heap[k]? = w.heap[k]?
theorem Only.refl (S : List Nat) (w : World) : Only S w w := ⟨rfl, rfl, rfl, Nat.le_refl _, fun _ _ _ => rfl⟩
theorem Only.trans {S : List Nat} {a b c : World} (h : Only S a b) (k : Only S b c) : Only S a c :=
  ⟨k.os.trans h.os, k.tape.trans h.tape, k.output.trans h.output, Nat.le_trans h.size k.size, fun i hi hn => (k.block i (Nat.lt_of_lt_of_le hi h.size) hn).trans (h.block i hi hn)⟩
theorem Only.mono {S T : List Nat} {a b : World} (h : Only S a b) (hs : ∀ k ∈ S, k ∈ T) : Only T a b := ⟨h.os, h.tape, h.output, h.size, fun i hi hn => h.block i hi (fun hk => hn (hs i hk))⟩
theorem Only.of_grown {S : List Nat} {a b : World} {row : Option Nat} (h : a.grownBy b row) (hs : ∀ k, row = some k → k ∈ S) : Only S a b :=
  ⟨h.os, h.tape, h.output, h.size, fun i hi hn => h.block i hi (fun e => hn (hs i e.symm))⟩
theorem Only.of_below {S : List Nat} {a b : World} (h : Below a.heap.size a b) : Only S a b := ⟨h.os, h.tape, h.output, h.size, fun i hi _ => h.block i hi⟩
theorem Only.alloc (S : List Nat) (w : World) (o : Obj) : Only S w (w.alloc o) := ⟨rfl, rfl, rfl, by simp, fun k hk _ => Below.heap_alloc w o k hk⟩
theorem Only.drew (S : List Nat) (w : World) : Only S w w.drew := ⟨rfl, rfl, rfl, Nat.le_refl _, fun _ _ _ => rfl⟩
theorem Only.setCell {S : List Nat} (w : World) {p : Addr} (hp : p.block ∈ S) (v : Value) : Only S w (w.setCell p v) :=
  ⟨rfl, rfl, rfl, by simp [World.setCell], fun k _ hn => Below.heap_setCell w p v k (fun e => hn (by rw [e]; exact hp))⟩
theorem Only.below {S : List Nat} {w w' : World} (h : Only S w w') {B : Nat} (hB : B ≤ w.heap.size) (hS : ∀ k ∈ S, B ≤ k) : Below B w w' :=
  ⟨h.os, h.tape, h.output, h.size, fun k hk => h.block k (by omega) (fun hm => by have := hS k hm; omega)⟩
theorem only_heap {S : List Nat} {w w' : World} {b : Nat} {o : Obj} (h : w.heap[b]? = some o) (ho : Only S w w') (hb : b ∉ S) : w'.heap[b]? = some o := (ho.block b (heap_lt h) hb).trans h
/-- What was changed has been made since. -/
theorem Only.new {S T : List Nat} {a b c : World} (h : Only T a b) (k : Only S b c) (hs : ∀ i ∈ S, i ∈ T ∨ a.heap.size ≤ i) : Only T a c :=
  ⟨k.os.trans h.os, k.tape.trans h.tape, k.output.trans h.output, Nat.le_trans h.size k.size, fun i hi hn => (k.block i (Nat.lt_of_lt_of_le hi h.size) (fun hk => (hs i hk).elim hn (fun h => by omega))).trans (h.block i hi hn)⟩
theorem own_only {S : List Nat} {w w' : World} {B e z n : Nat} {v : Value} {l : List Value} (h : w.ownsRow B e z v n l) (ho : Only S w w') (hb : ∀ g, v.ownBlock = some g → g ∉ S) : w'.ownsRow B e z v n l := by
  obtain ⟨h1, h2⟩ := h
  refine ⟨h1, ?_⟩
  rcases h2 with h2 | ⟨g, cap, cur, rfl, b, c, d⟩
  · exact .inl h2
  · exact .inr ⟨g, cap, cur, rfl, b, only_heap c ho (hb g rfl), d⟩

/-- A delta stays where its block stays. -/
theorem rdd_only {S : List Nat} {w w' : World} {v : Value} {l : List OpD} (h : RdD w v l) (ho : Only S w w') (hb : ∀ g, v.ownBlock = some g → g ∉ S) : RdD w' v l := by
  obtain ⟨ao, cp, rfl, h0, h1⟩ := h
  refine ⟨ao, cp, rfl, h0, fun i o hi => ?_⟩
  obtain ⟨b, off, rfl, hl, c0, c1, c2⟩ := h1 i o hi
  have hbl := ho.block b hl (hb b rfl)
  have hc : ∀ j, w'.cell? ⟨b, j, none⟩ = w.cell? ⟨b, j, none⟩ := fun j => by unfold World.cell?; rw [hbl]
  exact ⟨b, off, rfl, Nat.lt_of_lt_of_le hl ho.size, (hc _).trans c0, (hc _).trans c1, (hc _).trans c2⟩

set_option maxRecDepth 20000 in
/-- All of a delta but its first operation. -/
theorem rdd_tail {W : World} {v : Value} {x : OpD} {l : List OpD} (h : RdD W v (x :: l)) : ∃ (b o cp : Nat) (v' : Value), v = .slice (some ⟨b, o, none⟩) (l.length + 1) cp ∧ b < W.heap.size ∧
    W.cell? ⟨b, o, none⟩ = some (.int .i64 x.k) ∧ W.cell? ⟨b, o + 1, none⟩ = some (.int .i64 x.n) ∧ W.cell? ⟨b, o + 2, none⟩ = some (.string x.t) ∧
    (∀ W' : World, (Instr.slice 39 v (some (.int .i64 1)) none none).run Tryz.prog W' = .ok v' W') ∧ RdD W v' l ∧ v'.ownBlock = some b := by
  obtain ⟨ao, cp, rfl, ⟨hcp, _⟩, h1⟩ := h
  obtain ⟨b, o, rfl, hl, c0, c1, c2⟩ := h1 0 x (by simp)
  rw [List.length_cons] at *
  simp only [Nat.zero_mul, Nat.add_zero] at c0 c1 c2
  have e : Tryz.prog.elem 39 = 59 := by kernel_rfl
  have hsl : ∀ W' : World, (Instr.slice 39 (.slice (some ⟨b, o, none⟩) (l.length + 1) cp) (some (.int .i64 1)) none none).run Tryz.prog W' = .ok (sliced (some ⟨b, o, none⟩) 1 (l.length + 1) cp 3) W' := fun W' => by
    rw [run_slice_l (P := Tryz.prog) W' 39 (some ⟨b, o, none⟩) (l.length + 1) cp Tryz.underlying39 .i64 1 (by omega) (by omega), e, sizeOp]
    rfl
  by_cases c : cp = 1
  · subst c
    have hl0 : l = [] := List.eq_nil_of_length_eq_zero (by omega)
    subst hl0
    exact ⟨b, o, 1, _, rfl, hl, c0, c1, c2, hsl, ⟨some ⟨b, o, none⟩, 0, rfl, ⟨Nat.le_refl _, fun h => by cases h⟩, fun i o h => by simp at h⟩, rfl⟩
  · have es : sliced (some ⟨b, o, none⟩) 1 (l.length + 1) cp 3 = .slice (some ⟨b, o + 3, none⟩) l.length (cp - 1) := by
      unfold sliced
      rw [if_neg c]
      simp [addr3]
    rw [es] at hsl
    refine ⟨b, o, cp, _, rfl, hl, c0, c1, c2, hsl, ⟨some ⟨b, o + 3, none⟩, cp - 1, rfl, ⟨by omega, fun h => by cases h⟩, fun i y hi => ?_⟩, rfl⟩
    obtain ⟨b', o', e', _, d0, d1, d2⟩ := h1 (i + 1) y (by simpa using hi)
    simp at e'
    obtain ⟨rfl, rfl⟩ := e'
    have e3 : o + (i + 1) * 3 = o + 3 + i * 3 := by omega
    rw [e3] at d0 d1 d2
    exact ⟨b, o + 3, rfl, hl, d0, d1, d2⟩

/-- The cells p and q hold what units captured; L is to come. It reads no block but those of B. -/
structure It (W : World) (p q : Nat) (R : List U) (ds : List St) (rv dv : Value) (B : List Nat) : Prop where
  cp : W.heap[p]? = some (.cells #[rv] 39 (0, 0))
  cq : W.heap[q]? = some (.cells #[dv] 39 (0, 0))
  ne : p ≠ q
  r : RdD W rv (R.map uop)
  d : RdD W dv (ds.map St.op)
  ok : ∀ s ∈ ds, s.Ok ∧ s.c ≤ 1000
  rb : ∀ g, rv.ownBlock = some g → g ∈ B ∧ g ≠ p ∧ g ≠ q
  db : ∀ g, dv.ownBlock = some g → g ∈ B ∧ g ≠ p ∧ g ≠ q
  pb : p ∈ B
  qb : q ∈ B
  lt : ∀ g ∈ B, g < W.heap.size

theorem It.only {W W' : World} {p q : Nat} {R : List U} {ds : List St} {rv dv : Value} {B S : List Nat} (h : It W p q R ds rv dv B) (ho : Only S W W') (hs : ∀ g ∈ B, g ∉ S) : It W' p q R ds rv dv B :=
  ⟨only_heap h.cp ho (hs _ h.pb), only_heap h.cq ho (hs _ h.qb), h.ne, rdd_only h.r ho (fun g e => hs g (h.rb g e).1), rdd_only h.d ho (fun g e => hs g (h.db g e).1), h.ok, h.rb, h.db, h.pb, h.qb, fun g hg => Nat.lt_of_lt_of_le (h.lt g hg) ho.size⟩

/-- L is to come. -/
def ItL (W : World) (p q : Nat) (L : List U) (B : List Nat) : Prop := ∃ R ds rv dv, L = R ++ uw ds ∧ It W p q R ds rv dv B
theorem ItL.only {W W' : World} {p q : Nat} {L : List U} {B S : List Nat} (h : ItL W p q L B) (ho : Only S W W') (hs : ∀ g ∈ B, g ∉ S) : ItL W' p q L B := by
  obtain ⟨R, ds, rv, dv, e, h⟩ := h
  exact ⟨R, ds, rv, dv, e, h.only ho hs⟩

theorem one_set {W : World} {p : Nat} {v : Value} {t : TypeId} (h : W.heap[p]? = some (.cells #[v] t (0, 0))) (x : Value) : (W.setCell ⟨p, 0, none⟩ x).heap[p]? = some (.cells #[x] t (0, 0)) := by
  have := heap_setCell h 0 x
  simpa using this

/-- The first unit has been taken. -/
theorem It.take {W : World} {p q : Nat} {u : U} {R : List U} {ds : List St} {rv dv rv' : Value} {B : List Nat} (h : It W p q (u :: R) ds rv dv B) (hr : RdD W rv' (R.map uop)) (hb : rv'.ownBlock = rv.ownBlock) : It (W.setCell ⟨p, 0, none⟩ rv') p q R ds rv' dv B := by
  have ho : Only [p] W (W.setCell ⟨p, 0, none⟩ rv') := Only.setCell W (by simp) _
  have hr' : ∀ g, rv'.ownBlock = some g → g ∈ B ∧ g ≠ p ∧ g ≠ q := fun g e => h.rb g (hb ▸ e)
  exact ⟨one_set h.cp rv', only_heap h.cq ho (by simp; exact fun e => h.ne e.symm), h.ne, rdd_only hr ho (fun g e => by simp; exact (hr' g e).2.1), rdd_only h.d ho (fun g e => by simp; exact (h.db g e).2.1), h.ok, hr', h.db, h.pb, h.qb, fun g hg => by have := h.lt g hg; simp [World.setCell]; exact this⟩

/-- A step has been made units. -/
theorem It.load {W W1 : World} {p q : Nat} {s : St} {ds : List St} {rv dv rv' dv' : Value} {B : List Nat} (h : It W p q [] (s :: ds) rv dv B) (hb : Below W.heap.size W W1)
    (ho : W1.ownsRow W.heap.size 59 3 rv' s.u.length (ocs (s.u.map uop))) (hd : RdD W dv' (ds.map St.op)) (hdb : dv'.ownBlock = dv.ownBlock) :
    ∃ B', It ((W1.setCell ⟨p, 0, none⟩ rv').setCell ⟨q, 0, none⟩ dv') p q s.u ds rv' dv' B' ∧ ∀ g ∈ B', g ∈ B ∨ W.heap.size ≤ g := by
  have hoA : Only [] W W1 := ⟨hb.os, hb.tape, hb.output, hb.size, fun i hi _ => hb.block i hi⟩
  have hoB : Only [p, q] W1 ((W1.setCell ⟨p, 0, none⟩ rv').setCell ⟨q, 0, none⟩ dv') := (Only.setCell _ (by simp) _).trans (Only.setCell _ (by simp) _)
  have hlp := h.lt p h.pb
  have hlq := h.lt q h.qb
  have hsz : W.heap.size ≤ ((W1.setCell ⟨p, 0, none⟩ rv').setCell ⟨q, 0, none⟩ dv').heap.size := Nat.le_trans hoA.size hoB.size
  have hrr : ∀ g, rv'.ownBlock = some g → W.heap.size ≤ g ∧ g < W1.heap.size := fun g e => ho.lt g e
  have hcp := only_heap h.cp hoA (by simp)
  have hcq := only_heap h.cq hoA (by simp)
  have hdd : ∀ g, dv'.ownBlock = some g → g ∈ B ∧ g ≠ p ∧ g ≠ q := fun g e => h.db g (hdb ▸ e)
  have hc1 := one_set hcp rv'
  have hc2 := only_heap hcq (Only.setCell (S := [p]) W1 (p := ⟨p, 0, none⟩) (by simp) rv') (by simp; exact fun e => h.ne e.symm)
  refine ⟨rv'.ownBlock.toList ++ B, ⟨only_heap hc1 (Only.setCell (S := [q]) _ (by simp) _) (by simp; exact h.ne), one_set hc2 dv', h.ne, ?_, ?_, fun s hs => h.ok s (by simp [hs]), ?_, ?_, by simp [h.pb], by simp [h.qb], ?_⟩, ?_⟩
  · refine rdd_only (rdd_own (l := s.u.map uop) (W := W1) (by rw [List.length_map]; exact ho)) hoB (fun g e => ?_)
    have := hrr g e
    simp
    omega
  · refine rdd_only (rdd_only hd hoA (by simp)) hoB (fun g e => ?_)
    have := hdd g e
    simp [this.2]
  · intro g e
    have := hrr g e
    refine ⟨by simp [e], by omega, by omega⟩
  · intro g e
    have := hdd g e
    exact ⟨by simp [this.1], this.2⟩
  · intro g hg
    simp only [List.mem_append, Option.mem_toList] at hg
    rcases hg with hg | hg
    · have := hrr g hg
      have := hoB.size
      omega
    · have := h.lt g hg
      omega
  · intro g hg
    simp only [List.mem_append, Option.mem_toList] at hg
    rcases hg with hg | hg
    · exact .inr (hrr g hg).1
    · exact .inl hg

theorem u_ne {s : St} (h : s.Ok) : 0 < s.u.length := by
  cases s with
  | keep n => simp [St.u]; have := h.1; omega
  | rem n => simp [St.u]; have := h.1; omega
  | ins t =>
    have := h.1
    simp [St.u, pts, ptL]
    omega
end Go.Proofs.YtcdnlkhjlgaaoaaGreatDoor
