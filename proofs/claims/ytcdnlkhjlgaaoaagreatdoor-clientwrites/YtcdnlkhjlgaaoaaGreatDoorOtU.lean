/-
  The contract of what puts a place's operations behind the delta.
-/
import Derived.Test.YtcdnlkhjlgaaoaaGreatDoorOtS
import Derived.Test.YtcdnlkhjlgaaoaaGreatDoorOtR
import Derived.Test.YtcdnlkhjlgaaoaaGreatDoorOtI
import Derived.Deep.RegionHeld3
import Derived.Deep.DeepCutAuto
namespace Go.Proofs.YtcdnlkhjlgaaoaaGreatDoor
open Go.ChangeShapes Go.WideShapes Go.ChangeAt Go.RowKit Go.PlainAid Go.Maps

def mineO (x : Spot) : OpD := ⟨2, 0, x.put⟩
def thrsO (y : Spot) : OpD := ⟨1, cpl y.put, ⟨#[]⟩⟩
/-- What comes of one place. -/
def outO (first : Bool) (x y : Spot) : List OpD := ((if first then [mineO x, thrsO y] else [thrsO y, mineO x]).filter OpD.does) ++ (if y.k = 1 then [⟨x.k, 1, ⟨#[]⟩⟩] else [])
def tfO (first : Bool) (SA SB : List Spot) : List OpD := (List.zipWith (outO first) SA SB).flatten
theorem tfO_snoc {first : Bool} {SA SB : List Spot} {x y : Spot} (h : SA.length = SB.length) : tfO first (SA ++ [x]) (SB ++ [y]) = tfO first SA SB ++ outO first x y := by
  unfold tfO
  rw [List.zipWith_append h]
  simp

/-- A delta of the call's own whose slice lies in a cell. -/
structure Dc (B : Nat) (W : World) (p : Nat) (d : Value) (D : List OpD) : Prop where
  cell : W.heap[p]? = some (.cells #[d] 39 (0, 0))
  own : W.ownsRow B 59 3 d D.length (ocs D)
  le : B ≤ W.heap.size
theorem Dc.ap {B : Nat} {W : World} {p : Nat} {d : Value} {D : List OpD} (h : Dc B W p d D) : d.ownBlock ≠ some p := fun e => box_apart h.own h.cell (by decide) e.symm
theorem Dc.only {B : Nat} {W W' : World} {p : Nat} {d : Value} {D : List OpD} {S : List Nat} (h : Dc B W p d D) (ho : Only S W W') (h1 : p ∉ S) (h2 : ∀ g, d.ownBlock = some g → g ∉ S) : Dc B W' p d D :=
  ⟨only_heap h.cell ho h1, own_only h.own ho h2, Nat.le_trans h.le ho.size⟩
/-- Behind a call of withSome and the store. -/
theorem Dc.put {B : Nat} {W W' : World} {p : Nat} {d u : Value} {D D' : List OpD} (h : Dc B W p d D) (hw : Ws B W W' d u D') : Dc B (W'.setCell ⟨p, 0, none⟩ u) p u D' ∧ Only (p :: d.ownBlock.toList) W (W'.setCell ⟨p, 0, none⟩ u) ∧ ∀ g ∈ p :: u.ownBlock.toList, g ∈ p :: d.ownBlock.toList ∨ W.heap.size ≤ g := by
  have hp : W'.heap[p]? = some (.cells #[d] 39 (0, 0)) := only_heap h.cell hw.only (by simp; exact h.ap)
  have hO : Only [p] W' (W'.setCell ⟨p, 0, none⟩ u) := Only.setCell W' (by simp) u
  have hn : ∀ g, u.ownBlock = some g → g ≠ p := fun g e e2 => by
    subst e2
    exact box_apart hw.own hp (by decide) e.symm
  refine ⟨⟨one_set hp u, own_only hw.own hO (fun g e => by simp; exact hn g e), Nat.le_trans h.le (Nat.le_trans hw.only.size hO.size)⟩, (hw.only.mono (fun k hk => by simp at hk ⊢; exact .inr hk)).trans (hO.mono (by simp)), fun g hg => ?_⟩
  simp only [List.mem_cons, Option.mem_toList] at hg ⊢
  rcases hg with rfl | hg
  · exact .inl (.inl rfl)
  · rcases hw.lies g hg with h1 | h1
    · exact .inl (.inr h1)
    · exact .inr h1

/-- What the second closure has. -/
structure I2 (B : Nat) (SA SB : List Spot) (first : Bool) (p5 p7 p8 m : Nat) (i : Nat) (BL : List Nat) (W : World) : Prop where
  ex : ∃ d, BL = p8 :: d.ownBlock.toList ∧ Dc B W p8 d (tfO first (SA.take i) (SB.take i))
  c5 : W.heap[p5]? = some (.cells #[.bool first] 4 (0, 0))
  c7 : W.heap[p7]? = some (.cells #[.map (some m)] 152 (0, 0))
  mp : MpS W m SB
section
variable {B : Nat} {SA SB : List Spot} {first : Bool} {p5 p7 p8 m i : Nat} {BL : List Nat} {W W' : World}
theorem I2.alloc (h : I2 B SA SB first p5 p7 p8 m i BL W) (x : Obj) : I2 B SA SB first p5 p7 p8 m i BL (W.alloc x) := by
  obtain ⟨⟨d, e, hd⟩, h5, h7, hm⟩ := h
  have hO := Only.alloc [] W x
  exact ⟨⟨d, e, hd.only hO (by simp) (by simp)⟩, only_heap h5 hO (by simp), only_heap h7 hO (by simp), hm.only hO (by simp)⟩
theorem I2.lt (h : I2 B SA SB first p5 p7 p8 m i BL W) : ∀ g ∈ BL, g < W.heap.size := by
  obtain ⟨⟨d, e, hd⟩, h5, h7, hm⟩ := h
  subst e
  intro g hg
  simp only [List.mem_cons, Option.mem_toList] at hg
  rcases hg with rfl | hg
  · exact heap_lt hd.cell
  · exact (hd.own.lt g hg).2
/-- What it reads is none of what it changes. -/
theorem I2.apart (h : I2 B SA SB first p5 p7 p8 m i BL W) : p5 ∉ BL ∧ p7 ∉ BL ∧ m ∉ BL := by
  obtain ⟨⟨d, e, hd⟩, h5, h7, hm⟩ := h
  subst e
  obtain ⟨es, c, hmm, _⟩ := hm
  have hc := hd.cell
  refine ⟨?_, ?_, ?_⟩
  · simp only [List.mem_cons, Option.mem_toList, not_or]
    refine ⟨fun e => ?_, fun e => box_apart hd.own h5 (by decide) e.symm⟩
    subst e; rw [hc] at h5; simp at h5
  · simp only [List.mem_cons, Option.mem_toList, not_or]
    refine ⟨fun e => ?_, fun e => box_apart hd.own h7 (by decide) e.symm⟩
    subst e; rw [hc] at h7; simp at h7
  · simp only [List.mem_cons, Option.mem_toList, not_or]
    refine ⟨fun e => ?_, fun e => ?_⟩
    · subst e; rw [hc] at hmm; simp at hmm
    · rcases hd.own.2 with ⟨rfl, _⟩ | ⟨g, cap, cur, rfl, _, hg, _⟩
      · cases e
      · simp [Value.ownBlock] at e
        subst e
        rw [hg] at hmm; simp at hmm
end

/-- Behind the two operations: they lie in two new boxes. -/
def Cu (W wx : World) (a8 a9 : Value) (x y : Spot) : Prop :=
  ∃ b8 b9, a8 = .pointer (some ⟨b8, 0, none⟩) ∧ a9 = .pointer (some ⟨b9, 0, none⟩) ∧ wx.heap[b8]? = some (.cells #[.int .i64 2, .int .i64 0, .string x.put] 59 (0, 0)) ∧ wx.heap[b9]? = some (.cells #[.int .i64 1, .int .i64 (cpl y.put), .string ⟨#[]⟩] 59 (0, 0)) ∧ W.heap.size ≤ b8 ∧ W.heap.size ≤ b9 ∧ Only [] W wx

/-- On the way through the region that makes them: new boxes at l. -/
structure Tr (W X : World) (l : List Nat) : Prop where
  only : Only [] W X
  box : ∀ b ∈ l, W.heap.size ≤ b ∧ X.heap[b]? = some (.cells #[.int .i64 0, .int .i64 0, .string ⟨#[]⟩] 59 (0, 0))
  nd : l.Nodup
theorem Tr.start (W : World) : Tr W W.drew [] := ⟨Only.drew _ _, by simp, by simp⟩
theorem Tr.call {W X X' : World} {l : List Nat} (h : Tr W X l) (hb : Below X.heap.size X X') : Tr W X' l := by
  have hO : Only [] X X' := Only.of_below hb
  exact ⟨h.only.trans hO, fun b hm => ⟨(h.box b hm).1, only_heap (h.box b hm).2 hO (by simp)⟩, h.nd⟩
theorem Tr.alloc {W X : World} {l : List Nat} (h : Tr W X l) : Tr W (X.alloc (.cells #[.int .i64 0, .int .i64 0, .string ⟨#[]⟩] 59)) (X.heap.size :: l) := by
  have hO : Only [] X (X.alloc (.cells #[.int .i64 0, .int .i64 0, .string ⟨#[]⟩] 59)) := Only.alloc _ _ _
  refine ⟨h.only.trans hO, fun b hm => ?_, ?_⟩
  · rcases List.mem_cons.1 hm with rfl | hm
    · exact ⟨h.only.size, heap_alloc_new _ _⟩
    · exact ⟨(h.box b hm).1, only_heap (h.box b hm).2 hO (by simp)⟩
  · refine List.nodup_cons.2 ⟨fun hm => ?_, h.nd⟩
    have := heap_lt (h.box _ hm).2
    omega
theorem Tr.alloc2 {W X : World} {l : List Nat} (h : Tr W X l) : Tr W ((X.alloc (.cells #[.int .i64 0, .int .i64 0, .string ⟨#[]⟩] 59)).alloc (.cells #[.int .i64 0, .int .i64 0, .string ⟨#[]⟩] 59)) ((X.heap.size + 1) :: X.heap.size :: l) := by
  have := h.alloc.alloc
  rw [World.size_alloc] at this
  exact this
theorem Tr.alloc0 {W : World} {a b : Obj} (h : Tr ((W.alloc a).alloc b) ((W.alloc a).alloc b).drew []) : Tr ((W.alloc a).alloc b) (((W.alloc a).alloc b).drew.alloc (.cells #[.int .i64 0, .int .i64 0, .string ⟨#[]⟩] 59)) [W.heap.size + 1 + 1] := by
  have := h.alloc
  have e : ((W.alloc a).alloc b).drew.heap.size = W.heap.size + 1 + 1 := by show ((W.alloc a).alloc b).heap.size = _; rw [World.size_alloc, World.size_alloc]
  rw [e] at this
  exact this
theorem Tr.alloc00 {W : World} {a b : Obj} (h : Tr ((W.alloc a).alloc b) ((W.alloc a).alloc b).drew []) : Tr ((W.alloc a).alloc b) ((((W.alloc a).alloc b).drew.alloc (.cells #[.int .i64 0, .int .i64 0, .string ⟨#[]⟩] 59)).alloc (.cells #[.int .i64 0, .int .i64 0, .string ⟨#[]⟩] 59)) [W.heap.size + 1 + 1 + 1, W.heap.size + 1 + 1] := by
  have := h.alloc0.alloc
  have e : (((W.alloc a).alloc b).drew.alloc (.cells #[.int .i64 0, .int .i64 0, .string ⟨#[]⟩] 59)).heap.size = W.heap.size + 1 + 1 + 1 := by rw [World.size_alloc]; show ((W.alloc a).alloc b).heap.size + 1 = _; rw [World.size_alloc, World.size_alloc]
  rw [e] at this
  exact this
theorem Tr.s {W X : World} {l : List Nat} {x y : Spot} (h : Tr ((W.alloc (.cells #[.string x.put, .int .i64 x.k] 155)).alloc (.cells #[.string y.put, .int .i64 y.k] 155)) X l) :
    X.cell? ⟨W.heap.size, 0, none⟩ = some (.string x.put) ∧ X.cell? ⟨W.heap.size + 1, 0, none⟩ = some (.string y.put) := by
  have h0 := heap_alloc_new (W.alloc (.cells #[.string x.put, .int .i64 x.k] 155)) (.cells #[.string y.put, .int .i64 y.k] 155)
  rw [World.size_alloc] at h0
  have h2 : ((W.alloc (.cells #[.string x.put, .int .i64 x.k] 155)).alloc (.cells #[.string y.put, .int .i64 y.k] 155)).heap[W.heap.size]? = some (.cells #[.string x.put, .int .i64 x.k] 155) := (Below.heap_alloc _ _ _ (by simp)).trans (heap_alloc_new W _)
  exact ⟨cell_of_row _ _ 0 _ _ (0, 0) (only_heap h2 h.only (by simp)), cell_of_row _ _ 0 _ _ (0, 0) (only_heap h0 h.only (by simp))⟩
theorem Tr.sz {W X : World} {l : List Nat} {x y : Obj} (h : Tr ((W.alloc x).alloc y) X l) : W.heap.size + 2 ≤ X.heap.size := by
  have := h.only.size
  simp at this
  omega
theorem cell_lt {V : World} {p : Addr} {v : Value} (h : V.cell? p = some v) : p.block < V.heap.size := by
  unfold World.cell? at h
  split at h
  · rename_i hh; exact heap_lt hh
  · cases h
theorem s_alloc {V : World} {p q : Addr} {u v : Value} (h : V.cell? p = some u ∧ V.cell? q = some v) (Z : Obj) : (V.alloc Z).cell? p = some u ∧ (V.alloc Z).cell? q = some v := by
  have e : ∀ k, k < V.heap.size → (V.alloc Z).heap[k]? = V.heap[k]? := fun k hk => Below.heap_alloc V Z k hk
  refine ⟨?_, ?_⟩
  · rw [← h.1]; unfold World.cell?; rw [e _ (cell_lt h.1)]
  · rw [← h.2]; unfold World.cell?; rw [e _ (cell_lt h.2)]
theorem s_drew {V : World} {p q : Addr} {u v : Value} (h : V.cell? p = some u ∧ V.cell? q = some v) : V.drew.cell? p = some u ∧ V.drew.cell? q = some v := h
theorem s_set {V : World} {p q : Addr} {u v : Value} (h : V.cell? p = some u ∧ V.cell? q = some v) {b o : Nat} {z : Value} (h1 : p.block ≠ b) (h2 : q.block ≠ b) : (V.setCell ⟨b, o, none⟩ z).cell? p = some u ∧ (V.setCell ⟨b, o, none⟩ z).cell? q = some v := by
  have e : ∀ k, k ≠ b → (V.setCell ⟨b, o, none⟩ z).heap[k]? = V.heap[k]? := fun k hk => Below.heap_setCell V ⟨b, o, none⟩ z k (fun e => hk e)
  refine ⟨?_, ?_⟩
  · rw [← h.1]; unfold World.cell?; rw [e _ h1]
  · rw [← h.2]; unfold World.cell?; rw [e _ h2]

theorem Tr.at {W X : World} {l : List Nat} (h : Tr W X l) {b : Nat} (hb : b ∈ l) : X.heap[b]? = some (.cells zop.cs 59 (0, 0)) := (h.box b hb).2
theorem two_ne {W X : World} {b c : Nat} (h : Tr W X [b, c]) : b ≠ c := fun e => by have := h.nd; simp [e] at this
/-- What a store of an operation into such a box asks. -/
def StF (X : World) (b : Nat) : Prop :=
    X.frozen? ⟨b, 0, none⟩ = false ∧ X.cell? ⟨b, 0, none⟩ = some (.int .i64 0) ∧ (∀ k, (X.setCell ⟨b, 0, none⟩ k).frozen? ⟨b, 1, none⟩ = false) ∧ (∀ k, (X.setCell ⟨b, 0, none⟩ k).cell? ⟨b, 1, none⟩ = some (.int .i64 0)) ∧
    (∀ k n, ((X.setCell ⟨b, 0, none⟩ k).setCell ⟨b, 1, none⟩ n).frozen? ⟨b, 2, none⟩ = false) ∧ (∀ k n, ((X.setCell ⟨b, 0, none⟩ k).setCell ⟨b, 1, none⟩ n).cell? ⟨b, 2, none⟩ = some (.string ⟨#[]⟩))
theorem stF_of {X : World} {b : Nat} (h : X.heap[b]? = some (.cells zop.cs 59 (0, 0))) : StF X b := stf h
theorem stF_all {X : World} {b : Nat} (h : X.heap[b]? = some (.cells zop.cs 59 (0, 0))) (Z : Obj) : StF (X.alloc Z) b := stF_of (only_heap h (Only.alloc [] X Z) (by simp))
theorem stF_other {X : World} {b c : Nat} (h : X.heap[c]? = some (.cells zop.cs 59 (0, 0))) (hn : c ≠ b) (x y z : Value) : StF (((X.setCell ⟨b, 0, none⟩ x).setCell ⟨b, 1, none⟩ y).setCell ⟨b, 2, none⟩ z) c :=
  stF_of (only_heap h (((Only.setCell (S := [b]) X (by simp) x).trans (Only.setCell _ (by simp) y)).trans (Only.setCell _ (by simp) z)) (by simp; exact hn))

theorem Tr.fresh {W X : World} {l : List Nat} (h : Tr W X l) {b : Nat} (hb : b ∈ l) (x y z : Value) : StF ((((X.alloc (.cells #[.int .i64 0, .int .i64 0, .string ⟨#[]⟩] 59)).setCell ⟨b, 0, none⟩ x).setCell ⟨b, 1, none⟩ y).setCell ⟨b, 2, none⟩ z) X.heap.size :=
  stF_other (heap_alloc_new X _) (by have := heap_lt (h.at hb); omega) x y z

def mC (x : Spot) : Array Value := #[.int .i64 2, .int .i64 0, .string x.put]
def tC (y : Spot) : Array Value := #[.int .i64 1, .int .i64 (cpl y.put), .string ⟨#[]⟩]
theorem set3' {X : World} {b : Nat} {k n t : Value} (h : X.heap[b]? = some (.cells zop.cs 59 (0, 0))) : (((X.setCell ⟨b, 0, none⟩ k).setCell ⟨b, 1, none⟩ n).setCell ⟨b, 2, none⟩ t).heap[b]? = some (.cells #[k, n, t] 59 (0, 0)) := by
  rw [set3 h]
  exact setRow_heap _ _ _ _ _ _ h
theorem only3 (X : World) (b : Nat) (k n t : Value) : Only [b] X (((X.setCell ⟨b, 0, none⟩ k).setCell ⟨b, 1, none⟩ n).setCell ⟨b, 2, none⟩ t) :=
  ((Only.setCell (S := [b]) X (by simp) k).trans (Only.setCell _ (by simp) n)).trans (Only.setCell _ (by simp) t)
theorem only_new {W X Y : World} {b : Nat} (h : Only [] W X) (k : Only [b] X Y) (hb : W.heap.size ≤ b) : Only [] W Y := h.new k (fun i hi => .inr (by simp at hi; omega))
/-- Both boxes were there. -/
theorem cuD {W X : World} {l : List Nat} {x y : Spot} {b8 b9 : Nat} (h : Tr W X l) (h8 : b8 ∈ l) (h9 : b9 ∈ l) (hn : b9 ≠ b8) :
    Cu W ((((((X.setCell ⟨b8, 0, none⟩ (.int .i64 2)).setCell ⟨b8, 1, none⟩ (.int .i64 0)).setCell ⟨b8, 2, none⟩ (.string x.put)).setCell ⟨b9, 0, none⟩ (.int .i64 1)).setCell ⟨b9, 1, none⟩ (.int .i64 (cpl y.put))).setCell ⟨b9, 2, none⟩ (.string ⟨#[]⟩)) (.pointer (some ⟨b8, 0, none⟩)) (.pointer (some ⟨b9, 0, none⟩)) x y := by
  have e8 := set3' (k := .int .i64 2) (n := .int .i64 0) (t := .string x.put) (h.at h8)
  have o8 := only3 X b8 (.int .i64 2) (.int .i64 0) (.string x.put)
  have e9 := only_heap (h.at h9) o8 (by simp; exact hn)
  have g9 := set3' (k := .int .i64 1) (n := .int .i64 (cpl y.put)) (t := .string ⟨#[]⟩) e9
  have o9 := only3 (((X.setCell ⟨b8, 0, none⟩ (.int .i64 2)).setCell ⟨b8, 1, none⟩ (.int .i64 0)).setCell ⟨b8, 2, none⟩ (.string x.put)) b9 (.int .i64 1) (.int .i64 (cpl y.put)) (.string ⟨#[]⟩)
  exact ⟨b8, b9, rfl, rfl, only_heap e8 o9 (by simp; exact fun e => hn e.symm), g9, (h.box _ h8).1, (h.box _ h9).1, only_new (only_new h.only o8 (h.box _ h8).1) o9 (h.box _ h9).1⟩
/-- The first is made with what it holds. -/
theorem cuC {W X : World} {l : List Nat} {x y : Spot} {b9 : Nat} (h : Tr W X l) (h9 : b9 ∈ l) :
    Cu W ((((X.alloc (.cells #[.int .i64 2, .int .i64 0, .string x.put] 59)).setCell ⟨b9, 0, none⟩ (.int .i64 1)).setCell ⟨b9, 1, none⟩ (.int .i64 (cpl y.put))).setCell ⟨b9, 2, none⟩ (.string ⟨#[]⟩)) (.pointer (some ⟨X.heap.size, 0, none⟩)) (.pointer (some ⟨b9, 0, none⟩)) x y := by
  have hl := heap_lt (h.at h9)
  have o8 : Only [] X (X.alloc (.cells #[.int .i64 2, .int .i64 0, .string x.put] 59)) := Only.alloc _ _ _
  have g9 := set3' (k := .int .i64 1) (n := .int .i64 (cpl y.put)) (t := .string ⟨#[]⟩) (only_heap (h.at h9) o8 (by simp))
  have o9 := only3 (X.alloc (.cells #[.int .i64 2, .int .i64 0, .string x.put] 59)) b9 (.int .i64 1) (.int .i64 (cpl y.put)) (.string ⟨#[]⟩)
  exact ⟨_, b9, rfl, rfl, only_heap (heap_alloc_new X _) o9 (by simp; omega), g9, h.only.size, (h.box _ h9).1, only_new (h.only.trans o8) o9 (h.box _ h9).1⟩
/-- Both are made with what they hold. -/
theorem cuA {W X : World} {l : List Nat} {x y : Spot} (h : Tr W X l) :
    Cu W ((X.alloc (.cells #[.int .i64 2, .int .i64 0, .string x.put] 59)).alloc (.cells #[.int .i64 1, .int .i64 (cpl y.put), .string ⟨#[]⟩] 59)) (.pointer (some ⟨X.heap.size, 0, none⟩)) (.pointer (some ⟨X.heap.size + 1, 0, none⟩)) x y := by
  have hs := h.only.size
  have e9 := heap_alloc_new (X.alloc (.cells #[.int .i64 2, .int .i64 0, .string x.put] 59)) (.cells #[.int .i64 1, .int .i64 (cpl y.put), .string ⟨#[]⟩] 59)
  rw [World.size_alloc] at e9
  exact ⟨_, _, rfl, rfl, (Below.heap_alloc _ _ _ (by simp)).trans (heap_alloc_new X _), e9, hs, by omega, (h.only.trans (Only.alloc _ _ _)).trans (Only.alloc _ _ _)⟩
theorem cuA2 {W X : World} {l : List Nat} {x y : Spot} (h : Tr W X l) :
    Cu W ((X.alloc (.cells #[.int .i64 1, .int .i64 (cpl y.put), .string ⟨#[]⟩] 59)).alloc (.cells #[.int .i64 2, .int .i64 0, .string x.put] 59)) (.pointer (some ⟨X.heap.size + 1, 0, none⟩)) (.pointer (some ⟨X.heap.size, 0, none⟩)) x y := by
  have hs := h.only.size
  have e9 := heap_alloc_new (X.alloc (.cells #[.int .i64 1, .int .i64 (cpl y.put), .string ⟨#[]⟩] 59)) (.cells #[.int .i64 2, .int .i64 0, .string x.put] 59)
  rw [World.size_alloc] at e9
  exact ⟨_, _, rfl, rfl, e9, (Below.heap_alloc _ _ _ (by simp)).trans (heap_alloc_new X _), by omega, hs, (h.only.trans (Only.alloc _ _ _)).trans (Only.alloc _ _ _)⟩

theorem many_newS (wr : World) (l : List Value) (e n : Nat) (hn : wr.heap.size = n) : ∀ j u, l[j]? = some u → (wr.alloc (.cells l.toArray e)).cell? ((⟨n, 0, none⟩ : Addr).add j) = some u := by
  subst hn
  exact many_new wr l e
def two (o p : OpD) : Obj := .cells #[.int .i64 o.k, .int .i64 o.n, .string o.t, .int .i64 p.k, .int .i64 p.n, .string p.t] 59
theorem rdd_two (X : World) (o p : OpD) : RdD (X.alloc (two o p)) (.slice (some ⟨X.heap.size, 0, none⟩) 2 2) [o, p] := by
  refine ⟨_, 2, rfl, ⟨by simp, by simp⟩, fun i q hi => ⟨X.heap.size, 0, rfl, by simp, ?_⟩⟩
  have h := heap_alloc_new X (two o p)
  have hc : ∀ j, (X.alloc (two o p)).cell? ⟨X.heap.size, j, none⟩ = #[Value.int .i64 o.k, .int .i64 o.n, .string o.t, .int .i64 p.k, .int .i64 p.n, .string p.t][j]? := fun j => by unfold World.cell?; rw [h]; simp only [two]; rfl
  match i, hi with
  | 0, hi => simp at hi; subst hi; exact ⟨hc 0, hc 1, hc 2⟩
  | 1, hi => simp at hi; subst hi; exact ⟨hc 3, hc 4, hc 5⟩
  | i + 2, hi => simp at hi
theorem Dc.after {B : Nat} {W W' : World} {p : Nat} {d u : Value} {D D' : List OpD} (h : Dc B W p d D) (hw : Ws B W W' d u D') : W'.cell? ⟨p, 0, none⟩ = some d ∧ W'.frozen? ⟨p, 0, none⟩ = false := by
  have hp : W'.heap[p]? = some (.cells #[d] 39 (0, 0)) := only_heap h.cell hw.only (by simp; exact h.ap)
  exact ⟨cell_of_row _ _ 0 _ _ (0, 0) hp, frz hp 0⟩
/-- What is behind the first store. -/
structure Aft (B : Nat) (W Y : World) (p8 : Nat) (d u : Value) (D : List OpD) (x y : Spot) : Prop where
  dc : Dc B Y p8 u D
  only : Only (p8 :: d.ownBlock.toList) W Y
  lies : ∀ g ∈ p8 :: u.ownBlock.toList, g ∈ p8 :: d.ownBlock.toList ∨ W.heap.size ≤ g
  bx : Y.heap[W.heap.size]? = some (.cells #[.string x.put, .int .i64 x.k] 155 (0, 0))
  bY : Y.heap[W.heap.size + 1]? = some (.cells #[.string y.put, .int .i64 y.k] 155 (0, 0))
theorem aft_of {B : Nat} {W wc w1 : World} {p8 : Nat} {d u : Value} {D D' : List OpD} {x y : Spot} {C : Obj} (hd : Dc B W p8 d D) (hO : Only [] W wc) (hs : W.heap.size + 2 ≤ wc.heap.size) (bx : wc.heap[W.heap.size]? = some (.cells #[.string x.put, .int .i64 x.k] 155 (0, 0))) (bY : wc.heap[W.heap.size + 1]? = some (.cells #[.string y.put, .int .i64 y.k] 155 (0, 0)))
    (hw : Ws B (wc.alloc C) w1 d u D') : (w1.cell? ⟨p8, 0, none⟩ = some d ∧ w1.frozen? ⟨p8, 0, none⟩ = false) ∧ Aft B W (w1.setCell ⟨p8, 0, none⟩ u) p8 d u D' x y := by
  have hO2 : Only [] W (wc.alloc C) := hO.trans (Only.alloc _ _ _)
  have hd2 := hd.only hO2 (by simp) (by simp)
  obtain ⟨h1, h2, h3⟩ := hd2.put hw
  have hp := heap_lt hd.cell
  have hn : ∀ b, W.heap.size ≤ b → b ∉ p8 :: d.ownBlock.toList := fun b hb hm => by
    simp only [List.mem_cons, Option.mem_toList] at hm
    rcases hm with rfl | hm
    · omega
    · have := (hd.own.lt _ hm).2; omega
  have hal : ∀ (b : Nat) (o : Obj), wc.heap[b]? = some o → (wc.alloc C).heap[b]? = some o := fun b o h => only_heap h (Only.alloc [] wc C) (by simp)
  refine ⟨hd2.after hw, h1, (hO2.mono (by simp)).trans h2, fun g hg => ?_, only_heap (hal _ _ bx) h2 (hn _ (Nat.le_refl _)), only_heap (hal _ _ bY) h2 (hn _ (by omega))⟩
  rcases h3 g hg with h | h
  · exact .inl h
  · exact .inr (by have : (wc.alloc C).heap.size = wc.heap.size + 1 := by simp
                   omega)
/-- What is behind the second one. -/
theorem aft_app {B : Nat} {W Y w3 : World} {p8 g cap : Nat} {d u : Value} {D : List OpD} {x y : Spot} {o : OpD} {C : Obj} (h : Aft B W Y p8 d u D x y)
    (ho : w3.ownsRow B 59 3 (.slice (some ⟨g, 0, none⟩) (D.length + 1) cap) (D.length + 1) (ocs D ++ [Value.int .i64 o.k, .int .i64 o.n, .string o.t])) (hg : (Y.alloc C).grownBy w3 u.ownBlock) (hl : u.ownBlock = some g ∨ g = Y.heap.size + 1) :
    (w3.cell? ⟨p8, 0, none⟩ = some u ∧ w3.frozen? ⟨p8, 0, none⟩ = false) ∧ Dc B (w3.setCell ⟨p8, 0, none⟩ (.slice (some ⟨g, 0, none⟩) (D.length + 1) cap)) p8 (.slice (some ⟨g, 0, none⟩) (D.length + 1) cap) (D ++ [o]) ∧ Only (p8 :: d.ownBlock.toList) W (w3.setCell ⟨p8, 0, none⟩ (.slice (some ⟨g, 0, none⟩) (D.length + 1) cap)) ∧
      ∀ k ∈ p8 :: (Value.slice (some ⟨g, 0, none⟩) (D.length + 1) cap).ownBlock.toList, k ∈ p8 :: d.ownBlock.toList ∨ W.heap.size ≤ k := by
  have hW : Ws B Y Y u u D := ⟨h.dc.own, Only.refl _ _, fun g e => .inl e⟩
  have hZ := hW.app (o := o) ho hg hl
  obtain ⟨h1, h2, h3⟩ := h.dc.put hZ
  refine ⟨h.dc.after hZ, h1, h.only.new h2 h.lies, fun k hk => ?_⟩
  rcases h3 k hk with h4 | h4
  · exact h.lies k h4
  · have := h.only.size; exact .inr (by omega)
theorem i2_next {B : Nat} {SA SB : List Spot} {first : Bool} {p5 p7 p8 m i : Nat} {BL : List Nat} {W W' : World} {u : Value} (h : I2 B SA SB first p5 p7 p8 m i BL W) (hd : Dc B W' p8 u (tfO first (SA.take (i + 1)) (SB.take (i + 1)))) (ho : Only BL W W') : I2 B SA SB first p5 p7 p8 m (i + 1) (p8 :: u.ownBlock.toList) W' := by
  obtain ⟨a5, a7, am⟩ := h.apart
  exact ⟨⟨u, rfl, hd⟩, only_heap h.c5 ho a5, only_heap h.c7 ho a7, h.mp.only ho am⟩

set_option maxRecDepth 20000 in
set_option maxHeartbeats 6000000 in
theorem see2_any {B : Nat} {SA SB : List Spot} {first : Bool} {p5 p7 p8 m i : Nat} {BL : List Nat} {W : World} (h : I2 B SA SB first p5 p7 p8 m i BL W) {x y : Spot} (hx : SA[i]? = some x) (hy : SB[i]? = some y) (oy : y.Ok) (hc : 0 ≤ cpl y.put) (hs : y.put.size ≤ 1048576) (hl : SB.length ≤ 1500) (hD : (tfO first (SA.take i) (SB.take i)).length ≤ 90000) :
    Calls Tryz.prog 106 #[.int .i64 (i : Int), .agg #[.string x.put, .int .i64 x.k], .pointer (some ⟨p7, 0, none⟩), .pointer (some ⟨p5, 0, none⟩), .pointer (some ⟨p8, 0, none⟩)] W fun e w' => e = .returned (.tuple #[]) ∧ ∃ BL', I2 B SA SB first p5 p7 p8 m (i + 1) BL' w' ∧ Only BL W w' ∧ ∀ g ∈ BL', g ∈ BL ∨ W.heap.size ≤ g := by
  have hA := h.alloc (.cells #[.string x.put, .int .i64 x.k] 155)
  have hA2 := hA.alloc (.cells #[.string y.put, .int .i64 y.k] 155)
  have hlk := hA.mp.lookup hy oy (by omega)
  have hc7 : (W.alloc (.cells #[.string x.put, .int .i64 x.k] 155)).cell? ⟨p7, 0, none⟩ = some (.map (some m)) := cell_of_row _ _ 0 _ _ (0, 0) hA.c7
  have hI := otIns_any x.put
  have hR := fun w => runes_any y.put w hs hc
  have hK := otKeep_any (cpl y.put)
  go_enter Tryz.func106, Tryz.ntmps106
  go_upto_region 2 with fail
  go_cut [8, 9] (fun a8 a9 wx => Cu ((W.alloc (.cells #[.string x.put, .int .i64 x.k] 155)).alloc (.cells #[.string y.put, .int .i64 y.k] 155)) wx a8 a9 x y)
  case first =>
    have hT := Tr.start ((W.alloc (.cells #[.string x.put, .int .i64 x.k] 155)).alloc (.cells #[.string y.put, .int .i64 y.k] 155))
    have hS0 := hT.s
    have hS1 : ((W.alloc (.cells #[.string x.put, .int .i64 x.k] 155)).alloc (.cells #[.string y.put, .int .i64 y.k] 155)).cell? ⟨W.heap.size, 0, none⟩ = some (.string x.put) ∧ ((W.alloc (.cells #[.string x.put, .int .i64 x.k] 155)).alloc (.cells #[.string y.put, .int .i64 y.k] 155)).cell? ⟨W.heap.size + 1, 0, none⟩ = some (.string y.put) := hS0
    clear h hA hA2 hlk hc7
    go_region_held3 (fun V => V.cell? ⟨W.heap.size, 0, none⟩ = some (.string x.put) ∧ V.cell? ⟨W.heap.size + 1, 0, none⟩ = some (.string y.put))
      (repeat (first | with_reducible assumption | with_reducible exact hT.s | with_reducible refine s_alloc ?_ _ | with_reducible refine s_drew ?_ | (with_reducible refine s_set ?_ ?_ ?_; rotate_left; (simp only; omega); (simp only; omega))))
      (first
      | (go_at_call 107; refine (hI _).mono ?_; rintro e w1 ⟨rfl, hb1⟩; (first | replace hT := hT.call hb1 | replace hT := hT.alloc0.call hb1 | replace hT := hT.alloc00.call hb1); have z1 := hT.sz)
      | (go_at_call 63; refine (hR _).mono ?_; rintro e w2 ⟨rfl, hb2⟩; (first | replace hT := hT.call hb2 | replace hT := hT.alloc.call hb2 | replace hT := hT.alloc2.call hb2); have z2 := hT.sz)
      | (go_at_call 108; refine (hK _).mono ?_; rintro e w3 ⟨rfl, hb3⟩; (first | replace hT := hT.call hb3 | replace hT := hT.alloc.call hb3 | replace hT := hT.alloc2.call hb3); have z3 := hT.sz; (first | (have g1 := stF_of (hT.at (List.mem_cons_self ..)); have g2 := stF_of (hT.at (List.mem_cons_of_mem _ (List.mem_cons_self ..))); have g3 := stF_other (hT.at (List.mem_cons_self ..)) (two_ne hT); have g4 := stF_other (hT.at (List.mem_cons_of_mem _ (List.mem_cons_self ..))) (two_ne hT).symm; unfold StF at g1 g2 g3 g4) | (have g1 := stF_of (hT.at (List.mem_cons_self ..)); have g2 := stF_all (hT.at (List.mem_cons_self ..)); have g3 := hT.fresh (List.mem_cons_self ..); unfold StF at g1 g2 g3) | skip)))
    all_goals
      go_wp2_with fail
      go_meet
    all_goals first
      | with_reducible exact cuA hT
      | with_reducible exact cuA2 hT
      | with_reducible exact cuC hT (List.mem_cons_self ..)
      | with_reducible exact cuD hT (List.mem_cons_self ..) (List.mem_cons_of_mem _ (List.mem_cons_self ..)) (two_ne hT).symm
      | with_reducible exact cuD hT (List.mem_cons_of_mem _ (List.mem_cons_self ..)) (List.mem_cons_self ..) (two_ne hT)
      | with_reducible exact cuD hT.alloc (List.mem_cons_of_mem _ (List.mem_cons_self ..)) (List.mem_cons_self ..) (two_ne hT.alloc)
  case rest =>
    obtain ⟨b8, b9, rfl, rfl, e8, e9, l8, l9, hO⟩ := hcut
    clear hI hR hK hlk hc7 hA2 hA
    obtain ⟨⟨d, hBL, hd⟩, h5, _, _⟩ := id h
    subst hBL
    have hO1 : Only [] W ((W.alloc (.cells #[.string x.put, .int .i64 x.k] 155)).alloc (.cells #[.string y.put, .int .i64 y.k] 155)) := (Only.alloc _ _ _).trans (Only.alloc _ _ _)
    have hOW : Only [] W wc := hO1.trans hO
    have hsz : W.heap.size + 2 ≤ wc.heap.size := by have := hO.size; simp at this; omega
    have f0 := heap_alloc_new (W.alloc (.cells #[.string x.put, .int .i64 x.k] 155)) (.cells #[.string y.put, .int .i64 y.k] 155)
    rw [World.size_alloc] at f0
    have bY := only_heap f0 hO (by simp)
    have bx := only_heap ((Below.heap_alloc (W.alloc (.cells #[.string x.put, .int .i64 x.k] 155)) (.cells #[.string y.put, .int .i64 y.k] 155) _ (by simp)).trans (heap_alloc_new W (.cells #[.string x.put, .int .i64 x.k] 155))) hO (by simp)
    have hdc := hd.only hOW (by simp) (by simp)
    have q5 : wc.cell? ⟨p5, 0, none⟩ = some (.bool first) := cell_of_row _ _ 0 _ _ (0, 0) (only_heap h5 hOW (by simp))
    have q8 : wc.cell? ⟨p8, 0, none⟩ = some d := cell_of_row _ _ 0 _ _ (0, 0) hdc.cell
    have m0 : wc.cell? ⟨b8, 0, none⟩ = some (.int .i64 2) := cell_of_row _ _ 0 _ _ (0, 0) e8
    have m1 : wc.cell? ⟨b8, 1, none⟩ = some (.int .i64 0) := cell_of_row _ _ 1 _ _ (0, 0) e8
    have m2 : wc.cell? ⟨b8, 2, none⟩ = some (.string x.put) := cell_of_row _ _ 2 _ _ (0, 0) e8
    have t0 : wc.cell? ⟨b9, 0, none⟩ = some (.int .i64 1) := cell_of_row _ _ 0 _ _ (0, 0) e9
    have t1 : wc.cell? ⟨b9, 1, none⟩ = some (.int .i64 (cpl y.put)) := cell_of_row _ _ 1 _ _ (0, 0) e9
    have t2 : wc.cell? ⟨b9, 2, none⟩ = some (.string ⟨#[]⟩) := cell_of_row _ _ 2 _ _ (0, 0) e9
    have HT : Hid (tfO first (SA.take (i + 1)) (SB.take (i + 1)) = tfO first (SA.take i) (SB.take i) ++ outO first x y) := by
      show _ = _
      rw [List.take_add_one, List.take_add_one, hx, hy]
      have h1 := (List.getElem?_eq_some_iff.1 hx).1
      have h2 := (List.getElem?_eq_some_iff.1 hy).1
      exact tfO_snoc (by rw [List.length_take, List.length_take]; omega)
    have hN := fun (W' : World) (u : Value) (hd : Dc B W' p8 u (tfO first (SA.take (i + 1)) (SB.take (i + 1)))) ho => i2_next (u := u) (W' := W') h hd ho
    rw [HT.out] at hN
    have HM : Hid (∀ M : List OpD, M = (if first then [mineO x, thrsO y] else [thrsO y, mineO x]) → outO first x y = M.filter OpD.does ++ (if y.k = 1 then [⟨x.k, 1, ⟨#[]⟩⟩] else [])) := fun M hM => by rw [hM]; rfl
    have hWS := fun (o p : OpD) => withSome_any B d (.slice (some ⟨wc.heap.size, 0, none⟩) 2 2) (tfO first (SA.take i) (SB.take i)) [o, p] (wc.alloc (two o p)) (by have := hdc.le; simp; omega) (hdc.own.alloc _) (rdd_two wc o p) (fun g e => by
        have e' : wc.heap.size = g := by simpa [Value.ownBlock] using e
        intro e2
        have := (hdc.own.lt g e2).2
        omega) (by omega) (by simp)
    have hAf := fun (o p : OpD) (w1 : World) (u : Value) (hw : Ws B (wc.alloc (two o p)) w1 d u (tfO first (SA.take i) (SB.take i) ++ [o, p].filter OpD.does)) => aft_of (x := x) (y := y) hd hOW hsz bx bY hw
    have hlen : ∀ o p : OpD, (tfO first (SA.take i) (SB.take i) ++ [o, p].filter OpD.does).length ≤ 90002 := fun o p => by
      rw [List.length_append]
      have := List.length_filter_le OpD.does [o, p]
      simp at this ⊢
      omega
    generalize tfO first (SA.take i) (SB.take i) = D at *
    obtain ⟨i0, hin, hz0, hz1, hz2⟩ := info_parts Tryz.infoOp
    clear h hd hx hy hD hl hs hc oy h5 HT hO hO1 e8 e9 f0 bx bY hdc hOW
    cases first with
    | true =>
      have hC := hWS (mineO x) (thrsO y)
      have hF := hAf (mineO x) (thrsO y)
      have hll := hlen (mineO x) (thrsO y)
      have HO : Hid (outO true x y = [mineO x, thrsO y].filter OpD.does ++ (if y.k = 1 then [⟨x.k, 1, ⟨#[]⟩⟩] else [])) := HM.out [mineO x, thrsO y] rfl
      simp only [mineO, thrsO, two] at hC
      clear hWS hAf hlen HM
      go_wp2_with fail
      refine hC.mono ?_
      rintro e w1 ⟨u, rfl, hw⟩
      obtain ⟨⟨z0, z1⟩, hAft⟩ := hF w1 u hw
      clear hC hF hw q5 q8 m0 m1 m2 t0 t1 t2 hsz
      generalize HMM : D ++ [mineO x, thrsO y].filter OpD.does = D2 at *
      have HDD : Hid (D ++ outO true x y = D2 ++ (if y.k = 1 then [⟨x.k, 1, ⟨#[]⟩⟩] else [])) := by show _ = _; rw [HO.out, ← HMM, List.append_assoc]
      clear HO HMM
      have y1 : (w1.setCell ⟨p8, 0, none⟩ u).cell? ⟨W.heap.size + 1, 1, none⟩ = some (.int .i64 y.k) := cell_of_row _ _ 1 _ _ (0, 0) hAft.bY
      have x1 : (w1.setCell ⟨p8, 0, none⟩ u).cell? ⟨W.heap.size, 1, none⟩ = some (.int .i64 x.k) := cell_of_row _ _ 1 _ _ (0, 0) hAft.bx
      have u1 : (w1.setCell ⟨p8, 0, none⟩ u).cell? ⟨p8, 0, none⟩ = some u := cell_of_row _ _ 0 _ _ (0, 0) hAft.dc.cell
      obtain ⟨ao5, cp5, e5⟩ := own_form hAft.dc.own
      subst e5
      have hle := hAft.dc.le
      by_cases ky : y.k = 1
      · rw [ky] at y1
        rw [if_pos ky] at HDD
        clear ky
        go_wp2_with (at_builtin; refine wpList_append_lies _ rfl (.tmp 34) (.tmp 38) 39 rfl B 59 i0 (.agg #[.int .i64 0, .int .i64 0, .string ⟨#[]⟩]) 3 32 Tryz.underlying39 hin hz0 hz1 hz2 rfl (by decide) (.slice ao5 D2.length cp5) D2.length (ocs D2) rfl (hAft.dc.own.alloc _) ⟨_, 0, none⟩ 1 1 [.int .i64 x.k, .int .i64 1, .string ⟨#[]⟩] rfl rfl (many_newS _ _ _ _ (by simp [World.setCell])) (three_one _ _ _) (by decide) (by unfold maxLen; omega) (by omega) (by simp at hle ⊢; omega) _ rfl ?_; intro g9 c9 w9 ho9 hg9 hl9 _; obtain ⟨⟨z2, z3⟩, hD9, hO9, hL9⟩ := aft_app (o := ⟨x.k, 1, ⟨#[]⟩⟩) hAft ho9 hg9 (hl9.imp id (fun e => by rw [e]; simp)))
        go_end0
        rw [HDD.out] at hN
        exact ⟨rfl, _, hN _ _ hD9 hO9, hO9, hL9⟩
      · have ky' : (y.k == 1) = false := by simpa using ky
        rw [if_neg ky, List.append_nil] at HDD
        go_wp2_with fail
        go_end0
        rw [HDD.out] at hN
        exact ⟨rfl, _, hN _ _ hAft.dc hAft.only, hAft.only, hAft.lies⟩
    | false =>
      have hC := hWS (thrsO y) (mineO x)
      have hF := hAf (thrsO y) (mineO x)
      have hll := hlen (thrsO y) (mineO x)
      have HO : Hid (outO false x y = [thrsO y, mineO x].filter OpD.does ++ (if y.k = 1 then [⟨x.k, 1, ⟨#[]⟩⟩] else [])) := HM.out [thrsO y, mineO x] rfl
      simp only [mineO, thrsO, two] at hC
      clear hWS hAf hlen HM
      go_wp2_with fail
      refine hC.mono ?_
      rintro e w1 ⟨u, rfl, hw⟩
      obtain ⟨⟨z0, z1⟩, hAft⟩ := hF w1 u hw
      clear hC hF hw q5 q8 m0 m1 m2 t0 t1 t2 hsz
      generalize HMM : D ++ [thrsO y, mineO x].filter OpD.does = D2 at *
      have HDD : Hid (D ++ outO false x y = D2 ++ (if y.k = 1 then [⟨x.k, 1, ⟨#[]⟩⟩] else [])) := by show _ = _; rw [HO.out, ← HMM, List.append_assoc]
      clear HO HMM
      have y1 : (w1.setCell ⟨p8, 0, none⟩ u).cell? ⟨W.heap.size + 1, 1, none⟩ = some (.int .i64 y.k) := cell_of_row _ _ 1 _ _ (0, 0) hAft.bY
      have x1 : (w1.setCell ⟨p8, 0, none⟩ u).cell? ⟨W.heap.size, 1, none⟩ = some (.int .i64 x.k) := cell_of_row _ _ 1 _ _ (0, 0) hAft.bx
      have u1 : (w1.setCell ⟨p8, 0, none⟩ u).cell? ⟨p8, 0, none⟩ = some u := cell_of_row _ _ 0 _ _ (0, 0) hAft.dc.cell
      obtain ⟨ao5, cp5, e5⟩ := own_form hAft.dc.own
      subst e5
      have hle := hAft.dc.le
      by_cases ky : y.k = 1
      · rw [ky] at y1
        rw [if_pos ky] at HDD
        clear ky
        go_wp2_with (at_builtin; refine wpList_append_lies _ rfl (.tmp 34) (.tmp 38) 39 rfl B 59 i0 (.agg #[.int .i64 0, .int .i64 0, .string ⟨#[]⟩]) 3 32 Tryz.underlying39 hin hz0 hz1 hz2 rfl (by decide) (.slice ao5 D2.length cp5) D2.length (ocs D2) rfl (hAft.dc.own.alloc _) ⟨_, 0, none⟩ 1 1 [.int .i64 x.k, .int .i64 1, .string ⟨#[]⟩] rfl rfl (many_newS _ _ _ _ (by simp [World.setCell])) (three_one _ _ _) (by decide) (by unfold maxLen; omega) (by omega) (by simp at hle ⊢; omega) _ rfl ?_; intro g9 c9 w9 ho9 hg9 hl9 _; obtain ⟨⟨z2, z3⟩, hD9, hO9, hL9⟩ := aft_app (o := ⟨x.k, 1, ⟨#[]⟩⟩) hAft ho9 hg9 (hl9.imp id (fun e => by rw [e]; simp)))
        go_end0
        rw [HDD.out] at hN
        exact ⟨rfl, _, hN _ _ hD9 hO9, hO9, hL9⟩
      · have ky' : (y.k == 1) = false := by simpa using ky
        rw [if_neg ky, List.append_nil] at HDD
        go_wp2_with fail
        go_end0
        rw [HDD.out] at hN
        exact ⟨rfl, _, hN _ _ hAft.dc hAft.only, hAft.only, hAft.lies⟩
end Go.Proofs.YtcdnlkhjlgaaoaaGreatDoor
