/-
  What units has on its way: a row of units and the rest of a delta, in two cells. No walk.
-/
import Derived.Test.YtgabanndjiegdabOtD
import Derived.Test.YtgabanndjiegdabDMb
namespace Go.Proofs.Ytgabanndjiegdab
open Go.ChangeShapes Go.WideShapes Go.ChangeAt Go.RowKit Go.PlainAid

/-- All blocks but those of S are as they were. -/
structure Only (S : List Nat) (w w' : World) : Prop where
  os : w'.os = w.os
  tape : w'.tape = w.tape
  output : w'.output = w.output
  size : w.heap.size ≤ w'.heap.size
  block : ∀ k, k < w.heap.size → k ∉ S → w'.heap[k]? = w.heap[k]?
theorem Only.refl (S : List Nat) (w : World) : Only S w w := ⟨rfl, rfl, rfl, Nat.le_refl _, fun _ _ _ => rfl⟩
theorem Only.trans {S : List Nat} {a b c : World} (h : Only S a b) (k : Only S b c) : Only S a c :=
  ⟨k.os.trans h.os, k.tape.trans h.tape, k.output.trans h.output, Nat.le_trans h.size k.size, fun i hi hn => (k.block i (Nat.lt_of_lt_of_le hi h.size) hn).trans (h.block i hi hn)⟩
theorem Only.mono {S T : List Nat} {a b : World} (h : Only S a b) (hs : ∀ k ∈ S, k ∈ T) : Only T a b := ⟨h.os, h.tape, h.output, h.size, fun i hi hn => h.block i hi (fun hk => hn (hs i hk))⟩
theorem Only.of_grown {S : List Nat} {a b : World} {row : Option Nat} (h : a.grownBy b row) (hs : ∀ k, row = some k → k ∈ S) : Only S a b :=
  ⟨h.os, h.tape, h.output, h.size, fun i hi hn => h.block i hi (fun e => hn (hs i e.symm))⟩
theorem Only.of_below {S : List Nat} {a b : World} (h : Below a.heap.size a b) : Only S a b := ⟨h.os, h.tape, h.output, h.size, fun i hi _ => h.block i hi⟩
theorem Only.alloc (S : List Nat) (w : World) (o : Obj) : Only S w (w.alloc o) := ⟨rfl, rfl, rfl, by simp, fun k hk _ => Below.heap_alloc w o k hk⟩
theorem Only.drew (S : List Nat) (w : World) : Only S w w.drew := ⟨rfl, rfl, rfl, Nat.le_refl _, fun _ _ _ => rfl⟩
theorem Only.setCell {S : List Nat} (w : World) {p : Addr} (hp : p.block ∈ S) (v : Value) : Only S w (w.setCell p v) :=
  ⟨rfl, rfl, rfl, by simp [World.setCell], fun k _ hn => Below.heap_setCell w p v k (fun e => hn (by rw [e]; exact hp))⟩
theorem Only.below {S : List Nat} {w w' : World} (h : Only S w w') {B : Nat} (hB : B ≤ w.heap.size) (hS : ∀ k ∈ S, B ≤ k) : Below B w w' :=
  ⟨h.os, h.tape, h.output, h.size, fun k hk => h.block k (by omega) (fun hm => by have := hS k hm; omega)⟩
theorem only_heap {S : List Nat} {w w' : World} {b : Nat} {o : Obj} (h : w.heap[b]? = some o) (ho : Only S w w') (hb : b ∉ S) : w'.heap[b]? = some o := (ho.block b (heap_lt h) hb).trans h
/-- What was changed has been made since. -/
theorem Only.new {S T : List Nat} {a b c : World} (h : Only T a b) (k : Only S b c) (hs : ∀ i ∈ S, i ∈ T ∨ a.heap.size ≤ i) : Only T a c :=
  ⟨k.os.trans h.os, k.tape.trans h.tape, k.output.trans h.output, Nat.le_trans h.size k.size, fun i hi hn => (k.block i (Nat.lt_of_lt_of_le hi h.size) (fun hk => (hs i hk).elim hn (fun h => by omega))).trans (h.block i hi hn)⟩
theorem own_only {S : List Nat} {w w' : World} {B e z n : Nat} {v : Value} {l : List Value} (h : w.ownsRow B e z v n l) (ho : Only S w w') (hb : ∀ g, v.ownBlock = some g → g ∉ S) : w'.ownsRow B e z v n l := by
  obtain ⟨h1, h2⟩ := h
  refine ⟨h1, ?_⟩
  rcases h2 with h2 | ⟨g, cap, cur, rfl, b, c, d⟩
  · exact .inl h2
  · exact .inr ⟨g, cap, cur, rfl, b, only_heap c ho (hb g rfl), d⟩

/-- A delta stays where its block stays. -/
theorem rdd_only {S : List Nat} {w w' : World} {v : Value} {l : List OpD} (h : RdD w v l) (ho : Only S w w') (hb : ∀ g, v.ownBlock = some g → g ∉ S) : RdD w' v l := by
  obtain ⟨ao, cp, rfl, h0, h1⟩ := h
  refine ⟨ao, cp, rfl, h0, fun i o hi => ?_⟩
  obtain ⟨b, off, rfl, hl, c0, c1, c2⟩ := h1 i o hi
  have hbl := ho.block b hl (hb b rfl)
  have hc : ∀ j, w'.cell? ⟨b, j, none⟩ = w.cell? ⟨b, j, none⟩ := fun j => by unfold World.cell?; rw [hbl]
  exact ⟨b, off, rfl, Nat.lt_of_lt_of_le hl ho.size, (hc _).trans c0, (hc _).trans c1, (hc _).trans c2⟩

set_option maxRecDepth 20000 in
/-- All of a delta but its first operation. -/
theorem rdd_tail {W : World} {v : Value} {x : OpD} {l : List OpD} (h : RdD W v (x :: l)) : ∃ (b o cp : Nat) (v' : Value), v = .slice (some ⟨b, o, none⟩) (l.length + 1) cp ∧ b < W.heap.size ∧
    W.cell? ⟨b, o, none⟩ = some (.int .i64 x.k) ∧ W.cell? ⟨b, o + 1, none⟩ = some (.int .i64 x.n) ∧ W.cell? ⟨b, o + 2, none⟩ = some (.string x.t) ∧
    (∀ W' : World, (Instr.slice 22 v (some (.int .i64 1)) none none).run Try.prog W' = .ok v' W') ∧ RdD W v' l ∧ v'.ownBlock = some b := by
  obtain ⟨ao, cp, rfl, ⟨hcp, _⟩, h1⟩ := h
  obtain ⟨b, o, rfl, hl, c0, c1, c2⟩ := h1 0 x (by simp)
  rw [List.length_cons] at *
  simp only [Nat.zero_mul, Nat.add_zero] at c0 c1 c2
  have e : Try.prog.elem 22 = 35 := by kernel_rfl
  have hsl : ∀ W' : World, (Instr.slice 22 (.slice (some ⟨b, o, none⟩) (l.length + 1) cp) (some (.int .i64 1)) none none).run Try.prog W' = .ok (sliced (some ⟨b, o, none⟩) 1 (l.length + 1) cp 3) W' := fun W' => by
    rw [run_slice_l (P := Try.prog) W' 22 (some ⟨b, o, none⟩) (l.length + 1) cp Try.underlying22 .i64 1 (by omega) (by omega), e, sizeOp]
    rfl
  by_cases c : cp = 1
  · subst c
    have hl0 : l = [] := List.eq_nil_of_length_eq_zero (by omega)
    subst hl0
    exact ⟨b, o, 1, _, rfl, hl, c0, c1, c2, hsl, ⟨some ⟨b, o, none⟩, 0, rfl, ⟨Nat.le_refl _, fun h => by cases h⟩, fun i o h => by simp at h⟩, rfl⟩
  · have es : sliced (some ⟨b, o, none⟩) 1 (l.length + 1) cp 3 = .slice (some ⟨b, o + 3, none⟩) l.length (cp - 1) := by
      unfold sliced
      rw [if_neg c]
      simp [addr3]
    rw [es] at hsl
    refine ⟨b, o, cp, _, rfl, hl, c0, c1, c2, hsl, ⟨some ⟨b, o + 3, none⟩, cp - 1, rfl, ⟨by omega, fun h => by cases h⟩, fun i y hi => ?_⟩, rfl⟩
    obtain ⟨b', o', e', _, d0, d1, d2⟩ := h1 (i + 1) y (by simpa using hi)
    simp at e'
    obtain ⟨rfl, rfl⟩ := e'
    have e3 : o + (i + 1) * 3 = o + 3 + i * 3 := by omega
    rw [e3] at d0 d1 d2
    exact ⟨b, o + 3, rfl, hl, d0, d1, d2⟩

/-- The cells p and q hold what units captured; L is to come. It reads no block but those of B. -/
structure It (W : World) (p q : Nat) (R : List U) (ds : List St) (rv dv : Value) (B : List Nat) : Prop where
  cp : W.heap[p]? = some (.cells #[rv] 22 (0, 0))
  cq : W.heap[q]? = some (.cells #[dv] 22 (0, 0))
  ne : p ≠ q
  r : RdD W rv (R.map uop)
  d : RdD W dv (ds.map St.op)
  ok : ∀ s ∈ ds, s.Ok ∧ s.c ≤ 1000
  rb : ∀ g, rv.ownBlock = some g → g ∈ B ∧ g ≠ p ∧ g ≠ q
  db : ∀ g, dv.ownBlock = some g → g ∈ B ∧ g ≠ p ∧ g ≠ q
  pb : p ∈ B
  qb : q ∈ B
  lt : ∀ g ∈ B, g < W.heap.size

theorem It.only {W W' : World} {p q : Nat} {R : List U} {ds : List St} {rv dv : Value} {B S : List Nat} (h : It W p q R ds rv dv B) (ho : Only S W W') (hs : ∀ g ∈ B, g ∉ S) : It W' p q R ds rv dv B :=
  ⟨only_heap h.cp ho (hs _ h.pb), only_heap h.cq ho (hs _ h.qb), h.ne, rdd_only h.r ho (fun g e => hs g (h.rb g e).1), rdd_only h.d ho (fun g e => hs g (h.db g e).1), h.ok, h.rb, h.db, h.pb, h.qb, fun g hg => Nat.lt_of_lt_of_le (h.lt g hg) ho.size⟩

/-- L is to come. -/
def ItL (W : World) (p q : Nat) (L : List U) (B : List Nat) : Prop := ∃ R ds rv dv, L = R ++ uw ds ∧ It W p q R ds rv dv B
theorem ItL.only {W W' : World} {p q : Nat} {L : List U} {B S : List Nat} (h : ItL W p q L B) (ho : Only S W W') (hs : ∀ g ∈ B, g ∉ S) : ItL W' p q L B := by
  obtain ⟨R, ds, rv, dv, e, h⟩ := h
  exact ⟨R, ds, rv, dv, e, h.only ho hs⟩

theorem one_set {W : World} {p : Nat} {v : Value} {t : TypeId} (h : W.heap[p]? = some (.cells #[v] t (0, 0))) (x : Value) : (W.setCell ⟨p, 0, none⟩ x).heap[p]? = some (.cells #[x] t (0, 0)) := by
  have := heap_setCell h 0 x
  simpa using this

/-- The first unit has been taken. -/
theorem It.take {W : World} {p q : Nat} {u : U} {R : List U} {ds : List St} {rv dv rv' : Value} {B : List Nat} (h : It W p q (u :: R) ds rv dv B) (hr : RdD W rv' (R.map uop)) (hb : rv'.ownBlock = rv.ownBlock) : It (W.setCell ⟨p, 0, none⟩ rv') p q R ds rv' dv B := by
  have ho : Only [p] W (W.setCell ⟨p, 0, none⟩ rv') := Only.setCell W (by simp) _
  have hr' : ∀ g, rv'.ownBlock = some g → g ∈ B ∧ g ≠ p ∧ g ≠ q := fun g e => h.rb g (hb ▸ e)
  exact ⟨one_set h.cp rv', only_heap h.cq ho (by simp; exact fun e => h.ne e.symm), h.ne, rdd_only hr ho (fun g e => by simp; exact (hr' g e).2.1), rdd_only h.d ho (fun g e => by simp; exact (h.db g e).2.1), h.ok, hr', h.db, h.pb, h.qb, fun g hg => by have := h.lt g hg; simp [World.setCell]; exact this⟩

/-- A step has been made units. -/
theorem It.load {W W1 : World} {p q : Nat} {s : St} {ds : List St} {rv dv rv' dv' : Value} {B : List Nat} (h : It W p q [] (s :: ds) rv dv B) (hb : Below W.heap.size W W1)
    (ho : W1.ownsRow W.heap.size 35 3 rv' s.u.length (ocs (s.u.map uop))) (hd : RdD W dv' (ds.map St.op)) (hdb : dv'.ownBlock = dv.ownBlock) :
    ∃ B', It ((W1.setCell ⟨p, 0, none⟩ rv').setCell ⟨q, 0, none⟩ dv') p q s.u ds rv' dv' B' ∧ ∀ g ∈ B', g ∈ B ∨ W.heap.size ≤ g := by
  have hoA : Only [] W W1 := ⟨hb.os, hb.tape, hb.output, hb.size, fun i hi _ => hb.block i hi⟩
  have hoB : Only [p, q] W1 ((W1.setCell ⟨p, 0, none⟩ rv').setCell ⟨q, 0, none⟩ dv') := (Only.setCell _ (by simp) _).trans (Only.setCell _ (by simp) _)
  have hlp := h.lt p h.pb
  have hlq := h.lt q h.qb
  have hsz : W.heap.size ≤ ((W1.setCell ⟨p, 0, none⟩ rv').setCell ⟨q, 0, none⟩ dv').heap.size := Nat.le_trans hoA.size hoB.size
  have hrr : ∀ g, rv'.ownBlock = some g → W.heap.size ≤ g ∧ g < W1.heap.size := fun g e => ho.lt g e
  have hcp := only_heap h.cp hoA (by simp)
  have hcq := only_heap h.cq hoA (by simp)
  have hdd : ∀ g, dv'.ownBlock = some g → g ∈ B ∧ g ≠ p ∧ g ≠ q := fun g e => h.db g (hdb ▸ e)
  have hc1 := one_set hcp rv'
  have hc2 := only_heap hcq (Only.setCell (S := [p]) W1 (p := ⟨p, 0, none⟩) (by simp) rv') (by simp; exact fun e => h.ne e.symm)
  refine ⟨rv'.ownBlock.toList ++ B, ⟨only_heap hc1 (Only.setCell (S := [q]) _ (by simp) _) (by simp; exact h.ne), one_set hc2 dv', h.ne, ?_, ?_, fun s hs => h.ok s (by simp [hs]), ?_, ?_, by simp [h.pb], by simp [h.qb], ?_⟩, ?_⟩
  · refine rdd_only (rdd_own (l := s.u.map uop) (W := W1) (by rw [List.length_map]; exact ho)) hoB (fun g e => ?_)
    have := hrr g e
    simp
    omega
  · refine rdd_only (rdd_only hd hoA (by simp)) hoB (fun g e => ?_)
    have := hdd g e
    simp [this.2]
  · intro g e
    have := hrr g e
    refine ⟨by simp [e], by omega, by omega⟩
  · intro g e
    have := hdd g e
    exact ⟨by simp [this.1], this.2⟩
  · intro g hg
    simp only [List.mem_append, Option.mem_toList] at hg
    rcases hg with hg | hg
    · have := hrr g hg
      have := hoB.size
      omega
    · have := h.lt g hg
      omega
  · intro g hg
    simp only [List.mem_append, Option.mem_toList] at hg
    rcases hg with hg | hg
    · exact .inr (hrr g hg).1
    · exact .inl hg

theorem u_ne {s : St} (h : s.Ok) : 0 < s.u.length := by
  cases s with
  | keep n => simp [St.u]; have := h.1; omega
  | rem n => simp [St.u]; have := h.1; omega
  | ins t =>
    have := h.1
    simp [St.u, pts, ptL]
    omega
end Go.Proofs.Ytgabanndjiegdab
