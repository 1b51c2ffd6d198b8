/-
  States in the world, without the functions of record (for gc, state and what is above them): a state as data, where it lies, rows of its own, and a state that came in.
-/
import Derived.Test.YthhdpabelcgfjaaDArg
import Derived.Test.YthhdpabelcgfjaaMonT
import Derived.Test.YthhdpabelcgfjaaBeh
import Derived.Test.YthhdpabelcgfjaaRows
import Derived.Laws.AppendOwn
import Derived.Laws.OwnMore
import Derived.Outline
import Derived.Deep.Cut
import Derived.Deep.DeepCutAuto
import Derived.Deep.CutBlock
namespace Go.Proofs.Ythhdpabelcgfjaa
open Go.ChangeShapes Go.WideShapes Go.ChangeAt Go.RowKit Go.PlainAid

theorem gbS {g : Nat} {a b : World} (h : Below a.heap.size a b) : a.grownBy b (some g) := ⟨h.os, h.tape, h.output, h.size, fun i hi _ => h.block i hi⟩
theorem alloc_bR (w : World) (o : Obj) : Below w.heap.size w (w.alloc o) := (Below.refl _ w).alloc (Nat.le_refl _) _
/-- Numbers at a value. -/
def RdI (W : World) (v : Value) (l : List Int) : Prop :=
  ∃ ao cp, v = .slice ao l.length cp ∧ ∀ (i : Nat) (o : Int), l[i]? = some o → ∃ b off, ao = some ⟨b, off, none⟩ ∧ b < W.heap.size ∧ W.cell? ⟨b, off + i, none⟩ = some (.int .i64 o)
theorem RdI.below {W W' : World} {v : Value} {l : List Int} (h : RdI W v l) (hb : Below W.heap.size W W') : RdI W' v l := by
  obtain ⟨ao, cp, h1, h2⟩ := h
  refine ⟨ao, cp, h1, fun i o ho => ?_⟩
  obtain ⟨b, off, e1, e2, e3⟩ := h2 i o ho
  exact ⟨b, off, e1, Nat.lt_of_lt_of_le e2 hb.size, (hb.cell (p := ⟨b, off + i, none⟩) e2).trans e3⟩
theorem RdI.nil (W : World) : RdI W (.slice none 0 0) [] := ⟨none, 0, rfl, fun i o h => by simp at h⟩
theorem rdi_len {W : World} {v : Value} {l : List Int} (h : RdI W v l) : ∃ ao cp, v = .slice ao l.length cp := by
  obtain ⟨ao, cp, e, -⟩ := h
  exact ⟨ao, cp, e⟩
/-- A commit, a branch, a client. -/
structure CoD where
  n : Int
  ps : List Int
  d : List OpD
  o : List OpD
  c : Int
  s : Int
structure BrD where
  i : Int
  nm : ByteArray
  lg : List Int
structure CuD where
  c : Int
  b : Int
  s : Int
structure BrD.Fit (x : BrD) : Prop where
  nm : x.nm.size ≤ 140737488355328
  lg : x.lg.length ≤ 9223372036854775000
structure CoD.Fit (x : CoD) : Prop where
  ps : x.ps.length ≤ 9223372036854775000
  dl : x.d.length ≤ maxLen
  di : ∀ o ∈ x.d, o.In
  ol : x.o.length ≤ maxLen
  oi : ∀ o ∈ x.o, o.In
def CuD.Fit (_ : CuD) : Prop := True
/-- A row of them. -/
def RdCu (W : World) (v : Value) (l : List CuD) : Prop :=
  ∃ ao cp, v = .slice ao l.length cp ∧ ∀ (i : Nat) (x : CuD), l[i]? = some x → ∃ b off, ao = some ⟨b, off, none⟩ ∧ b < W.heap.size ∧ (W.cell? ⟨b, off + i * 3, none⟩ = some (.int .i64 x.c) ∧ W.cell? ⟨b, off + i * 3 + 1, none⟩ = some (.int .i64 x.b) ∧ W.cell? ⟨b, off + i * 3 + 2, none⟩ = some (.int .i64 x.s))
theorem RdCu.below {W W' : World} {v : Value} {l : List CuD} (h : RdCu W v l) (hb : Below W.heap.size W W') : RdCu W' v l := by
  obtain ⟨ao, cp, e, h1⟩ := h
  refine ⟨ao, cp, e, fun i x hi => ?_⟩
  obtain ⟨b, off, e1, hl, ⟨c0, c1, c2⟩⟩ := h1 i x hi
  exact ⟨b, off, e1, Nat.lt_of_lt_of_le hl hb.size, ⟨(hb.cell (p := ⟨b, off + i * 3, none⟩) hl).trans c0, (hb.cell (p := ⟨b, off + i * 3 + 1, none⟩) hl).trans c1, (hb.cell (p := ⟨b, off + i * 3 + 2, none⟩) hl).trans c2⟩⟩
theorem RdCu.nil (W : World) : RdCu W (.slice none 0 0) [] := ⟨none, 0, rfl, fun i o h => by simp at h⟩
/-- A row of them. -/
def RdBr (W : World) (v : Value) (l : List BrD) : Prop :=
  ∃ ao cp, v = .slice ao l.length cp ∧ ∀ (i : Nat) (x : BrD), l[i]? = some x → ∃ b off lv, ao = some ⟨b, off, none⟩ ∧ b < W.heap.size ∧ (W.cell? ⟨b, off + i * 3, none⟩ = some (.int .i64 x.i) ∧ W.cell? ⟨b, off + i * 3 + 1, none⟩ = some (.string x.nm) ∧ W.cell? ⟨b, off + i * 3 + 2, none⟩ = some (lv)) ∧ RdI W lv x.lg
theorem RdBr.below {W W' : World} {v : Value} {l : List BrD} (h : RdBr W v l) (hb : Below W.heap.size W W') : RdBr W' v l := by
  obtain ⟨ao, cp, e, h1⟩ := h
  refine ⟨ao, cp, e, fun i x hi => ?_⟩
  obtain ⟨b, off, lv, e1, hl, ⟨c0, c1, c2⟩, s0⟩ := h1 i x hi
  exact ⟨b, off, lv, e1, Nat.lt_of_lt_of_le hl hb.size, ⟨(hb.cell (p := ⟨b, off + i * 3, none⟩) hl).trans c0, (hb.cell (p := ⟨b, off + i * 3 + 1, none⟩) hl).trans c1, (hb.cell (p := ⟨b, off + i * 3 + 2, none⟩) hl).trans c2⟩, s0.below hb⟩
theorem RdBr.nil (W : World) : RdBr W (.slice none 0 0) [] := ⟨none, 0, rfl, fun i o h => by simp at h⟩
/-- A row of them. -/
def RdCo (W : World) (v : Value) (l : List CoD) : Prop :=
  ∃ ao cp, v = .slice ao l.length cp ∧ ∀ (i : Nat) (x : CoD), l[i]? = some x → ∃ b off pv dv ov, ao = some ⟨b, off, none⟩ ∧ b < W.heap.size ∧ (W.cell? ⟨b, off + i * 6, none⟩ = some (.int .i64 x.n) ∧ W.cell? ⟨b, off + i * 6 + 1, none⟩ = some (pv) ∧ W.cell? ⟨b, off + i * 6 + 2, none⟩ = some (dv) ∧ W.cell? ⟨b, off + i * 6 + 3, none⟩ = some (ov) ∧ W.cell? ⟨b, off + i * 6 + 4, none⟩ = some (.int .i64 x.c) ∧ W.cell? ⟨b, off + i * 6 + 5, none⟩ = some (.int .i64 x.s)) ∧ RdI W pv x.ps ∧ RdD W dv x.d ∧ RdD W ov x.o
theorem RdCo.below {W W' : World} {v : Value} {l : List CoD} (h : RdCo W v l) (hb : Below W.heap.size W W') : RdCo W' v l := by
  obtain ⟨ao, cp, e, h1⟩ := h
  refine ⟨ao, cp, e, fun i x hi => ?_⟩
  obtain ⟨b, off, pv, dv, ov, e1, hl, ⟨c0, c1, c2, c3, c4, c5⟩, s0, s1, s2⟩ := h1 i x hi
  exact ⟨b, off, pv, dv, ov, e1, Nat.lt_of_lt_of_le hl hb.size, ⟨(hb.cell (p := ⟨b, off + i * 6, none⟩) hl).trans c0, (hb.cell (p := ⟨b, off + i * 6 + 1, none⟩) hl).trans c1, (hb.cell (p := ⟨b, off + i * 6 + 2, none⟩) hl).trans c2, (hb.cell (p := ⟨b, off + i * 6 + 3, none⟩) hl).trans c3, (hb.cell (p := ⟨b, off + i * 6 + 4, none⟩) hl).trans c4, (hb.cell (p := ⟨b, off + i * 6 + 5, none⟩) hl).trans c5⟩, s0.below hb, s1.below hb, s2.below hb⟩
theorem RdCo.nil (W : World) : RdCo W (.slice none 0 0) [] := ⟨none, 0, rfl, fun i o h => by simp at h⟩
/-- A state. -/
structure StD where
  nc : Int
  nb : Int
  cs : List CoD
  bs : List BrD
  us : List CuD
structure StD.Fit (S : StD) : Prop where
  c0 : -9223372036854775808 ≤ S.nc
  c1 : S.nc ≤ 9223372036854775807
  b0 : -9223372036854775808 ≤ S.nb
  b1 : S.nb ≤ 9223372036854775807
  cs : ∀ x ∈ S.cs, x.Fit
  bs : ∀ x ∈ S.bs, x.Fit
/-- A state's rows, at their values. -/
structure RdSt (W : World) (v1 v2 v3 : Value) (S : StD) : Prop where
  c : RdCo W v1 S.cs
  b : RdBr W v2 S.bs
  u : RdCu W v3 S.us
theorem RdSt.below {W W' : World} {v1 v2 v3 : Value} {S : StD} (h : RdSt W v1 v2 v3 S) (hb : Below W.heap.size W W') : RdSt W' v1 v2 v3 S := ⟨h.c.below hb, h.b.below hb, h.u.below hb⟩
def StD.fs (S : StD) (v1 v2 v3 : Value) : Array Value := #[.int .i64 S.nc, .int .i64 S.nb, v1, v2, v3]
def SB (W : World) (g : Nat) (S : StD) (v1 v2 v3 : Value) : Prop := W.heap[g]? = some (.cells (S.fs v1 v2 v3) 26)
theorem SB.below {W W' : World} {g : Nat} {S : StD} {v1 v2 v3 : Value} (h : SB W g S v1 v2 v3) (hb : Below W.heap.size W W') : SB W' g S v1 v2 v3 := (hb.block g (heap_lt h)).trans h
theorem cellsSB {W : World} {g : Nat} {S : StD} {v1 v2 v3 : Value} (h : SB W g S v1 v2 v3) : W.cell? ⟨g, 0, none⟩ = some (.int .i64 S.nc) ∧ W.cell? ⟨g, 1, none⟩ = some (.int .i64 S.nb) ∧ W.cell? ⟨g, 2, none⟩ = some v1 ∧ W.cell? ⟨g, 3, none⟩ = some v2 ∧ W.cell? ⟨g, 4, none⟩ = some v3 := by
  have q := fun j => cell_of_row W g j _ _ (0, 0) h
  exact ⟨q 0, q 1, q 2, q 3, q 4⟩
theorem sb_new (w : World) (S : StD) (v1 v2 v3 : Value) : SB (w.alloc (.cells (S.fs v1 v2 v3) 26)) w.heap.size S v1 v2 v3 := heap_alloc_new w _
theorem gq_refl (g : Nat) (w : World) : w.grownBy w (some g) := World.grownBy.refl _ _
theorem gq_trans {g : Nat} {a b c : World} (h : a.grownBy b (some g)) (k : b.grownBy c (some g)) : a.grownBy c (some g) :=
  ⟨k.os.trans h.os, k.tape.trans h.tape, k.output.trans h.output, Nat.le_trans h.size k.size, fun i hi hn => (k.block i (Nat.lt_of_lt_of_le hi h.size) hn).trans (h.block i hi hn)⟩
theorem gq_below {g : Nat} {a b : World} (h : Below a.heap.size a b) : a.grownBy b (some g) := ⟨h.os, h.tape, h.output, h.size, fun i hi _ => h.block i hi⟩
theorem Try.infoIntR : (Try.prog.info? 3).map (fun i => (i.zero, i.size, i.bytes)) = some (some (.int .i64 0), 1, 8) := by kernel_rfl
def ivs (l : List Int) : List Value := l.map (Value.int .i64)
theorem rdi_own {W : World} {B : Nat} {v : Value} {l : List Int} (h : W.ownsRow B 3 1 v l.length (ivs l)) : RdI W v l := by
  rcases h.2 with ⟨rfl, h0⟩ | ⟨g, cap, cur, rfl, _, hg, -⟩
  · have : l = [] := List.length_eq_zero_iff.1 h0
    subst this
    exact RdI.nil W
  · refine ⟨_, _, rfl, fun i o hi => ⟨g, 0, rfl, heap_lt hg, ?_⟩⟩
    have q := h.cells (g := g) rfl i (.int .i64 o) (by simp [ivs, hi])
    have hadd : (⟨g, 0, none⟩ : Addr).add i = ⟨g, i, none⟩ := by unfold Addr.add; split <;> simp_all
    rw [hadd] at q
    rw [Nat.zero_add]
    exact q
def lenV : Value → Nat
  | .slice _ n _ => n
  | _ => 0
theorem gq_own {w W W' : World} {q : Nat} {o : Option Nat} (h : w.grownBy W (some q)) (hg : W.grownBy W' o) (hv : ∀ j, o = some j → w.heap.size ≤ j) : w.grownBy W' (some q) :=
  ⟨hg.os.trans h.os, hg.tape.trans h.tape, hg.output.trans h.output, Nat.le_trans h.size hg.size, fun i hi hn => (hg.block i (Nat.lt_of_lt_of_le hi h.size) (fun e => by have := hv i e.symm; omega)).trans (h.block i hi hn)⟩
theorem one_intR (n : Int) : ∀ u ∈ [Value.int .i64 n], u.oneCell' = true := by
  intro u hu
  simp at hu
  subst hu
  rfl
/-- All rows of other types than t0 are as they were. -/
def Rk (W W' : World) (t0 : TypeId) : Prop := ∀ (B e z n : Nat) (v : Value) (xs : List Value), e ≠ t0 → W.ownsRow B e z v n xs → W'.ownsRow B e z v n xs
theorem rk_box {W W' : World} {q : Nat} {c : Array Value} {t0 : TypeId} (h : W.heap[q]? = some (.cells c t0)) (hg : W.grownBy W' (some q)) : Rk W W' t0 :=
  fun _ _ _ _ _ _ he ho => ho.kept hg (.inr (fun e => box_apart ho h he e.symm))
theorem rk_own {W W' : World} {B e z n : Nat} {v : Value} {xs : List Value} (h : W.ownsRow B e z v n xs) (hg : W.grownBy W' v.ownBlock) : Rk W W' e :=
  fun _ _ _ _ _ _ he ho => ho.kept hg (own_apart ho h he)
theorem rk_below {W W' : World} (h : Below W.heap.size W W') (t0 : TypeId) : Rk W W' t0 := fun _ _ _ _ _ _ _ ho => own_belowG ho h
theorem rk_set {W : World} {q j : Nat} {x : Value} {c : Array Value} {t0 : TypeId} (h : W.heap[q]? = some (.cells c t0)) : Rk W (W.setCell ⟨q, j, none⟩ x) t0 := rk_box h (grown_set W q j x)
/-- Commits' cells, with the values of their rows. -/
def ccs : List CoD → List (Value × Value × Value) → List Value
  | x :: l, u :: us => .int .i64 x.n :: u.1 :: u.2.1 :: u.2.2 :: .int .i64 x.c :: .int .i64 x.s :: ccs l us
  | _, _ => []
def bcs : List BrD → List Value → List Value
  | x :: l, u :: us => .int .i64 x.i :: .string x.nm :: u :: bcs l us
  | _, _ => []
def ucs : List CuD → List Value
  | x :: l => .int .i64 x.c :: .int .i64 x.b :: .int .i64 x.s :: ucs l
  | [] => []
theorem ccs_app : ∀ (l : List CoD) (us : List (Value × Value × Value)) (x : CoD) (u : Value × Value × Value), us.length = l.length → ccs (l ++ [x]) (us ++ [u]) = ccs l us ++ [.int .i64 x.n, u.1, u.2.1, u.2.2, .int .i64 x.c, .int .i64 x.s]
  | [], [], _, _, _ => rfl
  | y :: l, z :: us, x, u, h => by simp [ccs, ccs_app l us x u (by simpa using h)]
  | [], _ :: _, _, _, h => by simp at h
  | _ :: _, [], _, _, h => by simp at h
theorem bcs_app : ∀ (l : List BrD) (us : List Value) (x : BrD) (u : Value), us.length = l.length → bcs (l ++ [x]) (us ++ [u]) = bcs l us ++ [.int .i64 x.i, .string x.nm, u]
  | [], [], _, _, _ => rfl
  | y :: l, z :: us, x, u, h => by simp [bcs, bcs_app l us x u (by simpa using h)]
  | [], _ :: _, _, _, h => by simp at h
  | _ :: _, [], _, _, h => by simp at h
theorem ucs_app : ∀ (l : List CuD) (x : CuD), ucs (l ++ [x]) = ucs l ++ [.int .i64 x.c, .int .i64 x.b, .int .i64 x.s]
  | [], _ => rfl
  | y :: l, x => by simp [ucs, ucs_app l x]
theorem ccs_at : ∀ (l : List CoD) (us : List (Value × Value × Value)) (i : Nat) (x : CoD), us.length = l.length → l[i]? = some x → ∃ u, us[i]? = some u ∧ (ccs l us)[i * 6]? = some (.int .i64 x.n) ∧ (ccs l us)[i * 6 + 1]? = some u.1 ∧ (ccs l us)[i * 6 + 2]? = some u.2.1 ∧ (ccs l us)[i * 6 + 3]? = some u.2.2 ∧ (ccs l us)[i * 6 + 4]? = some (.int .i64 x.c) ∧ (ccs l us)[i * 6 + 5]? = some (.int .i64 x.s)
  | [], _, _, _, _, h => by simp at h
  | _ :: _, [], _, _, h, _ => by simp at h
  | y :: l, u :: us, 0, x, _, h => by simp at h; subst h; exact ⟨u, rfl, rfl, rfl, rfl, rfl, rfl, rfl⟩
  | y :: l, u :: us, i + 1, x, h, hi => by
    obtain ⟨z, h1, q0, q1, q2, q3, q4, q5⟩ := ccs_at l us i x (by simpa using h) (by simpa using hi)
    have e : ∀ k, (i + 1) * 6 + k = i * 6 + k + 1 + 1 + 1 + 1 + 1 + 1 := fun k => by omega
    refine ⟨z, by simpa using h1, ?_, ?_, ?_, ?_, ?_, ?_⟩
    · have := e 0; simp only [Nat.add_zero] at this; rw [this]; simpa [ccs] using q0
    · rw [e]; simpa [ccs] using q1
    · rw [e]; simpa [ccs] using q2
    · rw [e]; simpa [ccs] using q3
    · rw [e]; simpa [ccs] using q4
    · rw [e]; simpa [ccs] using q5
theorem bcs_at : ∀ (l : List BrD) (us : List Value) (i : Nat) (x : BrD), us.length = l.length → l[i]? = some x → ∃ u, us[i]? = some u ∧ (bcs l us)[i * 3]? = some (.int .i64 x.i) ∧ (bcs l us)[i * 3 + 1]? = some (.string x.nm) ∧ (bcs l us)[i * 3 + 2]? = some u
  | [], _, _, _, _, h => by simp at h
  | _ :: _, [], _, _, h, _ => by simp at h
  | y :: l, u :: us, 0, x, _, h => by simp at h; subst h; exact ⟨u, rfl, rfl, rfl, rfl⟩
  | y :: l, u :: us, i + 1, x, h, hi => by
    obtain ⟨z, h1, q0, q1, q2⟩ := bcs_at l us i x (by simpa using h) (by simpa using hi)
    have e : ∀ k, (i + 1) * 3 + k = i * 3 + k + 1 + 1 + 1 := fun k => by omega
    refine ⟨z, by simpa using h1, ?_, ?_, ?_⟩
    · have := e 0; simp only [Nat.add_zero] at this; rw [this]; simpa [bcs] using q0
    · rw [e]; simpa [bcs] using q1
    · rw [e]; simpa [bcs] using q2
theorem ucs_at : ∀ (l : List CuD) (i : Nat) (x : CuD), l[i]? = some x → (ucs l)[i * 3]? = some (.int .i64 x.c) ∧ (ucs l)[i * 3 + 1]? = some (.int .i64 x.b) ∧ (ucs l)[i * 3 + 2]? = some (.int .i64 x.s)
  | [], _, _, h => by simp at h
  | y :: l, 0, x, h => by simp at h; subst h; exact ⟨rfl, rfl, rfl⟩
  | y :: l, i + 1, x, hi => by
    obtain ⟨q0, q1, q2⟩ := ucs_at l i x (by simpa using hi)
    have e : ∀ k, (i + 1) * 3 + k = i * 3 + k + 1 + 1 + 1 := fun k => by omega
    refine ⟨?_, ?_, ?_⟩
    · have := e 0; simp only [Nat.add_zero] at this; rw [this]; simpa [ucs] using q0
    · rw [e]; simpa [ucs] using q1
    · rw [e]; simpa [ucs] using q2
/-- Rows that are a state's own. -/
structure OwCo (W : World) (B : Nat) (v : Value) (l : List CoD) (us : List (Value × Value × Value)) : Prop where
  ul : us.length = l.length
  row : W.ownsRow B 40 6 v l.length (ccs l us)
  inn : ∀ (i : Nat) (x : CoD) (u : Value × Value × Value), l[i]? = some x → us[i]? = some u → W.ownsRow B 3 1 u.1 x.ps.length (ivs x.ps) ∧ W.ownsRow B 67 3 u.2.1 x.d.length (ocs x.d) ∧ W.ownsRow B 67 3 u.2.2 x.o.length (ocs x.o)
structure OwBr (W : World) (B : Nat) (v : Value) (l : List BrD) (us : List Value) : Prop where
  ul : us.length = l.length
  row : W.ownsRow B 47 3 v l.length (bcs l us)
  inn : ∀ (i : Nat) (x : BrD) (u : Value), l[i]? = some x → us[i]? = some u → W.ownsRow B 3 1 u x.lg.length (ivs x.lg)
structure OwSt (W : World) (B : Nat) (v1 v2 v3 : Value) (S : StD) (us : List (Value × Value × Value)) (ls : List Value) : Prop where
  c : OwCo W B v1 S.cs us
  b : OwBr W B v2 S.bs ls
  u : W.ownsRow B 65 3 v3 S.us.length (ucs S.us)
theorem OwCo.rk {W W' : World} {B : Nat} {v : Value} {l : List CoD} {us : List (Value × Value × Value)} {t0 : TypeId} (h : OwCo W B v l us) (hk : Rk W W' t0) (h1 : 40 ≠ t0) (h2 : 3 ≠ t0) (h3 : 67 ≠ t0) : OwCo W' B v l us :=
  ⟨h.ul, hk _ _ _ _ _ _ h1 h.row, fun i x u hi hu => ⟨hk _ _ _ _ _ _ h2 (h.inn i x u hi hu).1, hk _ _ _ _ _ _ h3 (h.inn i x u hi hu).2.1, hk _ _ _ _ _ _ h3 (h.inn i x u hi hu).2.2⟩⟩
theorem OwBr.rk {W W' : World} {B : Nat} {v : Value} {l : List BrD} {us : List Value} {t0 : TypeId} (h : OwBr W B v l us) (hk : Rk W W' t0) (h1 : 47 ≠ t0) (h2 : 3 ≠ t0) : OwBr W' B v l us :=
  ⟨h.ul, hk _ _ _ _ _ _ h1 h.row, fun i x u hi hu => hk _ _ _ _ _ _ h2 (h.inn i x u hi hu)⟩
/-- No row of a state is of this type. -/
def NoRow (t0 : TypeId) : Prop := 40 ≠ t0 ∧ 47 ≠ t0 ∧ 65 ≠ t0 ∧ 3 ≠ t0 ∧ 67 ≠ t0
theorem OwSt.rk {W W' : World} {B : Nat} {v1 v2 v3 : Value} {S : StD} {us : List (Value × Value × Value)} {ls : List Value} {t0 : TypeId} (h : OwSt W B v1 v2 v3 S us ls) (hk : Rk W W' t0) (hn : NoRow t0) : OwSt W' B v1 v2 v3 S us ls :=
  ⟨h.c.rk hk hn.1 hn.2.2.2.1 hn.2.2.2.2, h.b.rk hk hn.2.1 hn.2.2.2.1, hk _ _ _ _ _ _ hn.2.2.1 h.u⟩
theorem noRow_st : NoRow 26 := ⟨by decide, by decide, by decide, by decide, by decide⟩
theorem OwSt.below {W W' : World} {B : Nat} {v1 v2 v3 : Value} {S : StD} {us : List (Value × Value × Value)} {ls : List Value} (h : OwSt W B v1 v2 v3 S us ls) (hb : Below W.heap.size W W') : OwSt W' B v1 v2 v3 S us ls := h.rk (rk_below hb 26) noRow_st
theorem OwSt.lower {W : World} {B B' : Nat} {v1 v2 v3 : Value} {S : StD} {us : List (Value × Value × Value)} {ls : List Value} (h : OwSt W B v1 v2 v3 S us ls) (hB : B' ≤ B) : OwSt W B' v1 v2 v3 S us ls :=
  ⟨⟨h.c.ul, own_lower h.c.row hB, fun i x u hi hu => ⟨own_lower (h.c.inn i x u hi hu).1 hB, own_lower (h.c.inn i x u hi hu).2.1 hB, own_lower (h.c.inn i x u hi hu).2.2 hB⟩⟩, ⟨h.b.ul, own_lower h.b.row hB, fun i x u hi hu => own_lower (h.b.inn i x u hi hu) hB⟩, own_lower h.u hB⟩
def zeroS : StD := ⟨0, 0, [], [], []⟩
theorem owst_nil (W : World) (B : Nat) : OwSt W B (.slice none 0 0) (.slice none 0 0) (.slice none 0 0) zeroS [] [] :=
  ⟨⟨rfl, World.ownsRow_nil _ _ _ _, fun i x u h => by simp [zeroS] at h⟩, ⟨rfl, World.ownsRow_nil _ _ _ _, fun i x u h => by simp [zeroS] at h⟩, World.ownsRow_nil _ _ _ _⟩
theorem OwCo.rd {W : World} {B : Nat} {v : Value} {l : List CoD} {us : List (Value × Value × Value)} (h : OwCo W B v l us) : RdCo W v l := by
  have hr := h.row
  rcases hr.2 with ⟨rfl, h0⟩ | ⟨g, cap, cur, rfl, _, hg, hn, _, _, ht⟩
  · have : l = [] := List.length_eq_zero_iff.1 h0
    subst this
    exact RdCo.nil W
  · refine ⟨_, _, rfl, fun i x hi => ?_⟩
    obtain ⟨u, h1, q0, q1, q2, q3, q4, q5⟩ := ccs_at l us i x h.ul hi
    have q := hr.cells (g := g) rfl
    have hadd : ∀ k, (⟨g, 0, none⟩ : Addr).add k = ⟨g, k, none⟩ := fun k => by unfold Addr.add; split <;> simp_all
    simp only [hadd] at q
    obtain ⟨i1, i2, i3⟩ := h.inn i x u hi h1
    refine ⟨g, 0, u.1, u.2.1, u.2.2, rfl, heap_lt hg, ?_, rdi_own i1, rdd_own i2, rdd_own i3⟩
    rw [Nat.zero_add]
    exact ⟨q _ _ q0, q _ _ q1, q _ _ q2, q _ _ q3, q _ _ q4, q _ _ q5⟩
theorem OwBr.rd {W : World} {B : Nat} {v : Value} {l : List BrD} {us : List Value} (h : OwBr W B v l us) : RdBr W v l := by
  have hr := h.row
  rcases hr.2 with ⟨rfl, h0⟩ | ⟨g, cap, cur, rfl, _, hg, hn, _, _, ht⟩
  · have : l = [] := List.length_eq_zero_iff.1 h0
    subst this
    exact RdBr.nil W
  · refine ⟨_, _, rfl, fun i x hi => ?_⟩
    obtain ⟨u, h1, q0, q1, q2⟩ := bcs_at l us i x h.ul hi
    have q := hr.cells (g := g) rfl
    have hadd : ∀ k, (⟨g, 0, none⟩ : Addr).add k = ⟨g, k, none⟩ := fun k => by unfold Addr.add; split <;> simp_all
    simp only [hadd] at q
    refine ⟨g, 0, u, rfl, heap_lt hg, ?_, rdi_own (h.inn i x u hi h1)⟩
    rw [Nat.zero_add]
    exact ⟨q _ _ q0, q _ _ q1, q _ _ q2⟩
theorem rdcu_own {W : World} {B : Nat} {v : Value} {l : List CuD} (h : W.ownsRow B 65 3 v l.length (ucs l)) : RdCu W v l := by
  rcases h.2 with ⟨rfl, h0⟩ | ⟨g, cap, cur, rfl, _, hg, -⟩
  · have : l = [] := List.length_eq_zero_iff.1 h0
    subst this
    exact RdCu.nil W
  · refine ⟨_, _, rfl, fun i x hi => ?_⟩
    obtain ⟨q0, q1, q2⟩ := ucs_at l i x hi
    have q := h.cells (g := g) rfl
    have hadd : ∀ k, (⟨g, 0, none⟩ : Addr).add k = ⟨g, k, none⟩ := fun k => by unfold Addr.add; split <;> simp_all
    simp only [hadd] at q
    refine ⟨g, 0, rfl, heap_lt hg, ?_⟩
    rw [Nat.zero_add]
    exact ⟨q _ _ q0, q _ _ q1, q _ _ q2⟩
theorem OwSt.rd {W : World} {B : Nat} {v1 v2 v3 : Value} {S : StD} {us : List (Value × Value × Value)} {ls : List Value} (h : OwSt W B v1 v2 v3 S us ls) : RdSt W v1 v2 v3 S := ⟨h.c.rd, h.b.rd, rdcu_own h.u⟩
theorem last_one {α : Type} {l : List α} {x y : α} {i : Nat} (hi : ¬ i < l.length) (h : (l ++ [x])[i]? = some y) : i = l.length ∧ y = x := by
  rw [List.getElem?_append_right (by omega)] at h
  have h0 : i - l.length = 0 := by
    rcases Nat.eq_zero_or_pos (i - l.length) with h0 | h0
    · exact h0
    · rw [List.getElem?_eq_none (by simp; omega)] at h; cases h
  rw [h0] at h
  simp at h
  exact ⟨by omega, h.symm⟩
/-- One more. -/
theorem OwCo.app {W W' : World} {B : Nat} {v v' : Value} {l : List CoD} {us : List (Value × Value × Value)} {x : CoD} {u : Value × Value × Value} (h : OwCo W B v l us) (h1 : W.ownsRow B 3 1 u.1 x.ps.length (ivs x.ps)) (h2 : W.ownsRow B 67 3 u.2.1 x.d.length (ocs x.d)) (h3 : W.ownsRow B 67 3 u.2.2 x.o.length (ocs x.o)) (ho : W'.ownsRow B 40 6 v' (l.length + 1) (ccs l us ++ [.int .i64 x.n, u.1, u.2.1, u.2.2, .int .i64 x.c, .int .i64 x.s])) (hk : Rk W W' 40) : OwCo W' B v' (l ++ [x]) (us ++ [u]) := by
  refine ⟨by simp [h.ul], by rw [List.length_append, ccs_app l us x u h.ul]; exact ho, fun i y z hy hz => ?_⟩
  by_cases hi : i < l.length
  · rw [List.getElem?_append_left hi] at hy
    rw [List.getElem?_append_left (by rw [h.ul]; exact hi)] at hz
    obtain ⟨i1, i2, i3⟩ := h.inn i y z hy hz
    exact ⟨hk _ _ _ _ _ _ (by decide) i1, hk _ _ _ _ _ _ (by decide) i2, hk _ _ _ _ _ _ (by decide) i3⟩
  · obtain ⟨-, rfl⟩ := last_one hi hy
    obtain ⟨-, rfl⟩ := last_one (by rw [h.ul]; exact hi) hz
    exact ⟨hk _ _ _ _ _ _ (by decide) h1, hk _ _ _ _ _ _ (by decide) h2, hk _ _ _ _ _ _ (by decide) h3⟩
theorem OwBr.app {W W' : World} {B : Nat} {v v' : Value} {l : List BrD} {us : List Value} {x : BrD} {u : Value} (h : OwBr W B v l us) (h1 : W.ownsRow B 3 1 u x.lg.length (ivs x.lg)) (ho : W'.ownsRow B 47 3 v' (l.length + 1) (bcs l us ++ [.int .i64 x.i, .string x.nm, u])) (hk : Rk W W' 47) : OwBr W' B v' (l ++ [x]) (us ++ [u]) := by
  refine ⟨by simp [h.ul], by rw [List.length_append, bcs_app l us x u h.ul]; exact ho, fun i y z hy hz => ?_⟩
  by_cases hi : i < l.length
  · rw [List.getElem?_append_left hi] at hy
    rw [List.getElem?_append_left (by rw [h.ul]; exact hi)] at hz
    exact hk _ _ _ _ _ _ (by decide) (h.inn i y z hy hz)
  · obtain ⟨-, rfl⟩ := last_one hi hy
    obtain ⟨-, rfl⟩ := last_one (by rw [h.ul]; exact hi) hz
    exact hk _ _ _ _ _ _ (by decide) h1
theorem Try.infoBr : (Try.prog.info? 47).map (fun i => (i.zero, i.size, i.bytes)) = some (some (.agg #[.int .i64 0, .string ⟨#[]⟩, .slice none 0 0]), 3, 48) := by kernel_rfl
theorem three_br (i : Int) (s : ByteArray) (a : Option Addr) (n k : Nat) : ∀ u ∈ [Value.int .i64 i, .string s, .slice a n k], u.oneCell' = true := by
  intro u hu
  simp at hu
  rcases hu with rfl | rfl | rfl <;> rfl
theorem eqbI (a b : Int) : (a == b) = decide (a = b) := by by_cases h : a = b <;> simp [h]
theorem Try.infoCu : (Try.prog.info? 65).map (fun i => (i.zero, i.size, i.bytes)) = some (some (.agg #[.int .i64 0, .int .i64 0, .int .i64 0]), 3, 24) := by kernel_rfl
theorem three_cu (i j k : Int) : ∀ u ∈ [Value.int .i64 i, .int .i64 j, .int .i64 k], u.oneCell' = true := by
  intro u hu
  simp at hu
  rcases hu with rfl | rfl | rfl <;> rfl
theorem Try.infoCm : (Try.prog.info? 40).map (fun i => (i.zero, i.size, i.bytes)) = some (some (.agg #[.int .i64 0, .slice none 0 0, .slice none 0 0, .slice none 0 0, .int .i64 0, .int .i64 0]), 6, 96) := by kernel_rfl
theorem six_co (i j k : Int) (a1 a2 a3 : Option Addr) (n1 n2 n3 k1 k2 k3 : Nat) : ∀ u ∈ [Value.int .i64 i, .slice a1 n1 k1, .slice a2 n2 k2, .slice a3 n3 k3, .int .i64 j, .int .i64 k], u.oneCell' = true := by
  intro u hu
  simp at hu
  rcases hu with rfl | rfl | rfl | rfl | rfl | rfl <;> rfl
theorem zero_fit : zeroS.Fit := ⟨by decide, by decide, by decide, by decide, by simp [zeroS], by simp [zeroS]⟩
theorem results_row_tmpR {P : Program} {fn : Func} {p u : Tmp} {ty : TypeId} (h : fn.results = #[.cell p ty, .tmp u]) (tmps : Array Value) (w : World) (g : Nat) (t : TypeId) (cs : Array Value) (fr : Nat × Nat) (d : TypeDesc)
    (hp : tmps.getD p undef = .pointer (some ⟨g, 0, none⟩)) (hg : w.heap[g]? = some (.cells cs t fr))
    (hu : P.underlying ty = some d) (hd : (match d with | .struct _ | .array _ _ => true | _ => false) = true) (hi : (P.info? ty).map (·.size) = some cs.size) :
    (results fn tmps).run P w = .ok (.tuple #[.agg cs, tmps.getD u undef]) w := by
  have hp' : tmps[p]?.getD undef = .pointer (some ⟨g, 0, none⟩) := by simpa using hp
  simp [results, h, hp', asAddr, run_loadVar_row w g t ty cs fr d hg hu hd hi]
theorem Try.sizeSt : (Try.prog.info? 26).map (·.size) = some 5 := by kernel_rfl
/-- All of a state's box is written. -/
theorem SB.put {W : World} {g : Nat} {S : StD} {v1 v2 v3 : Value} (h : SB W g S v1 v2 v3) (S' : StD) (u1 u2 u3 : Value) : SB (((((W.setCell ⟨g, 0, none⟩ (.int .i64 S'.nc)).setCell ⟨g, 1, none⟩ (.int .i64 S'.nb)).setCell ⟨g, 2, none⟩ u1).setCell ⟨g, 3, none⟩ u2).setCell ⟨g, 4, none⟩ u3) g S' u1 u2 u3 :=
  heap_setCell (heap_setCell (heap_setCell (heap_setCell (heap_setCell h 0 (.int .i64 S'.nc)) 1 (.int .i64 S'.nb)) 2 u1) 3 u2) 4 u3
theorem below_putS {B g : Nat} {W0 W : World} (h : Below B W0 W) (hg : B ≤ g) (S' : StD) (u1 u2 u3 : Value) : Below B W0 (((((W.setCell ⟨g, 0, none⟩ (.int .i64 S'.nc)).setCell ⟨g, 1, none⟩ (.int .i64 S'.nb)).setCell ⟨g, 2, none⟩ u1).setCell ⟨g, 3, none⟩ u2).setCell ⟨g, 4, none⟩ u3) :=
  ((((h.setCell (p := ⟨g, 0, none⟩) hg _).setCell (p := ⟨g, 1, none⟩) hg _).setCell (p := ⟨g, 2, none⟩) hg _).setCell (p := ⟨g, 3, none⟩) hg _).setCell (p := ⟨g, 4, none⟩) hg _
theorem ow_putS {B g : Nat} {W : World} {S S' T : StD} {v1 v2 v3 u1 u2 u3 t1 t2 t3 : Value} {us : List (Value × Value × Value)} {ls : List Value} (h : SB W g S v1 v2 v3) (ho : OwSt W B t1 t2 t3 T us ls) : OwSt (((((W.setCell ⟨g, 0, none⟩ (.int .i64 S'.nc)).setCell ⟨g, 1, none⟩ (.int .i64 S'.nb)).setCell ⟨g, 2, none⟩ u1).setCell ⟨g, 3, none⟩ u2).setCell ⟨g, 4, none⟩ u3) B t1 t2 t3 T us ls := by
  have k1 := heap_setCell h 0 (.int .i64 S'.nc)
  have k2 := heap_setCell k1 1 (.int .i64 S'.nb)
  have k3 := heap_setCell k2 2 u1
  have k4 := heap_setCell k3 3 u2
  exact ((((ho.rk (rk_set h) noRow_st).rk (rk_set k1) noRow_st).rk (rk_set k2) noRow_st).rk (rk_set k3) noRow_st).rk (rk_set k4) noRow_st
theorem frzS {W : World} {g : Nat} {S : StD} {v1 v2 v3 : Value} (h : SB W g S v1 v2 v3) : W.frozen? ⟨g, 0, none⟩ = false ∧ W.frozen? ⟨g, 1, none⟩ = false ∧ W.frozen? ⟨g, 2, none⟩ = false ∧ W.frozen? ⟨g, 3, none⟩ = false ∧ W.frozen? ⟨g, 4, none⟩ = false := ⟨frz h 0, frz h 1, frz h 2, frz h 3, frz h 4⟩
theorem st_val {v a b c : Value} {S : StD} (h : v.cells.toList = [.int .i64 S.nc, .int .i64 S.nb, a, b, c]) : v = .agg (S.fs a b c) := by
  cases v <;> simp [Value.cells] at h
  rename_i cs
  congr 1
  exact Array.toList_inj.1 (by simpa [StD.fs] using h)
section
variable {H : Type}
/-- What came in is not too great. -/
def Sz (up : Bool) (t : TypeId) (d : DataW H) : Prop := match up with
  | false => ∀ n ∈ d.weights Try.prog t, n ≤ reachBytes
  | true => Rows.uptoBulk d ≤ 1048576
theorem bulkR_pos (d : DataW H) : 1 ≤ Rows.uptoBulk d := by
  unfold Rows.uptoBulk
  split <;> omega
theorem bulkR_len : ∀ l : List (DataW H), l.length ≤ Rows.uptoBulkAll l
  | [] => Nat.zero_le _
  | d :: l => by
    have h1 := bulkR_pos d
    have h2 := bulkR_len l
    rw [Rows.uptoBulkAll, List.length_cons]
    omega
theorem bulkR_mem {d : DataW H} : ∀ {l : List (DataW H)}, d ∈ l → Rows.uptoBulk d ≤ Rows.uptoBulkAll l
  | [], h => by cases h
  | e :: l, h => by
    rw [Rows.uptoBulkAll]
    rcases List.mem_cons.1 h with rfl | h
    · omega
    · have := bulkR_mem h
      omega
theorem sz_elem {up : Bool} {t e : TypeId} {l r : List (DataW H)} {d : DataW H} (hu : Try.prog.underlying t = some (.slice e)) (h : Sz up t (.slice l r)) (hd : d ∈ l) : Sz up e d := by
  cases up with
  | false =>
    intro n hn
    refine h n ?_
    unfold DataW.weights
    rw [hu]
    exact List.mem_cons_of_mem _ (List.mem_append_left _ (wAll_mem hd n hn))
  | true =>
    have := bulkR_mem hd
    unfold Sz at h ⊢
    rw [Rows.uptoBulk] at h
    omega
/-- How long a row may be whose elements have b bytes. -/
def Ln (b : Nat) (up : Bool) (n : Nat) : Prop := n * b ≤ 140737488355328 ∧ (up = true → n ≤ 1048576)
theorem sz_len {up : Bool} {t e : TypeId} {by8 : Nat} {l r : List (DataW H)} (hu : Try.prog.underlying t = some (.slice e)) (hb : Try.prog.bytesOf e = by8) (h9 : by8 ≤ 134217728) (h : Sz up t (.slice l r)) : Ln by8 up l.length := by
  subst hb
  cases up with
  | false =>
    have := h ((l.length + r.length) * Try.prog.bytesOf e) (by unfold DataW.weights; rw [hu]; exact List.mem_cons_self ..)
    have h2 : l.length * Try.prog.bytesOf e ≤ (l.length + r.length) * Try.prog.bytesOf e := Nat.mul_le_mul_right _ (by omega)
    unfold reachBytes at this
    exact ⟨by omega, fun h => by cases h⟩
  | true =>
    have := bulkR_len l
    unfold Sz at h
    rw [Rows.uptoBulk] at h
    refine ⟨?_, fun _ => by omega⟩
    have h3 : l.length * Try.prog.bytesOf e ≤ 1048576 * 134217728 := Nat.mul_le_mul (by omega) h9
    omega
theorem sz_part {up : Bool} {t f : TypeId} {fs : Array Field} {ps : List (DataW H)} {d : DataW H} {j : Nat} (hu : Try.prog.underlying t = some (.struct fs)) (h : Sz up t (.agg ps)) (hf : (fs.toList.map (·.type))[j]? = some f) (hd : ps[j]? = some d) : Sz up f d := by
  cases up with
  | false =>
    intro n hn
    refine h n ?_
    unfold DataW.weights
    rw [hu]
    exact DataW.weights_mem_each hf hd n hn
  | true =>
    have := bulkR_mem (List.mem_of_getElem? hd)
    unfold Sz at h ⊢
    rw [Rows.uptoBulk] at h
    omega
variable {enc : TypeId × Value → H} {w : World} {spare : Nat → Bool} {held : Bool}
/-- A row that came in. -/
theorem open_rowG {α : Type} [Inhabited α] {up : Bool} {t e : TypeId} {sz fuel : Nat} {v : Value} {x : DataW H × List MemPlace} (C : α → List Value → Prop) (hu : Try.prog.underlying t = some (.slice e)) (h4 : Try.prog.cellsOf e = sz) (h0 : 0 < sz) {by8 : Nat} (hb : Try.prog.bytesOf e = by8) (h9 : by8 ≤ 134217728)
    (ho : ∀ {n : Nat} {cs : List Value} {y : DataW H × List MemPlace}, DataW.trod enc Try.prog w 0 spare held n e cs = some y → Sz up e y.1 → ∃ a, C a cs)
    (h : DataW.trod enc Try.prog w 0 spare held fuel t [v] = some x) (hz : Sz up t x.1) :
    ∃ (l : List α) (ao : Option Addr) (cp : Nat), v = .slice ao l.length cp ∧ (l.length ≤ cp ∧ (ao = none → cp = 0)) ∧ Ln by8 up l.length ∧ ∀ (i : Nat) (a : α), l[i]? = some a → ∃ b off cs, ao = some ⟨b, off, none⟩ ∧ b < w.heap.size ∧ C a cs ∧ ∀ j u, cs[j]? = some u → w.cell? ⟨b, off + i * sz + j, none⟩ = some u := by
  rcases Go.Deep.open_slice hu h with ⟨hcs, _⟩ | ⟨a, len, cap, m, n, D, Pl, hcs, _, hl, hmx, hmm, hx, hall⟩
  · simp at hcs
    subst hcs
    exact ⟨[], none, 0, rfl, ⟨Nat.le_refl _, fun _ => rfl⟩, ⟨by simp, fun _ => Nat.zero_le _⟩, fun i a h => by simp at h⟩
  · simp at hcs
    subst hcs
    have hlm : len ≤ m := by rw [hmm]; split <;> omega
    rw [hx] at hz
    have hL := sz_len hu hb h9 hz
    simp only [List.length_map, List.length_range] at hL
    rw [h4] at hall
    obtain ⟨b, off, spot⟩ := a
    have hadd : ∀ k, (⟨b, off, none⟩ : Addr).add k = ⟨b, off + k, none⟩ := fun k => by unfold Addr.add; split <;> simp_all
    have each : ∀ i, i < len → ∃ a : α, spot = none ∧ ∃ cs, C a cs ∧ b < w.heap.size ∧ ∀ j u, cs[j]? = some u → w.cell? ⟨b, off + i * sz + j, none⟩ = some u := by
      intro i hi
      obtain ⟨cs', h1, h2⟩ := hall i (by omega)
      obtain ⟨o, hC⟩ := ho h2 (sz_elem hu hz (List.mem_map.2 ⟨i, List.mem_range.2 hi, rfl⟩))
      obtain ⟨-, hcl, hcell⟩ := World.cells?_some h1
      have hs : spot = none := by
        obtain ⟨cs0, g1, -⟩ := hall 0 (by omega)
        obtain ⟨-, gcl, gcell⟩ := World.cells?_some g1
        have e0 := gcell 0 h0
        rw [List.getElem?_eq_getElem (by omega)] at e0
        have := World.cell?_spot e0
        simpa [Addr.add] using this
      subst hs
      have e0 := hcell 0 h0
      rw [List.getElem?_eq_getElem (by omega)] at e0
      rw [Go.Deep.add_add] at e0
      have hbl := World.block_lt_of_cell? w _ e0
      rw [hadd] at hbl
      refine ⟨o, rfl, cs', hC, hbl, fun j u hj => ?_⟩
      have hjl := (List.getElem?_eq_some_iff.1 hj).1
      have ej := hcell j (by omega)
      rw [Go.Deep.add_add, hadd, hj] at ej
      rw [Nat.add_assoc]
      exact ej
    obtain ⟨f, hf⟩ := @Go.Deep.choose_lt α _ _ _ each
    have hlen : ((List.range len).map f).length = len := by simp
    refine ⟨(List.range len).map f, some ⟨b, off, spot⟩, cap, by rw [hlen], ⟨by rw [hlen]; omega, fun h => by cases h⟩, by rw [hlen]; exact hL, fun i o ho => ?_⟩
    have hi : i < len := by
      have := (List.getElem?_eq_some_iff.1 ho).1
      simpa using this
    simp [hi] at ho
    subst ho
    obtain ⟨rfl, cs, r1, r2, r3⟩ := hf i hi
    exact ⟨b, off, cs, rfl, r2, r1, r3⟩
theorem row_mem {α : Type} {l : List α} {P : α → Prop} (h : ∀ (i : Nat) (a : α), l[i]? = some a → P a) : ∀ a ∈ l, P a := fun a ha => by
  obtain ⟨i, hi, rfl⟩ := List.mem_iff_getElem.1 ha
  exact h i _ (List.getElem?_eq_getElem hi)
/-- A number that an int can be. -/
def InI (k : Int) : Prop := -9223372036854775808 ≤ k ∧ k ≤ 9223372036854775807
/-- Numbers that came in. -/
theorem open_intsR {up : Bool} {fuel : Nat} {v : Value} {x : DataW H × List MemPlace} (h : DataW.trod enc Try.prog w 0 spare held fuel 28 [v] = some x) (hz : Sz up 28 x.1) : ∃ l : List Int, RdI w v l ∧ Ln 8 up l.length ∧ ∀ n ∈ l, InI n := by
  obtain ⟨l, ao, cp, rfl, -, hL, hc⟩ := open_rowG (α := Int) (sz := 1) (by8 := 8) (fun a cs => cs = [.int .i64 a] ∧ InI a) Try.underlying28 (by kernel_rfl) (by decide) (by kernel_rfl) (by decide) (fun h _ => by
    obtain ⟨a, e, -, hw⟩ := DataW.trod_int Try.underlying3 h
    exact ⟨a, e, wf_bd hw⟩) h hz
  refine ⟨l, ⟨ao, cp, rfl, fun i a hi => ?_⟩, hL, row_mem (fun i a hi => by obtain ⟨b, off, cs, -, -, h, -⟩ := hc i a hi; exact h.2)⟩
  obtain ⟨b, off, cs, rfl, h1, ⟨rfl, -⟩, h2⟩ := hc i a hi
  have := h2 0 _ rfl
  rw [Nat.mul_one] at this
  exact ⟨b, off, rfl, h1, this⟩
/-- What a delta that came in is. -/
def Dl (up : Bool) (l : List OpD) : Prop := l.length * 32 ≤ 140737488355328 ∧ (∀ o ∈ l, o.In) ∧ (up = true → l.length ≤ 1048576 ∧ ∀ o ∈ l, o.t.size ≤ 1048576)
def Od (up : Bool) (enc : TypeId × Value → H) (w : World) (spare : Nat → Bool) (held : Bool) : Prop := ∀ {fuel : Nat} {v : Value} {x : DataW H × List MemPlace}, DataW.trod enc Try.prog w 0 spare held fuel 38 [v] = some x → Sz up 38 x.1 → ∃ l : List OpD, RdD w v l ∧ Dl up l
theorem od_false : Od (H := H) false enc w spare held := by
  intro fuel v x h hz
  obtain ⟨ao, len, cap, rfl⟩ : ∃ ao len cap, v = .slice ao len cap := by
    rcases Go.Deep.open_slice Try.underlying38 h with ⟨hcs, _⟩ | ⟨a, l, c, m, n, D, Pl, hcs, _⟩
    · simp at hcs
      exact ⟨_, _, _, hcs⟩
    · simp at hcs
      exact ⟨_, _, _, hcs⟩
  obtain ⟨l, h1, h2, h3⟩ := open_dlz (ao := ao) (len := len) (cap := cap) h hz
  exact ⟨l, h1, by omega, fun o ho => (h3 o ho).1, fun h => by cases h⟩
/-- A commit, a branch, a client that came in. -/
def CoU (up : Bool) (x : CoD) : Prop := x.Fit ∧ Dl up x.d ∧ Dl up x.o ∧ Ln 8 up x.ps.length ∧ InI x.n ∧ ∀ p ∈ x.ps, InI p
def BrU (up : Bool) (x : BrD) : Prop := x.Fit ∧ Ln 8 up x.lg.length ∧ (up = true → x.nm.size ≤ 1048576) ∧ ∀ p ∈ x.lg, InI p
set_option maxRecDepth 20000 in
theorem open_co {up : Bool} {n : Nat} {cs : List Value} {x : DataW H × List MemPlace} (od : Od up enc w spare held) (h : DataW.trod enc Try.prog w 0 spare held n 40 cs = some x) (hz : Sz up 40 x.1) :
    ∃ (c : CoD), ∃ u1 u2 u3, cs = [.int .i64 c.n, u1, u2, u3, .int .i64 c.c, .int .i64 c.s] ∧ RdI w u1 c.ps ∧ RdD w u2 c.d ∧ RdD w u3 c.o ∧ CoU up c := by
  obtain ⟨xs, m, _, hx, hl, _, hf⟩ := DataW.trod_struct Try.underlying40 h
  have h4 : Try.prog.cellsOf 40 = 6 := by kernel_rfl
  have c3 : Try.prog.cellsOf 3 = 1 := by kernel_rfl
  have c8 : Try.prog.cellsOf 28 = 1 := by kernel_rfl
  have c9 : Try.prog.cellsOf 38 = 1 := by kernel_rfl
  rw [h4] at hl
  have hxl : xs.length = 6 := by assumption
  match xs, hxl, cs, hl with
  | [y0, y1, y2, y3, y4, y5], _, [v0, v1, v2, v3, v4, v5], _ =>
    have g0 := hf 0 _ rfl
    have g1 := hf 1 _ rfl
    have g2 := hf 2 _ rfl
    have g3 := hf 3 _ rfl
    have g4 := hf 4 _ rfl
    have g5 := hf 5 _ rfl
    simp [c3, c8, c9] at g0 g1 g2 g3 g4 g5
    obtain ⟨a0, e0, -, i0⟩ := DataW.trod_int Try.underlying3 g0
    obtain ⟨a4, e4, -, -⟩ := DataW.trod_int Try.underlying3 g4
    obtain ⟨a5, e5, -, -⟩ := DataW.trod_int Try.underlying3 g5
    simp at e0 e4 e5
    rw [hx] at hz
    simp only [List.map] at hz
    obtain ⟨A, rA, lA, iA⟩ := open_intsR g1 (sz_part (j := 1) (d := y1.1) Try.underlying40 hz rfl rfl)
    obtain ⟨B, rB, lB⟩ := od g2 (sz_part (j := 2) (d := y2.1) Try.underlying40 hz rfl rfl)
    obtain ⟨C, rC, lC⟩ := od g3 (sz_part (j := 3) (d := y3.1) Try.underlying40 hz rfl rfl)
    exact ⟨⟨a0, A, B, C, a4, a5⟩, v1, v2, v3, by rw [e0, e4, e5], rA, rB, rC, ⟨by have := lA.1; simp only; omega, by have := lB.1; simp only; unfold maxLen; omega, lB.2.1, by have := lC.1; simp only; unfold maxLen; omega, lC.2.1⟩, lB, lC, lA, wf_bd i0, iA⟩
set_option maxRecDepth 20000 in
theorem open_br {up : Bool} {n : Nat} {cs : List Value} {x : DataW H × List MemPlace} (h : DataW.trod enc Try.prog w 0 spare held n 47 cs = some x) (hz : Sz up 47 x.1) :
    ∃ (c : BrD), ∃ u1, cs = [.int .i64 c.i, .string c.nm, u1] ∧ RdI w u1 c.lg ∧ BrU up c := by
  obtain ⟨xs, m, _, hx, hl, _, hf⟩ := DataW.trod_struct Try.underlying47 h
  have h4 : Try.prog.cellsOf 47 = 3 := by kernel_rfl
  have c3 : Try.prog.cellsOf 3 = 1 := by kernel_rfl
  have c8 : Try.prog.cellsOf 28 = 1 := by kernel_rfl
  have c9 : Try.prog.cellsOf 9 = 1 := by kernel_rfl
  rw [h4] at hl
  have hxl : xs.length = 3 := by assumption
  match xs, hxl, cs, hl with
  | [y0, y1, y2], _, [v0, v1, v2], _ =>
    have g0 := hf 0 _ rfl
    have g1 := hf 1 _ rfl
    have g2 := hf 2 _ rfl
    simp [c3, c8, c9] at g0 g1 g2
    obtain ⟨a0, e0, -, -⟩ := DataW.trod_int Try.underlying3 g0
    obtain ⟨a1, e1, f1, -⟩ := DataW.trod_string Try.underlying9 g1
    simp at e0 e1
    rw [hx] at hz
    simp only [List.map] at hz
    obtain ⟨A, rA, lA, iA⟩ := open_intsR g2 (sz_part (j := 2) (d := y2.1) Try.underlying47 hz rfl rfl)
    have z1 : Sz up 9 y1.1 := sz_part (j := 1) (d := y1.1) Try.underlying47 hz rfl rfl
    have ht : a1.size ≤ 140737488355328 ∧ (up = true → a1.size ≤ 1048576) := by
      cases up with
      | false =>
        have := z1 a1.size (by rw [f1]; simp [DataW.weights])
        unfold reachBytes at this
        exact ⟨by omega, fun h => by cases h⟩
      | true =>
        unfold Sz at z1
        rw [f1] at z1
        simp only [Rows.uptoBulk] at z1
        have := data_len a1
        exact ⟨by omega, fun _ => by omega⟩
    exact ⟨⟨a0, a1, A⟩, v2, by rw [e0, e1], rA, ⟨ht.1, by have := lA.1; simp only; omega⟩, lA, ht.2, iA⟩
set_option maxRecDepth 20000 in
theorem open_cu {up : Bool} {n : Nat} {cs : List Value} {x : DataW H × List MemPlace} (h : DataW.trod enc Try.prog w 0 spare held n 65 cs = some x) (_hz : Sz up 65 x.1) :
    ∃ (c : CuD), cs = [.int .i64 c.c, .int .i64 c.b, .int .i64 c.s] := by
  obtain ⟨xs, m, _, hx, hl, _, hf⟩ := DataW.trod_struct Try.underlying65 h
  have h4 : Try.prog.cellsOf 65 = 3 := by kernel_rfl
  have c3 : Try.prog.cellsOf 3 = 1 := by kernel_rfl
  rw [h4] at hl
  have hxl : xs.length = 3 := by assumption
  match xs, hxl, cs, hl with
  | [y0, y1, y2], _, [v0, v1, v2], _ =>
    have g0 := hf 0 _ rfl
    have g1 := hf 1 _ rfl
    have g2 := hf 2 _ rfl
    simp [c3] at g0 g1 g2
    obtain ⟨a0, e0, -, -⟩ := DataW.trod_int Try.underlying3 g0
    obtain ⟨a1, e1, -, -⟩ := DataW.trod_int Try.underlying3 g1
    obtain ⟨a2, e2, -, -⟩ := DataW.trod_int Try.underlying3 g2
    simp at e0 e1 e2
    exact ⟨⟨a0, a1, a2⟩, by rw [e0, e1, e2]⟩
instance : Inhabited CoD := ⟨⟨0, [], [], [], 0, 0⟩⟩
instance : Inhabited BrD := ⟨⟨0, ⟨#[]⟩, []⟩⟩
instance : Inhabited CuD := ⟨⟨0, 0, 0⟩⟩
/-- A state that came in. -/
structure StU (up : Bool) (S : StD) : Prop where
  fit : S.Fit
  cl : Ln 96 up S.cs.length
  bl : Ln 48 up S.bs.length
  ul : Ln 24 up S.us.length
  co : ∀ x ∈ S.cs, CoU up x
  br : ∀ x ∈ S.bs, BrU up x
set_option maxRecDepth 20000 in
theorem open_st {up : Bool} {n : Nat} {cs : List Value} {x : DataW H × List MemPlace} (od : Od up enc w spare held) (h : DataW.trod enc Try.prog w 0 spare held n 26 cs = some x) (hz : Sz up 26 x.1) :
    ∃ (S : StD) (v1 v2 v3 : Value), cs = [.int .i64 S.nc, .int .i64 S.nb, v1, v2, v3] ∧ RdSt w v1 v2 v3 S ∧ StU up S := by
  obtain ⟨xs, m, _, hx, hl, _, hf⟩ := DataW.trod_struct Try.underlying26 h
  have h4 : Try.prog.cellsOf 26 = 5 := by kernel_rfl
  have c3 : Try.prog.cellsOf 3 = 1 := by kernel_rfl
  have c7 : Try.prog.cellsOf 22 = 1 := by kernel_rfl
  have c8 : Try.prog.cellsOf 23 = 1 := by kernel_rfl
  have c9 : Try.prog.cellsOf 24 = 1 := by kernel_rfl
  rw [h4] at hl
  have hxl : xs.length = 5 := by assumption
  match xs, hxl, cs, hl with
  | [y0, y1, y2, y3, y4], _, [v0, v1, v2, v3, v4], _ =>
    have g0 := hf 0 _ rfl
    have g1 := hf 1 _ rfl
    have g2 := hf 2 _ rfl
    have g3 := hf 3 _ rfl
    have g4 := hf 4 _ rfl
    simp [c3, c7, c8, c9] at g0 g1 g2 g3 g4
    obtain ⟨a0, e0, -, w0⟩ := DataW.trod_int Try.underlying3 g0
    obtain ⟨a1, e1, -, w1⟩ := DataW.trod_int Try.underlying3 g1
    simp at e0 e1
    rw [hx] at hz
    simp only [List.map] at hz
    have z2 : Sz up 22 y2.1 := sz_part (j := 2) (d := y2.1) Try.underlying26 hz rfl rfl
    have z3 : Sz up 23 y3.1 := sz_part (j := 3) (d := y3.1) Try.underlying26 hz rfl rfl
    have z4 : Sz up 24 y4.1 := sz_part (j := 4) (d := y4.1) Try.underlying26 hz rfl rfl
    obtain ⟨A, aA, kA, rfl, -, lA, hA⟩ := open_rowG (α := CoD) (sz := 6) (by8 := 96) (fun c cs => ∃ u1 u2 u3, cs = [.int .i64 c.n, u1, u2, u3, .int .i64 c.c, .int .i64 c.s] ∧ RdI w u1 c.ps ∧ RdD w u2 c.d ∧ RdD w u3 c.o ∧ CoU up c) Try.underlying22 (by kernel_rfl) (by decide) (by kernel_rfl) (by decide) (fun h hz => open_co od h hz) g2 z2
    obtain ⟨B, aB, kB, rfl, -, lB, hB⟩ := open_rowG (α := BrD) (sz := 3) (by8 := 48) (fun c cs => ∃ u1, cs = [.int .i64 c.i, .string c.nm, u1] ∧ RdI w u1 c.lg ∧ BrU up c) Try.underlying23 (by kernel_rfl) (by decide) (by kernel_rfl) (by decide) (fun h hz => open_br h hz) g3 z3
    obtain ⟨C, aC, kC, rfl, -, lC, hC⟩ := open_rowG (α := CuD) (sz := 3) (by8 := 24) (fun c cs => cs = [.int .i64 c.c, .int .i64 c.b, .int .i64 c.s]) Try.underlying24 (by kernel_rfl) (by decide) (by kernel_rfl) (by decide) (fun h hz => open_cu h hz) g4 z4
    have b0 := wf_bd w0
    have b1 := wf_bd w1
    have mA : ∀ x ∈ A, CoU up x := row_mem (fun i a hi => by obtain ⟨b, off, cs, -, -, ⟨u1, u2, u3, -, -, -, -, h⟩, -⟩ := hA i a hi; exact h)
    have mB : ∀ x ∈ B, BrU up x := row_mem (fun i a hi => by obtain ⟨b, off, cs, -, -, ⟨u1, -, -, h⟩, -⟩ := hB i a hi; exact h)
    refine ⟨⟨a0, a1, A, B, C⟩, _, _, _, by rw [e0, e1], ⟨⟨aA, kA, rfl, fun i a hi => ?_⟩, ⟨aB, kB, rfl, fun i a hi => ?_⟩, ⟨aC, kC, rfl, fun i a hi => ?_⟩⟩, ⟨⟨b0.1, b0.2, b1.1, b1.2, fun x hx => (mA x hx).1, fun x hx => (mB x hx).1⟩, lA, lB, lC, mA, mB⟩⟩
    · obtain ⟨b, off, cs, rfl, h1, ⟨u1, u2, u3, rfl, r1, r2, r3, -⟩, h2⟩ := hA i a hi
      exact ⟨b, off, u1, u2, u3, rfl, h1, ⟨h2 0 _ rfl, h2 1 _ rfl, h2 2 _ rfl, h2 3 _ rfl, h2 4 _ rfl, h2 5 _ rfl⟩, r1, r2, r3⟩
    · obtain ⟨b, off, cs, rfl, h1, ⟨u1, rfl, r1, -⟩, h2⟩ := hB i a hi
      exact ⟨b, off, u1, rfl, h1, ⟨h2 0 _ rfl, h2 1 _ rfl, h2 2 _ rfl⟩, r1⟩
    · obtain ⟨b, off, cs, rfl, h1, rfl, h2⟩ := hC i a hi
      exact ⟨b, off, rfl, h1, ⟨h2 0 _ rfl, h2 1 _ rfl, h2 2 _ rfl⟩⟩
end
theorem run_append_nil (cp : Nat) {T e ty : TypeId} {i0 : TypeInfo} (w : World) (hT : Try.prog.underlying T = some (.slice e)) (hin : Try.prog.info? e = some i0) : (Builtin.append_ #[T, T] ty #[.slice none 0 0, .slice none 0 cp]).run Try.prog w = .ok (.slice none 0 0) w := by
  simp [Builtin.append_, run_underlying hT, sizeOf, typeInfo, hin, Builtin.lenOf, Builtin.firstCells]
set_option maxRecDepth 20000 in
/-- append(nil, l...): a row in memory of its own. -/
theorem wp_dupG {W : World} {o : Oper} {a : Act} {K : Act → World → Prop} {Q : Exit → Act → World → Prop} (s x : Operand) {T e : TypeId} {i0 : TypeInfo} {zv : Value} {z by8 n cp B : Nat} {ao : Option Addr} {xs : List Value} (hT : Try.prog.underlying T = some (.slice e)) (hin : Try.prog.info? e = some i0) (hz0 : i0.zero = some zv) (hz1 : i0.size = z) (hz2 : i0.bytes = by8) (hzs : zv.cells.size = z) (hzp : 0 < z)
    (ho : o.op = .call { callee := .builtin .append, args := #[s, x], argTypes := #[T, T] }) (hs : a.eval s = .slice none 0 0) (hx : a.eval x = .slice ao n cp)
    (hlen : xs.length = n * z) (hc : ∀ ad, ao = some ad → ∀ j u, xs[j]? = some u → W.cell? (ad.add j) = some u) (hn : ao = none → n = 0) (h1 : ∀ u ∈ xs, u.oneCell' = true) (h63 : n ≤ maxLen) (hby : n * by8 ≤ 140737488355328) (hB : B ≤ W.heap.size)
    (h : ∀ a' k' w', w'.ownsRow B e z (.slice a' n k') n xs → Below W.heap.size W w' → K (a.put o.dst (.slice a' n k')) w') : o.wp Try.prog a W K Q := by
  have hnil := World.ownsRow_nil W B e z
  cases ao with
  | none =>
    have h0 := hn rfl
    subst h0
    have hxs : xs = [] := List.eq_nil_of_length_eq_zero (by omega)
    subst hxs
    have hrun := run_append_nil (ty := o.type) cp W hT hin
    unfold Oper.wp
    simp [execOp, ho, resolve, invoke, builtin, hs, hx, hrun, Result.andThen]
    exact h none 0 W hnil (Below.refl _ _)
  | some ad =>
    refine wp_append_own W s x T ho B e i0 zv z by8 hT hin hz0 hz1 hz2 hzs hzp (.slice none 0 0) 0 [] hs hnil ad n cp xs hx hlen (hc ad rfl) h1 (by omega) (by rw [Nat.zero_add]; exact hby) hB ?_
    intro v' w' ho' hg _
    rw [Nat.zero_add, List.nil_append] at ho'
    obtain ⟨a', k', rfl⟩ := own_form ho'
    exact h a' k' w' ho' ⟨hg.os, hg.tape, hg.output, hg.size, fun k hk => hg.block k hk (by simp [Value.ownBlock])⟩
theorem ivs_one (l : List Int) : ∀ u ∈ ivs l, u.oneCell' = true := by
  intro u hu
  unfold ivs at hu
  obtain ⟨n, -, rfl⟩ := List.mem_map.1 hu
  rfl
theorem ucs_len : ∀ l : List CuD, (ucs l).length = l.length * 3
  | [] => rfl
  | o :: l => by simp [ucs, ucs_len l]; omega
theorem ucs_one : ∀ (l : List CuD), ∀ u ∈ ucs l, u.oneCell' = true
  | [], u, hu => by simp [ucs] at hu
  | o :: l, u, hu => by
    have ih := ucs_one l u
    simp [ucs] at hu
    rcases hu with rfl | rfl | rfl | hu
    · rfl
    · rfl
    · rfl
    · exact ih hu
theorem adK (b off j : Nat) : (⟨b, off, none⟩ : Addr).add j = ⟨b, off + j, none⟩ := by unfold Addr.add; split <;> simp_all
theorem rdi_src {W : World} {ao : Option Addr} {cp : Nat} {l : List Int} (h : RdI W (.slice ao l.length cp) l) : (∀ ad, ao = some ad → ∀ j u, (ivs l)[j]? = some u → W.cell? (ad.add j) = some u) ∧ (ao = none → l.length = 0) := by
  obtain ⟨ao', cp', e, hc⟩ := h
  simp only [Value.slice.injEq] at e
  obtain ⟨rfl, -, rfl⟩ := e
  refine ⟨fun ad had j u hj => ?_, fun hn => ?_⟩
  · unfold ivs at hj
    rw [List.getElem?_map] at hj
    cases hl : l[j]? with
    | none => rw [hl] at hj; cases hj
    | some n =>
      rw [hl] at hj
      simp at hj
      obtain ⟨b, off, e, -, hcell⟩ := hc j n hl
      rw [had] at e
      cases e
      rw [adK, hcell, hj]
  · cases l with
    | nil => rfl
    | cons n l => obtain ⟨b, off, e, -⟩ := hc 0 n rfl; rw [hn] at e; cases e
theorem rdd_cells {w : World} {b off cp : Nat} {l : List OpD} (h : RdD w (.slice (some ⟨b, off, none⟩) l.length cp) l) : ∀ j u, (ocs l)[j]? = some u → w.cell? ((⟨b, off, none⟩ : Addr).add j) = some u := by
  intro j u hj
  have hj' : j < l.length * 3 := by have := (List.getElem?_eq_some_iff.1 hj).1; rwa [ocs_length] at this
  obtain ⟨ao, cp', e, _, hc⟩ := h
  obtain ⟨b', o', e1, _, c0, c1, c2⟩ := hc (j / 3) l[j / 3] (by simp [show j / 3 < l.length by omega])
  cases e
  cases e1
  obtain ⟨q0, q1, q2⟩ := ocs_at l (j / 3) l[j / 3] (by simp [show j / 3 < l.length by omega])
  rw [addr_add]
  rcases (show j = j / 3 * 3 ∨ j = j / 3 * 3 + 1 ∨ j = j / 3 * 3 + 2 by omega) with h | h | h
  · rw [h] at hj ⊢
    rw [c0, ← q0, hj]
  · rw [h] at hj ⊢
    rw [← Nat.add_assoc, c1, ← q1, hj]
  · rw [h] at hj ⊢
    rw [← Nat.add_assoc, c2, ← q2, hj]
theorem rdd_src {W : World} {ao : Option Addr} {cp : Nat} {l : List OpD} (h : RdD W (.slice ao l.length cp) l) : (∀ ad, ao = some ad → ∀ j u, (ocs l)[j]? = some u → W.cell? (ad.add j) = some u) ∧ (ao = none → l.length = 0) := by
  have h' := h
  obtain ⟨ao', cp', e, -, hc⟩ := h
  simp only [Value.slice.injEq] at e
  obtain ⟨rfl, -, rfl⟩ := e
  refine ⟨fun ad had j u hj => ?_, fun hn => ?_⟩
  · cases l with
    | nil => simp [ocs] at hj
    | cons o l =>
      obtain ⟨b, off, e, -⟩ := hc 0 o rfl
      rw [had] at e
      cases e
      subst had
      exact rdd_cells h' j u hj
  · cases l with
    | nil => rfl
    | cons n l => obtain ⟨b, off, e, -⟩ := hc 0 n rfl; rw [hn] at e; cases e
theorem rdcu_src {W : World} {ao : Option Addr} {cp : Nat} {l : List CuD} (h : RdCu W (.slice ao l.length cp) l) : (∀ ad, ao = some ad → ∀ j u, (ucs l)[j]? = some u → W.cell? (ad.add j) = some u) ∧ (ao = none → l.length = 0) := by
  obtain ⟨ao', cp', e, hc⟩ := h
  simp only [Value.slice.injEq] at e
  obtain ⟨rfl, -, rfl⟩ := e
  refine ⟨fun ad had j u hj => ?_, fun hn => ?_⟩
  · have hjl := (List.getElem?_eq_some_iff.1 hj).1
    rw [ucs_len] at hjl
    have hi : j / 3 < l.length := by omega
    obtain ⟨b, off, e, -, c0, c1, c2⟩ := hc (j / 3) l[j / 3] (by simp [hi])
    rw [had] at e
    cases e
    obtain ⟨q0, q1, q2⟩ := ucs_at l (j / 3) l[j / 3] (by simp [hi])
    rw [adK]
    have hm : j % 3 = 0 ∨ j % 3 = 1 ∨ j % 3 = 2 := by omega
    rcases hm with hm | hm | hm
    · have ej : j = j / 3 * 3 := by omega
      rw [ej, q0] at hj
      rw [← Option.some.inj hj, show off + j = off + j / 3 * 3 by omega]
      exact c0
    · have ej : j = j / 3 * 3 + 1 := by omega
      rw [ej, q1] at hj
      rw [← Option.some.inj hj, show off + j = off + j / 3 * 3 + 1 by omega]
      exact c1
    · have ej : j = j / 3 * 3 + 2 := by omega
      rw [ej, q2] at hj
      rw [← Option.some.inj hj, show off + j = off + j / 3 * 3 + 2 by omega]
      exact c2
  · cases l with
    | nil => rfl
    | cons n l => obtain ⟨b, off, e, -⟩ := hc 0 n rfl; rw [hn] at e; cases e
end Go.Proofs.Ythhdpabelcgfjaa
