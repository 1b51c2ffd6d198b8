/-
  copies.State: a copy of a state, in memory of its own.
-/
import Derived.Test.YthhdpabelcgfjaaStD
namespace Go.Proofs.Ythhdpabelcgfjaa
open Go.ChangeShapes Go.WideShapes Go.ChangeAt Go.RowKit Go.PlainAid

theorem gb_reflT (g : Nat) (w : World) : w.grownBy w (some g) := World.grownBy.refl _ _
theorem gb_transT {g : Nat} {a b c : World} (h : a.grownBy b (some g)) (k : b.grownBy c (some g)) : a.grownBy c (some g) :=
  ⟨k.os.trans h.os, k.tape.trans h.tape, k.output.trans h.output, Nat.le_trans h.size k.size, fun i hi hn => (k.block i (Nat.lt_of_lt_of_le hi h.size) hn).trans (h.block i hi hn)⟩
theorem ccs_len : ∀ (l : List CoD) (us : List (Value × Value × Value)), us.length = l.length → (ccs l us).length = l.length * 6
  | [], _, _ => by simp [ccs]
  | x :: l, u :: us, h => by
    have := ccs_len l us (by simpa using h)
    simp only [ccs, List.length_cons, this]
    omega
  | _ :: _, [], h => by simp at h
theorem bcs_len : ∀ (l : List BrD) (us : List Value), us.length = l.length → (bcs l us).length = l.length * 3
  | [], _, _ => by simp [bcs]
  | x :: l, u :: us, h => by
    have := bcs_len l us (by simpa using h)
    simp only [bcs, List.length_cons, this]
    omega
  | _ :: _, [], h => by simp at h
theorem ccs_set1 : ∀ (l : List CoD) (us : List (Value × Value × Value)) (k : Nat) (u : Value × Value × Value) (a : Value), us.length = l.length → k < l.length → (ccs l (us.set k u)).set (k * 6 + 1) a = ccs l (us.set k (a, u.2))
  | [], _, _, _, _, _, h => by simp at h
  | _ :: _, [], _, _, _, h, _ => by simp at h
  | x :: l, v :: us, 0, u, a, _, _ => by simp [ccs]
  | x :: l, v :: us, k + 1, u, a, h, hk => by
    have := ccs_set1 l us k u a (by simpa using h) (by simpa using hk)
    rw [show (k + 1) * 6 + 1 = k * 6 + 1 + 1 + 1 + 1 + 1 + 1 + 1 by omega]
    simpa [ccs] using this
theorem ccs_set2 : ∀ (l : List CoD) (us : List (Value × Value × Value)) (k : Nat) (u : Value × Value × Value) (a : Value), us.length = l.length → k < l.length → (ccs l (us.set k u)).set (k * 6 + 2) a = ccs l (us.set k (u.1, a, u.2.2))
  | [], _, _, _, _, _, h => by simp at h
  | _ :: _, [], _, _, _, h, _ => by simp at h
  | x :: l, v :: us, 0, u, a, _, _ => by simp [ccs]
  | x :: l, v :: us, k + 1, u, a, h, hk => by
    have := ccs_set2 l us k u a (by simpa using h) (by simpa using hk)
    rw [show (k + 1) * 6 + 2 = k * 6 + 2 + 1 + 1 + 1 + 1 + 1 + 1 by omega]
    simpa [ccs] using this
theorem ccs_set3 : ∀ (l : List CoD) (us : List (Value × Value × Value)) (k : Nat) (u : Value × Value × Value) (a : Value), us.length = l.length → k < l.length → (ccs l (us.set k u)).set (k * 6 + 3) a = ccs l (us.set k (u.1, u.2.1, a))
  | [], _, _, _, _, _, h => by simp at h
  | _ :: _, [], _, _, _, h, _ => by simp at h
  | x :: l, v :: us, 0, u, a, _, _ => by simp [ccs]
  | x :: l, v :: us, k + 1, u, a, h, hk => by
    have := ccs_set3 l us k u a (by simpa using h) (by simpa using hk)
    rw [show (k + 1) * 6 + 3 = k * 6 + 3 + 1 + 1 + 1 + 1 + 1 + 1 by omega]
    simpa [ccs] using this
theorem bcs_set2 : ∀ (l : List BrD) (us : List Value) (k : Nat) (a : Value), us.length = l.length → k < l.length → (bcs l us).set (k * 3 + 2) a = bcs l (us.set k a)
  | [], _, _, _, _, h => by simp at h
  | _ :: _, [], _, _, h, _ => by simp at h
  | x :: l, v :: us, 0, a, _, _ => by simp [bcs]
  | x :: l, v :: us, k + 1, a, h, hk => by
    have := bcs_set2 l us k a (by simpa using h) (by simpa using hk)
    rw [show (k + 1) * 3 + 2 = k * 3 + 2 + 1 + 1 + 1 by omega]
    simpa [bcs] using this
theorem ccs_one : ∀ (l : List CoD) (us : List (Value × Value × Value)), (∀ u ∈ us, u.1.oneCell' = true ∧ u.2.1.oneCell' = true ∧ u.2.2.oneCell' = true) → ∀ z ∈ ccs l us, z.oneCell' = true
  | [], _, _, z, h => by simp [ccs] at h
  | _ :: _, [], _, z, h => by simp [ccs] at h
  | x :: l, u :: us, hu, z, h => by
    have ih := ccs_one l us (fun y hy => hu y (List.mem_cons_of_mem _ hy)) z
    obtain ⟨h1, h2, h3⟩ := hu u (List.mem_cons_self ..)
    simp [ccs] at h
    rcases h with rfl | rfl | rfl | rfl | rfl | rfl | h
    · rfl
    · exact h1
    · exact h2
    · exact h3
    · rfl
    · rfl
    · exact ih h
theorem bcs_one : ∀ (l : List BrD) (us : List Value), (∀ u ∈ us, u.oneCell' = true) → ∀ z ∈ bcs l us, z.oneCell' = true
  | [], _, _, z, h => by simp [bcs] at h
  | _ :: _, [], _, z, h => by simp [bcs] at h
  | x :: l, u :: us, hu, z, h => by
    have ih := bcs_one l us (fun y hy => hu y (List.mem_cons_of_mem _ hy)) z
    have h1 := hu u (List.mem_cons_self ..)
    simp [bcs] at h
    rcases h with rfl | rfl | rfl | h
    · rfl
    · rfl
    · exact h1
    · exact ih h
/-- Cells that are told place by place. -/
theorem ccs_cells : ∀ (l : List CoD) (us : List (Value × Value × Value)) (F : Nat → Option Value), us.length = l.length → (∀ (i : Nat) (x : CoD) (u : Value × Value × Value), l[i]? = some x → us[i]? = some u → F (i * 6) = some (.int .i64 x.n) ∧ F (i * 6 + 1) = some u.1 ∧ F (i * 6 + 2) = some u.2.1 ∧ F (i * 6 + 3) = some u.2.2 ∧ F (i * 6 + 4) = some (.int .i64 x.c) ∧ F (i * 6 + 5) = some (.int .i64 x.s)) → ∀ j z, (ccs l us)[j]? = some z → F j = some z
  | [], _, _, _, _, j, z, h => by simp [ccs] at h
  | _ :: _, [], _, h, _, _, _, _ => by simp at h
  | x :: l, u :: us, F, hl, hF, j, z, h => by
    obtain ⟨f0, f1, f2, f3, f4, f5⟩ := hF 0 x u rfl rfl
    simp only [Nat.zero_mul, Nat.zero_add] at f0 f1 f2 f3 f4 f5
    match j with
    | 0 => simp [ccs] at h; rw [f0, h]
    | 1 => simp [ccs] at h; rw [f1, h]
    | 2 => simp [ccs] at h; rw [f2, h]
    | 3 => simp [ccs] at h; rw [f3, h]
    | 4 => simp [ccs] at h; rw [f4, h]
    | 5 => simp [ccs] at h; rw [f5, h]
    | j + 6 =>
      refine ccs_cells l us (fun i => F (i + 6)) (by simpa using hl) (fun i y v hy hv => ?_) j z (by simpa [ccs] using h)
      have := hF (i + 1) y v (by simpa using hy) (by simpa using hv)
      have e : ∀ k, (i + 1) * 6 + k = i * 6 + k + 6 := fun k => by omega
      rw [show (i + 1) * 6 = i * 6 + 6 by omega] at this
      have e2 : ∀ k, i * 6 + 6 + k = i * 6 + k + 6 := fun k => by omega
      simp only [e2] at this
      exact this
theorem bcs_cells : ∀ (l : List BrD) (us : List Value) (F : Nat → Option Value), us.length = l.length → (∀ (i : Nat) (x : BrD) (u : Value), l[i]? = some x → us[i]? = some u → F (i * 3) = some (.int .i64 x.i) ∧ F (i * 3 + 1) = some (.string x.nm) ∧ F (i * 3 + 2) = some u) → ∀ j z, (bcs l us)[j]? = some z → F j = some z
  | [], _, _, _, _, j, z, h => by simp [bcs] at h
  | _ :: _, [], _, h, _, _, _, _ => by simp at h
  | x :: l, u :: us, F, hl, hF, j, z, h => by
    obtain ⟨f0, f1, f2⟩ := hF 0 x u rfl rfl
    simp only [Nat.zero_mul, Nat.zero_add] at f0 f1 f2
    match j with
    | 0 => simp [bcs] at h; rw [f0, h]
    | 1 => simp [bcs] at h; rw [f1, h]
    | 2 => simp [bcs] at h; rw [f2, h]
    | j + 3 =>
      refine bcs_cells l us (fun i => F (i + 3)) (by simpa using hl) (fun i y v hy hv => ?_) j z (by simpa [bcs] using h)
      have := hF (i + 1) y v (by simpa using hy) (by simpa using hv)
      rw [show (i + 1) * 3 = i * 3 + 3 by omega] at this
      have e2 : ∀ k, i * 3 + 3 + k = i * 3 + k + 3 := fun k => by omega
      simp only [e2] at this
      exact this
/-- A list of values that are told place by place. -/
theorem pickL {α β : Type} {l : List α} {P : Nat → α → β → Prop} (h : ∀ (i : Nat) (a : α), l[i]? = some a → ∃ b, P i a b) : ∃ m : List β, m.length = l.length ∧ ∀ (i : Nat) (a : α) (b : β), l[i]? = some a → m[i]? = some b → P i a b := by
  induction l generalizing P with
  | nil => exact ⟨[], rfl, fun i a b h => by simp at h⟩
  | cons x l ih =>
    obtain ⟨b, hb⟩ := h 0 x rfl
    obtain ⟨m, hm, hP⟩ := ih (P := fun i a b => P (i + 1) a b) (fun i a hi => h (i + 1) a (by simpa using hi))
    refine ⟨b :: m, by simp [hm], fun i a c hi hc => ?_⟩
    match i with
    | 0 => simp at hi hc; subst hi; subst hc; exact hb
    | i + 1 => exact hP i a c (by simpa using hi) (by simpa using hc)
theorem setL_self {α : Type} {l : List α} {k : Nat} {u : α} (h : l[k]? = some u) : l.set k u = l := by
  apply List.ext_getElem?
  intro i
  by_cases e : k = i
  · subst e
    rw [List.getElem?_set_self (List.getElem?_eq_some_iff.1 h).1, h]
  · rw [List.getElem?_set_ne e]
theorem rdd_lenT {W : World} {v : Value} {l : List OpD} (h : RdD W v l) : ∃ a k, v = .slice a l.length k := by
  obtain ⟨a, k, e, -⟩ := h
  exact ⟨a, k, e⟩
theorem oneSl (a : Option Addr) (n k : Nat) : (Value.slice a n k).oneCell' = true := rfl
/-- Commits that lie somewhere: their cells, and what the cells tell. -/
theorem src_cos {W : World} {ao : Option Addr} {cp : Nat} {l : List CoD} (h : RdCo W (.slice ao l.length cp) l) : ∃ us : List (Value × Value × Value), us.length = l.length ∧ Src W ao l.length 6 (ccs l us) ∧ ∀ (i : Nat) (x : CoD) (u : Value × Value × Value), l[i]? = some x → us[i]? = some u → RdI W u.1 x.ps ∧ RdD W u.2.1 x.d ∧ RdD W u.2.2 x.o := by
  obtain ⟨ao', cp', e, hc⟩ := h
  simp only [Value.slice.injEq] at e
  obtain ⟨rfl, -, rfl⟩ := e
  obtain ⟨us, hl, hP⟩ := pickL (l := l) (β := Value × Value × Value) (P := fun i x u => ∃ b off, ao = some ⟨b, off, none⟩ ∧ (W.cell? ⟨b, off + i * 6, none⟩ = some (.int .i64 x.n) ∧ W.cell? ⟨b, off + i * 6 + 1, none⟩ = some u.1 ∧ W.cell? ⟨b, off + i * 6 + 2, none⟩ = some u.2.1 ∧ W.cell? ⟨b, off + i * 6 + 3, none⟩ = some u.2.2 ∧ W.cell? ⟨b, off + i * 6 + 4, none⟩ = some (.int .i64 x.c) ∧ W.cell? ⟨b, off + i * 6 + 5, none⟩ = some (.int .i64 x.s)) ∧ RdI W u.1 x.ps ∧ RdD W u.2.1 x.d ∧ RdD W u.2.2 x.o) (fun i a hi => by
    obtain ⟨b, off, u1, u2, u3, e, -, hcs, r1, r2, r3⟩ := hc i a hi
    exact ⟨(u1, u2, u3), b, off, e, hcs, r1, r2, r3⟩)
  refine ⟨us, hl, ⟨ccs_len l us hl, fun ad had => ?_, fun hn => ?_, ccs_one l us fun u hu => ?_⟩, fun i x u hi hu => by obtain ⟨b, off, -, -, h⟩ := hP i x u hi hu; exact h⟩
  · intro j u hj
    cases l with
    | nil => simp [ccs] at hj
    | cons x l =>
      obtain ⟨b, off, _, _, _, e, _⟩ := hc 0 x rfl
      rw [had] at e
      cases e
      rw [adK]
      refine ccs_cells (x :: l) us (fun j => W.cell? ⟨b, off + j, none⟩) hl (fun i y z hy hz => ?_) j u hj
      obtain ⟨b', off', e', hcs, -⟩ := hP i y z hy hz
      rw [had] at e'
      cases e'
      simpa only [Nat.add_assoc] using hcs
  · cases l with
    | nil => rfl
    | cons x l => obtain ⟨b, off, _, _, _, e, -⟩ := hc 0 x rfl; rw [hn] at e; cases e
  · obtain ⟨i, hi, rfl⟩ := List.mem_iff_getElem.1 hu
    obtain ⟨b, off, -, -, r1, r2, r3⟩ := hP i l[i] us[i] (by simp) (by simp)
    obtain ⟨_, _, e1, -⟩ := r1
    obtain ⟨_, _, e2, -⟩ := r2
    obtain ⟨_, _, e3, -⟩ := r3
    rw [e1, e2, e3]
    exact ⟨rfl, rfl, rfl⟩
theorem src_brs {W : World} {ao : Option Addr} {cp : Nat} {l : List BrD} (h : RdBr W (.slice ao l.length cp) l) : ∃ us : List Value, us.length = l.length ∧ Src W ao l.length 3 (bcs l us) ∧ ∀ (i : Nat) (x : BrD) (u : Value), l[i]? = some x → us[i]? = some u → RdI W u x.lg := by
  obtain ⟨ao', cp', e, hc⟩ := h
  simp only [Value.slice.injEq] at e
  obtain ⟨rfl, -, rfl⟩ := e
  obtain ⟨us, hl, hP⟩ := pickL (l := l) (β := Value) (P := fun i x u => ∃ b off, ao = some ⟨b, off, none⟩ ∧ (W.cell? ⟨b, off + i * 3, none⟩ = some (.int .i64 x.i) ∧ W.cell? ⟨b, off + i * 3 + 1, none⟩ = some (.string x.nm) ∧ W.cell? ⟨b, off + i * 3 + 2, none⟩ = some u) ∧ RdI W u x.lg) (fun i a hi => by
    obtain ⟨b, off, u1, e, -, hcs, r1⟩ := hc i a hi
    exact ⟨u1, b, off, e, hcs, r1⟩)
  refine ⟨us, hl, ⟨bcs_len l us hl, fun ad had => ?_, fun hn => ?_, bcs_one l us fun u hu => ?_⟩, fun i x u hi hu => by obtain ⟨b, off, -, -, h⟩ := hP i x u hi hu; exact h⟩
  · intro j u hj
    cases l with
    | nil => simp [bcs] at hj
    | cons x l =>
      obtain ⟨b, off, _, e, _⟩ := hc 0 x rfl
      rw [had] at e
      cases e
      rw [adK]
      refine bcs_cells (x :: l) us (fun j => W.cell? ⟨b, off + j, none⟩) hl (fun i y z hy hz => ?_) j u hj
      obtain ⟨b', off', e', hcs, -⟩ := hP i y z hy hz
      rw [had] at e'
      cases e'
      simpa only [Nat.add_assoc] using hcs
  · cases l with
    | nil => rfl
    | cons x l => obtain ⟨b, off, _, e, -⟩ := hc 0 x rfl; rw [hn] at e; cases e
  · obtain ⟨i, hi, rfl⟩ := List.mem_iff_getElem.1 hu
    obtain ⟨b, off, -, -, r1⟩ := hP i l[i] us[i] (by simp) (by simp)
    obtain ⟨_, _, e1, -⟩ := r1
    rw [e1]
    rfl
/-- Commits of which the first k are copied already. -/
structure OwCoK (w W : World) (B : Nat) (v : Value) (l : List CoD) (us : List (Value × Value × Value)) (k : Nat) : Prop where
  ul : us.length = l.length
  row : W.ownsRow B 40 6 v l.length (ccs l us)
  new : ∀ (i : Nat) (x : CoD) (u : Value × Value × Value), i < k → l[i]? = some x → us[i]? = some u → W.ownsRow B 3 1 u.1 x.ps.length (ivs x.ps) ∧ W.ownsRow B 67 3 u.2.1 x.d.length (ocs x.d) ∧ W.ownsRow B 67 3 u.2.2 x.o.length (ocs x.o)
  old : ∀ (i : Nat) (x : CoD) (u : Value × Value × Value), k ≤ i → l[i]? = some x → us[i]? = some u → RdI w u.1 x.ps ∧ RdD w u.2.1 x.d ∧ RdD w u.2.2 x.o
theorem OwCoK.own {w W : World} {B : Nat} {v : Value} {l : List CoD} {us : List (Value × Value × Value)} {k : Nat} (h : OwCoK w W B v l us k) (hk : l.length ≤ k) : OwCo W B v l us :=
  ⟨h.ul, h.row, fun i x u hi hu => h.new i x u (by have := (List.getElem?_eq_some_iff.1 hi).1; omega) hi hu⟩
structure OwBrK (w W : World) (B : Nat) (v : Value) (l : List BrD) (us : List Value) (k : Nat) : Prop where
  ul : us.length = l.length
  row : W.ownsRow B 47 3 v l.length (bcs l us)
  new : ∀ (i : Nat) (x : BrD) (u : Value), i < k → l[i]? = some x → us[i]? = some u → W.ownsRow B 3 1 u x.lg.length (ivs x.lg)
  old : ∀ (i : Nat) (x : BrD) (u : Value), k ≤ i → l[i]? = some x → us[i]? = some u → RdI w u x.lg
theorem OwBrK.own {w W : World} {B : Nat} {v : Value} {l : List BrD} {us : List Value} {k : Nat} (h : OwBrK w W B v l us k) (hk : l.length ≤ k) : OwBr W B v l us :=
  ⟨h.ul, h.row, fun i x u hi hu => h.new i x u (by have := (List.getElem?_eq_some_iff.1 hi).1; omega) hi hu⟩
/-- A commit's copy, on its way. -/
structure BxCo (w : World) (B g kC : Nat) (l : List CoD) (us : List (Value × Value × Value)) (k : Nat) (x : CoD) (p0 d0 o0 : Value) (L : Nat → Bool) (W : World) : Prop where
  bel : Below w.heap.size w W
  sz : B ≤ W.heap.size
  ul : us.length = l.length
  kl : k < l.length
  rows : ∃ a b c, W.ownsRow B 40 6 (.slice (some ⟨g, 0, none⟩) l.length kC) l.length (ccs l (us.set k (a, b, c))) ∧ (L 20 = false → a = p0) ∧ (L 20 = true → W.ownsRow B 3 1 a x.ps.length (ivs x.ps) ∧ a.ownBlock ≠ some g) ∧ (L 23 = false → b = d0) ∧ (L 23 = true → W.ownsRow B 67 3 b x.d.length (ocs x.d) ∧ b.ownBlock ≠ some g) ∧ (L 26 = false → c = o0) ∧ (L 26 = true → W.ownsRow B 67 3 c x.o.length (ocs x.o) ∧ c.ownBlock ≠ some g)
  cl : (L 20 = true ∨ L 23 = true ∨ L 26 = true) → L 6 = true ∧ L 11 = true ∧ L 16 = true
section
variable {w : World} {B g kC : Nat} {l : List CoD} {us : List (Value × Value × Value)} {k : Nat} {x : CoD} {p0 d0 o0 : Value} {L : Nat → Bool} {W W' : World} {i : Nat}
theorem BxCo.cells (h : BxCo w B g kC l us k x p0 d0 o0 L W) : ∃ a b c, (W.cell? ⟨g, k * 6 + 1, none⟩ = some a ∧ W.cell? ⟨g, k * 6 + 2, none⟩ = some b ∧ W.cell? ⟨g, k * 6 + 3, none⟩ = some c) ∧ (L 20 = false → a = p0) ∧ (L 23 = false → b = d0) ∧ (L 26 = false → c = o0) := by
  obtain ⟨a, b, c, hr, h1, -, h2, -, h3, -⟩ := h.rows
  obtain ⟨u, hu, -, q1, q2, q3, -⟩ := ccs_at l (us.set k (a, b, c)) k (l[k]'h.kl) (by simp [h.ul]) (by simp [h.kl])
  have hk : k < us.length := by rw [h.ul]; exact h.kl
  rw [List.getElem?_set_self hk] at hu
  cases hu
  have q := hr.cells (g := g) rfl
  have hadd : ∀ j, (⟨g, 0, none⟩ : Addr).add j = ⟨g, j, none⟩ := fun j => by rw [adK, Nat.zero_add]
  simp only [hadd] at q
  exact ⟨a, b, c, ⟨q _ _ q1, q _ _ q2, q _ _ q3⟩, h1, h2, h3⟩
theorem BxCo.no (h : BxCo w B g kC l us k x p0 d0 o0 L W) (hi : L 6 = false ∨ L 11 = false ∨ L 16 = false) : L 20 = false ∧ L 23 = false ∧ L 26 = false := by
  refine ⟨?_, ?_, ?_⟩
  · cases hs : L 20 with
    | false => rfl
    | true => obtain ⟨e1, e2, e3⟩ := h.cl (.inl hs); rw [e1, e2, e3] at hi; simp at hi
  · cases hs : L 23 with
    | false => rfl
    | true => obtain ⟨e1, e2, e3⟩ := h.cl (.inr (.inl hs)); rw [e1, e2, e3] at hi; simp at hi
  · cases hs : L 26 with
    | false => rfl
    | true => obtain ⟨e1, e2, e3⟩ := h.cl (.inr (.inr hs)); rw [e1, e2, e3] at hi; simp at hi
theorem BxCo.c1 (h : BxCo w B g kC l us k x p0 d0 o0 L W) (hi : L 6 = false) : W.cell? ⟨g, k * 6 + 1, none⟩ = some p0 := by
  obtain ⟨a, b, c, ⟨h1, -, -⟩, e, -, -⟩ := h.cells
  rw [h1, e (h.no (.inl hi)).1]
theorem BxCo.c2 (h : BxCo w B g kC l us k x p0 d0 o0 L W) (hi : L 11 = false) : W.cell? ⟨g, k * 6 + 2, none⟩ = some d0 := by
  obtain ⟨a, b, c, ⟨-, h1, -⟩, -, e, -⟩ := h.cells
  rw [h1, e (h.no (.inr (.inl hi))).2.1]
theorem BxCo.c3 (h : BxCo w B g kC l us k x p0 d0 o0 L W) (hi : L 16 = false) : W.cell? ⟨g, k * 6 + 3, none⟩ = some o0 := by
  obtain ⟨a, b, c, ⟨-, -, h1⟩, -, -, e⟩ := h.cells
  rw [h1, e (h.no (.inr (.inr hi))).2.2]
theorem BxCo.any1 (h : BxCo w B g kC l us k x p0 d0 o0 L W) : ∃ v, W.cell? ⟨g, k * 6 + 1, none⟩ = some v := by
  obtain ⟨a, b, c, ⟨h1, h2, h3⟩, -⟩ := h.cells; exact ⟨_, h1⟩
theorem BxCo.any2 (h : BxCo w B g kC l us k x p0 d0 o0 L W) : ∃ v, W.cell? ⟨g, k * 6 + 2, none⟩ = some v := by
  obtain ⟨a, b, c, ⟨h1, h2, h3⟩, -⟩ := h.cells; exact ⟨_, h2⟩
theorem BxCo.any3 (h : BxCo w B g kC l us k x p0 d0 o0 L W) : ∃ v, W.cell? ⟨g, k * 6 + 3, none⟩ = some v := by
  obtain ⟨a, b, c, ⟨h1, h2, h3⟩, -⟩ := h.cells; exact ⟨_, h3⟩
theorem BxCo.fz (h : BxCo w B g kC l us k x p0 d0 o0 L W) (j : Nat) : W.frozen? ⟨g, j, none⟩ = false := by
  obtain ⟨a, b, c, hr, -⟩ := h.rows
  exact hr.frozenAt j
theorem BxCo.glt (h : BxCo w B g kC l us k x p0 d0 o0 L W) : g < W.heap.size := by
  obtain ⟨a, b, c, hr, -⟩ := h.rows
  exact (hr.lt g rfl).2
theorem BxCo.step (h : BxCo w B g kC l us k x p0 d0 o0 L W) (h1 : 20 ≠ i) (h2 : 23 ≠ i) (h3 : 26 ≠ i) (hb : Below W.heap.size W W') : BxCo w B g kC l us k x p0 d0 o0 (fun j => if j = i then true else L j) W' := by
  obtain ⟨a, b, c, hr, a1, a2, b1, b2, c1, c2⟩ := h.rows
  refine ⟨h.bel.trans (hb.mono h.bel.size), Nat.le_trans h.sz hb.size, h.ul, h.kl, ⟨a, b, c, own_belowG hr hb, ?_, ?_, ?_, ?_, ?_, ?_⟩, ?_⟩
  · rw [if_neg h1]; exact a1
  · rw [if_neg h1]; exact fun e => ⟨own_belowG (a2 e).1 hb, (a2 e).2⟩
  · rw [if_neg h2]; exact b1
  · rw [if_neg h2]; exact fun e => ⟨own_belowG (b2 e).1 hb, (b2 e).2⟩
  · rw [if_neg h3]; exact c1
  · rw [if_neg h3]; exact fun e => ⟨own_belowG (c2 e).1 hb, (c2 e).2⟩
  · rw [if_neg h1, if_neg h2, if_neg h3]
    intro e
    obtain ⟨e1, e2, e3⟩ := h.cl e
    exact ⟨by split <;> first | rfl | exact e1, by split <;> first | rfl | exact e2, by split <;> first | rfl | exact e3⟩
theorem BxCo.sto1 {v : Value} (h : BxCo w B g kC l us k x p0 d0 o0 L W) (hgB : w.heap.size ≤ g) (e6 : L 6 = true) (e11 : L 11 = true) (e16 : L 16 = true) (ho : W.ownsRow B 3 1 v x.ps.length (ivs x.ps) ∧ v.ownBlock ≠ some g) : BxCo w B g kC l us k x p0 d0 o0 (fun j => if j = 20 then true else L j) (W.setCell ⟨g, k * 6 + 1, none⟩ v) := by
  obtain ⟨a, b, c, hr, a1, a2, b1, b2, c1, c2⟩ := h.rows
  have hg := grown_set W g (k * 6 + 1) v
  have hs := (hr.stored (k * 6 + 1) v).1
  rw [ccs_set1 l us k (a, b, c) v h.ul h.kl] at hs
  refine ⟨h.bel.setCell hgB _, Nat.le_trans h.sz hg.size, h.ul, h.kl, ⟨v, b, c, hs, fun e => by simp at e, fun _ => ⟨ho.1.kept hg (.inr ho.2), ho.2⟩, fun e => b1 (by simpa using e), fun e => ⟨(b2 (by simpa using e)).1.kept hg (.inr (b2 (by simpa using e)).2), (b2 (by simpa using e)).2⟩, fun e => c1 (by simpa using e), fun e => ⟨(c2 (by simpa using e)).1.kept hg (.inr (c2 (by simpa using e)).2), (c2 (by simpa using e)).2⟩⟩, fun _ => by simp [e6, e11, e16]⟩
theorem BxCo.sto2 {v : Value} (h : BxCo w B g kC l us k x p0 d0 o0 L W) (hgB : w.heap.size ≤ g) (e6 : L 6 = true) (e11 : L 11 = true) (e16 : L 16 = true) (ho : W.ownsRow B 67 3 v x.d.length (ocs x.d) ∧ v.ownBlock ≠ some g) : BxCo w B g kC l us k x p0 d0 o0 (fun j => if j = 23 then true else L j) (W.setCell ⟨g, k * 6 + 2, none⟩ v) := by
  obtain ⟨a, b, c, hr, a1, a2, b1, b2, c1, c2⟩ := h.rows
  have hg := grown_set W g (k * 6 + 2) v
  have hs := (hr.stored (k * 6 + 2) v).1
  rw [ccs_set2 l us k (a, b, c) v h.ul h.kl] at hs
  refine ⟨h.bel.setCell hgB _, Nat.le_trans h.sz hg.size, h.ul, h.kl, ⟨a, v, c, hs, fun e => a1 (by simpa using e), fun e => ⟨(a2 (by simpa using e)).1.kept hg (.inr (a2 (by simpa using e)).2), (a2 (by simpa using e)).2⟩, fun e => by simp at e, fun _ => ⟨ho.1.kept hg (.inr ho.2), ho.2⟩, fun e => c1 (by simpa using e), fun e => ⟨(c2 (by simpa using e)).1.kept hg (.inr (c2 (by simpa using e)).2), (c2 (by simpa using e)).2⟩⟩, fun _ => by simp [e6, e11, e16]⟩
theorem BxCo.sto3 {v : Value} (h : BxCo w B g kC l us k x p0 d0 o0 L W) (hgB : w.heap.size ≤ g) (e6 : L 6 = true) (e11 : L 11 = true) (e16 : L 16 = true) (ho : W.ownsRow B 67 3 v x.o.length (ocs x.o) ∧ v.ownBlock ≠ some g) : BxCo w B g kC l us k x p0 d0 o0 (fun j => if j = 26 then true else L j) (W.setCell ⟨g, k * 6 + 3, none⟩ v) := by
  obtain ⟨a, b, c, hr, a1, a2, b1, b2, c1, c2⟩ := h.rows
  have hg := grown_set W g (k * 6 + 3) v
  have hs := (hr.stored (k * 6 + 3) v).1
  rw [ccs_set3 l us k (a, b, c) v h.ul h.kl] at hs
  refine ⟨h.bel.setCell hgB _, Nat.le_trans h.sz hg.size, h.ul, h.kl, ⟨a, b, v, hs, fun e => a1 (by simpa using e), fun e => ⟨(a2 (by simpa using e)).1.kept hg (.inr (a2 (by simpa using e)).2), (a2 (by simpa using e)).2⟩, fun e => b1 (by simpa using e), fun e => ⟨(b2 (by simpa using e)).1.kept hg (.inr (b2 (by simpa using e)).2), (b2 (by simpa using e)).2⟩, fun e => by simp at e, fun _ => ⟨ho.1.kept hg (.inr ho.2), ho.2⟩⟩, fun _ => by simp [e6, e11, e16]⟩
end
/-- copies.State on its way, its first loop. -/
structure Lc (w : World) (nc nb : Int) (cs : List CoD) (bs : List BrD) (us : List CuD) (vC vB vU : Value) (uu : List (Value × Value × Value)) (k : Nat) (W : World) : Prop where
  p : SB W w.heap.size ⟨nc, nb, cs, bs, us⟩ vC vB vU
  r : SB W (w.heap.size + 1) ⟨0, 0, [], [], []⟩ (.slice none 0 0) (.slice none 0 0) (.slice none 0 0)
  c : OwCoK w W (w.heap.size + 1 + 1) vC cs uu k
  b : Below w.heap.size w W
def phCa (x : CoD) (B g q : Nat) (ap : Option Addr) (kp : Nat) (ad : Option Addr) (kd : Nat) (ae : Option Addr) (ke : Nat) : Nat → Value → World → Prop
  | 0, v, _ => v = (.pointer (some ⟨g, q, none⟩))
  | 1, v, _ => v = (.pointer (some ⟨g, q, none⟩))
  | 2, v, _ => v = (.pointer (some ⟨g, q, none⟩))
  | 3, v, _ => v = (.pointer (some ⟨g, q, none⟩))
  | 4, v, _ => v = (.pointer (some ⟨g, q, none⟩))
  | 5, v, _ => v = (.pointer (some ⟨g, (q + 1), none⟩))
  | 6, v, _ => v = (.slice ap x.ps.length kp)
  | 7, v, W => ∃ a k, v = .slice a x.ps.length k ∧ W.ownsRow B 3 1 (.slice a x.ps.length k) x.ps.length (ivs x.ps) ∧ (Value.slice a x.ps.length k).ownBlock ≠ some g
  | 8, v, _ => v = (.pointer (some ⟨g, q, none⟩))
  | 9, v, _ => v = (.pointer (some ⟨g, q, none⟩))
  | 10, v, _ => v = (.pointer (some ⟨g, (q + 2), none⟩))
  | 11, v, _ => v = (.slice ad x.d.length kd)
  | 12, v, W => ∃ a k, v = .slice a x.d.length k ∧ W.ownsRow B 67 3 (.slice a x.d.length k) x.d.length (ocs x.d) ∧ (Value.slice a x.d.length k).ownBlock ≠ some g
  | 13, v, _ => v = (.pointer (some ⟨g, q, none⟩))
  | 14, v, _ => v = (.pointer (some ⟨g, q, none⟩))
  | 15, v, _ => v = (.pointer (some ⟨g, (q + 3), none⟩))
  | 16, v, _ => v = (.slice ae x.o.length ke)
  | 17, v, W => ∃ a k, v = .slice a x.o.length k ∧ W.ownsRow B 67 3 (.slice a x.o.length k) x.o.length (ocs x.o) ∧ (Value.slice a x.o.length k).ownBlock ≠ some g
  | 18, v, _ => v = (.pointer (some ⟨g, q, none⟩))
  | 19, v, _ => v = (.pointer (some ⟨g, (q + 1), none⟩))
  | 20, _, _ => True
  | 21, v, _ => v = (.pointer (some ⟨g, q, none⟩))
  | 22, v, _ => v = (.pointer (some ⟨g, (q + 2), none⟩))
  | 23, _, _ => True
  | 24, v, _ => v = (.pointer (some ⟨g, q, none⟩))
  | 25, v, _ => v = (.pointer (some ⟨g, (q + 3), none⟩))
  | 26, _, _ => True
  | _, _, _ => True
theorem phCa_stays {x : CoD} {B g q : Nat} {ap : Option Addr} {kp : Nat} {ad : Option Addr} {kd : Nat} {ae : Option Addr} {ke : Nat} (i : Nat) (v : Value) (w w' : World) (h : phCa x B g q ap kp ad kd ae ke i v w) (hg : w.grownBy w' (some g)) : phCa x B g q ap kp ad kd ae ke i v w' := by
  unfold phCa at h ⊢
  split at h
  all_goals first
    | exact h
    | (obtain ⟨a, k, e, ho, hn⟩ := h; exact ⟨a, k, e, ho.kept hg (.inr hn), hn⟩)
    | trivial

/-- copies.State on its way, its second loop. -/
structure Lb (w : World) (nc nb : Int) (cs : List CoD) (bs : List BrD) (us : List CuD) (vC vB vU : Value) (cu : List (Value × Value × Value)) (uu : List Value) (k : Nat) (W : World) : Prop where
  p : SB W w.heap.size ⟨nc, nb, cs, bs, us⟩ vC vB vU
  r : SB W (w.heap.size + 1) ⟨0, 0, [], [], []⟩ (.slice none 0 0) (.slice none 0 0) (.slice none 0 0)
  c : OwCo W (w.heap.size + 1 + 1) vC cs cu
  br : OwBrK w W (w.heap.size + 1 + 1) vB bs uu k
  b : Below w.heap.size w W
/-- A branch's copy, on its way. -/
structure BxBr (w : World) (B g kB : Nat) (l : List BrD) (us : List Value) (k : Nat) (x : BrD) (l0 : Value) (L : Nat → Bool) (W : World) : Prop where
  bel : Below w.heap.size w W
  sz : B ≤ W.heap.size
  ul : us.length = l.length
  xk : l[k]? = some x
  rows : ∃ a, W.ownsRow B 47 3 (.slice (some ⟨g, 0, none⟩) l.length kB) l.length (bcs l (us.set k a)) ∧ (L 17 = false → a = l0) ∧ (L 17 = true → W.ownsRow B 3 1 a x.lg.length (ivs x.lg) ∧ a.ownBlock ≠ some g)
  cl : L 17 = true → L 10 = true
section
variable {w : World} {B g kB : Nat} {l : List BrD} {us : List Value} {k : Nat} {x : BrD} {l0 : Value} {L : Nat → Bool} {W W' : World} {i : Nat}
theorem BxBr.kl (h : BxBr w B g kB l us k x l0 L W) : k < l.length := (List.getElem?_eq_some_iff.1 h.xk).1
theorem BxBr.cells (h : BxBr w B g kB l us k x l0 L W) : ∃ a, (W.cell? ⟨g, k * 3 + 1, none⟩ = some (.string x.nm) ∧ W.cell? ⟨g, k * 3 + 2, none⟩ = some a) ∧ (L 17 = false → a = l0) := by
  obtain ⟨a, hr, h1, -⟩ := h.rows
  obtain ⟨u, hu, -, q1, q2⟩ := bcs_at l (us.set k a) k x (by simp [h.ul]) h.xk
  have hk : k < us.length := by rw [h.ul]; exact h.kl
  rw [List.getElem?_set_self hk] at hu
  cases hu
  have q := hr.cells (g := g) rfl
  have hadd : ∀ j, (⟨g, 0, none⟩ : Addr).add j = ⟨g, j, none⟩ := fun j => by rw [adK, Nat.zero_add]
  simp only [hadd] at q
  exact ⟨a, ⟨q _ _ q1, q _ _ q2⟩, h1⟩
theorem BxBr.c1 (h : BxBr w B g kB l us k x l0 L W) : W.cell? ⟨g, k * 3 + 1, none⟩ = some (.string x.nm) := by
  obtain ⟨a, ⟨h1, -⟩, -⟩ := h.cells; exact h1
theorem BxBr.any2 (h : BxBr w B g kB l us k x l0 L W) : ∃ v, W.cell? ⟨g, k * 3 + 2, none⟩ = some v := by
  obtain ⟨a, ⟨-, h1⟩, -⟩ := h.cells; exact ⟨_, h1⟩
theorem BxBr.c2 (h : BxBr w B g kB l us k x l0 L W) (hi : L 10 = false) : W.cell? ⟨g, k * 3 + 2, none⟩ = some l0 := by
  obtain ⟨a, ⟨-, h1⟩, e⟩ := h.cells
  have : L 17 = false := by
    cases hs : L 17 with
    | false => rfl
    | true => rw [h.cl hs] at hi; cases hi
  rw [h1, e this]
theorem BxBr.fz (h : BxBr w B g kB l us k x l0 L W) (j : Nat) : W.frozen? ⟨g, j, none⟩ = false := by
  obtain ⟨a, hr, -⟩ := h.rows
  exact hr.frozenAt j
theorem BxBr.glt (h : BxBr w B g kB l us k x l0 L W) : g < W.heap.size := by
  obtain ⟨a, hr, -⟩ := h.rows
  exact (hr.lt g rfl).2
theorem BxBr.step (h : BxBr w B g kB l us k x l0 L W) (h1 : 17 ≠ i) (hb : Below W.heap.size W W') : BxBr w B g kB l us k x l0 (fun j => if j = i then true else L j) W' := by
  obtain ⟨a, hr, a1, a2⟩ := h.rows
  refine ⟨h.bel.trans (hb.mono h.bel.size), Nat.le_trans h.sz hb.size, h.ul, h.xk, ⟨a, own_belowG hr hb, ?_, ?_⟩, ?_⟩
  · rw [if_neg h1]; exact a1
  · rw [if_neg h1]; exact fun e => ⟨own_belowG (a2 e).1 hb, (a2 e).2⟩
  · rw [if_neg h1]
    intro e
    have e1 := h.cl e
    split <;> first | rfl | exact e1
theorem BxBr.sto {v : Value} (h : BxBr w B g kB l us k x l0 L W) (hgB : w.heap.size ≤ g) (e10 : L 10 = true) (ho : W.ownsRow B 3 1 v x.lg.length (ivs x.lg) ∧ v.ownBlock ≠ some g) : BxBr w B g kB l us k x l0 (fun j => if j = 17 then true else L j) (W.setCell ⟨g, k * 3 + 2, none⟩ v) := by
  obtain ⟨a, hr, a1, a2⟩ := h.rows
  have hg := grown_set W g (k * 3 + 2) v
  have hs := (hr.stored (k * 3 + 2) v).1
  rw [bcs_set2 l (us.set k a) k v (by simp [h.ul]) h.kl, List.set_set] at hs
  exact ⟨h.bel.setCell hgB _, Nat.le_trans h.sz hg.size, h.ul, h.xk, ⟨v, hs, fun e => by simp at e, fun _ => ⟨ho.1.kept hg (.inr ho.2), ho.2⟩⟩, fun _ => by simp [e10]⟩
end
def phCb (x : BrD) (B g q : Nat) (ap : Option Addr) (kp : Nat) : Nat → Value → World → Prop
  | 0, v, _ => v = (.pointer (some ⟨g, q, none⟩))
  | 1, v, _ => v = (.pointer (some ⟨g, q, none⟩))
  | 2, v, _ => v = (.pointer (some ⟨g, q, none⟩))
  | 3, v, _ => v = (.pointer (some ⟨g, q, none⟩))
  | 4, v, _ => v = (.pointer (some ⟨g, (q + 1), none⟩))
  | 5, v, _ => v = (.string x.nm)
  | 6, v, _ => v = (.string x.nm)
  | 7, v, _ => v = (.pointer (some ⟨g, q, none⟩))
  | 8, v, _ => v = (.pointer (some ⟨g, q, none⟩))
  | 9, v, _ => v = (.pointer (some ⟨g, (q + 2), none⟩))
  | 10, v, _ => v = (.slice ap x.lg.length kp)
  | 11, v, W => ∃ a k, v = .slice a x.lg.length k ∧ W.ownsRow B 3 1 (.slice a x.lg.length k) x.lg.length (ivs x.lg) ∧ (Value.slice a x.lg.length k).ownBlock ≠ some g
  | 12, v, _ => v = (.pointer (some ⟨g, q, none⟩))
  | 13, v, _ => v = (.pointer (some ⟨g, (q + 1), none⟩))
  | 14, _, _ => True
  | 15, v, _ => v = (.pointer (some ⟨g, q, none⟩))
  | 16, v, _ => v = (.pointer (some ⟨g, (q + 2), none⟩))
  | 17, _, _ => True
  | _, _, _ => True
theorem phCb_stays {x : BrD} {B g q : Nat} {ap : Option Addr} {kp : Nat} (i : Nat) (v : Value) (w w' : World) (h : phCb x B g q ap kp i v w) (hg : w.grownBy w' (some g)) : phCb x B g q ap kp i v w' := by
  unfold phCb at h ⊢
  split at h
  all_goals first
    | exact h
    | (obtain ⟨a, k, e, ho, hn⟩ := h; exact ⟨a, k, e, ho.kept hg (.inr hn), hn⟩)
    | trivial

set_option maxRecDepth 20000 in
set_option maxHeartbeats 4000000 in
theorem copyState_any {up : Bool} (S : StD) (v1 v2 v3 : Value) (w : World) (hr : RdSt w v1 v2 v3 S) (hU : StU up S) :
    Calls Try.prog 21 #[.agg (S.fs v1 v2 v3)] w fun e w' => ∃ u1 u2 u3, e = .returned (.agg (S.fs u1 u2 u3)) ∧ (∃ us ls, OwSt w' w.heap.size u1 u2 u3 S us ls) ∧ Below w.heap.size w w' := by
  obtain ⟨a1, k1, e1, -⟩ := id hr.c
  subst e1
  obtain ⟨a2, k2, e2, -⟩ := id hr.b
  subst e2
  obtain ⟨a3, k3, e3, -⟩ := id hr.u
  subst e3
  obtain ⟨us0, hul, hsC, hoC⟩ := src_cos hr.c
  obtain ⟨ls0, hll, hsB, hoB⟩ := src_brs hr.b
  have hsU := src_cus hr.u
  have lc := hU.cl.1
  have lb := hU.bl.1
  have lu := hU.ul.1
  have hco := hU.co
  have hbr := hU.br
  have hp0 := sb_new w S (.slice a1 S.cs.length k1) (.slice a2 S.bs.length k2) (.slice a3 S.us.length k3)
  have hb0 := alloc_bR w (.cells (S.fs (.slice a1 S.cs.length k1) (.slice a2 S.bs.length k2) (.slice a3 S.us.length k3)) 26)
  have hr1 := sb_new (w.alloc (.cells (S.fs (.slice a1 S.cs.length k1) (.slice a2 S.bs.length k2) (.slice a3 S.us.length k3)) 26)) zeroS (.slice none 0 0) (.slice none 0 0) (.slice none 0 0)
  have hb1 := alloc_bR (w.alloc (.cells (S.fs (.slice a1 S.cs.length k1) (.slice a2 S.bs.length k2) (.slice a3 S.us.length k3)) 26)) (.cells (zeroS.fs (.slice none 0 0) (.slice none 0 0) (.slice none 0 0)) 26)
  have hp1 := hp0.below hb1
  have hbb := hb0.trans (hb1.mono (by simp))
  clear hr hU hp0 hb0 hb1
  obtain ⟨nc, nb, cs, bs, us⟩ := S
  have cC := fun W (h : Below w.heap.size w W) => cloneCo_any a1 cs.length k1 (ccs cs us0) W (hsC.below h) lc
  have cB := fun W (h : Below w.heap.size w W) => cloneBr_any a2 bs.length k2 (bcs bs ls0) W (hsB.below h) lb
  have cU := fun W (h : Below w.heap.size w W) => cloneCu_any a3 us.length k3 (ucs us) W (hsU.below h) lu
  clear hsC hsB hsU
  simp only [StD.fs, zeroS] at *
  have hsz1 : ((w.alloc (.cells #[.int .i64 nc, .int .i64 nb, .slice a1 cs.length k1, .slice a2 bs.length k2, .slice a3 us.length k3] 26)).alloc (.cells #[.int .i64 0, .int .i64 0, .slice none 0 0, .slice none 0 0, .slice none 0 0] 26)).heap.size = w.heap.size + 1 + 1 := by simp
  have cC1 := cC _ hbb
  rw [hsz1] at cC1
  obtain ⟨x0, x1, x2, x3, x4⟩ := cellsSB hp1
  rw [World.size_alloc] at hr1
  go_enter Try.func21, Try.ntmps21
  go_wp2_with fail
  generalize ((w.alloc (.cells #[.int .i64 nc, .int .i64 nb, .slice a1 cs.length k1, .slice a2 bs.length k2, .slice a3 us.length k3] 26)).alloc (.cells #[.int .i64 0, .int .i64 0, .slice none 0 0, .slice none 0 0, .slice none 0 0] 26)) = w1 at *
  refine cC1.mono ?_
  rintro e w2 ⟨u, rfl, ho2, hb2⟩
  obtain ⟨aC, kC, rfl⟩ := own_form ho2
  have hb2' : Below w1.heap.size w1 w2 := by rw [hsz1]; exact hb2
  have hp2 := hp1.below hb2'
  have hr2 := hr1.below hb2'
  have hbb2 := hbb.trans (hb2'.mono (by omega))
  have hz2 : w.heap.size + 1 + 1 ≤ w2.heap.size := by have := hb2'.size; omega
  clear x0 x1 x2 x3 x4 cC1 cC hp1 hr1 hb2 hbb
  obtain ⟨x0, x1, x2, x3, x4⟩ := cellsSB hp2
  obtain ⟨f0, f1, f2, f3, f4⟩ := frzS hp2
  go_upto_region 2 with fail
  have hp3 := heap_setCell hp2 2 (.slice aC cs.length kC)
  have hr3 := (Below.heap_setCell w2 ⟨w.heap.size, 2, none⟩ (.slice aC cs.length kC) (w.heap.size + 1) (by simp)).trans hr2
  have ho3 := rk_set (x := .slice aC cs.length kC) (j := 2) hp2 _ _ _ _ _ _ (by decide) ho2
  have hbb3 := hbb2.setCell (p := ⟨w.heap.size, 2, none⟩) (Nat.le_refl _) (.slice aC cs.length kC)
  have hL0 : Lc w nc nb cs bs us (.slice aC cs.length kC) (.slice a2 bs.length k2) (.slice a3 us.length k3) us0 0 (w2.setCell ⟨w.heap.size, 2, none⟩ (.slice aC cs.length kC)) :=
    ⟨hp3, hr3, ⟨hul, ho3, fun i x u hi => by omega, fun i x u _ hi hu => hoC i x u hi hu⟩, hbb3⟩
  clear hp3 hr3 ho3 hbb3 hp2 hr2 hb2' hbb2 hz2 x0 x1 x2 x3 x4 f0 f1 f2 f3 f4 ho2 hsz1
  generalize w2.setCell ⟨w.heap.size, 2, none⟩ (.slice aC cs.length kC) = w3 at *
  obtain ⟨x0, x1, x2, x3, x4⟩ := cellsSB hL0.p
  go_upto_region 3 with fail
  clear x0 x1 x2 x3 x4
  go_loopw [14] (fun i wr => ∃ (k : Nat) (uu : List (Value × Value × Value)), k ≤ cs.length ∧ i = .int .i64 (k : Int) ∧ Lc w nc nb cs bs us (.slice aC cs.length kC) (.slice a2 bs.length k2) (.slice a3 us.length k3) uu k wr) (fun i _ => cs.length - (Go.RowKit.intOf i).toNat)
  case atStart => exact ⟨0, us0, by omega, rfl, hL0⟩
  case round =>
    clear hL0
    obtain ⟨k, uu, hk, rfl, hL⟩ := hrel
    obtain ⟨x0, x1, x2, x3, x4⟩ := cellsSB hL.p
    by_cases hlt : k < cs.length
    · have hlt' : (k : Int) < (cs.length : Int) := by omega
      obtain ⟨g, rfl, hgB, hgl, hgf⟩ := own_block hL.c.row (by omega)
      have hcK := hL.c
      obtain ⟨u0, hu⟩ : ∃ u, uu[k]? = some u := ⟨uu[k]'(by rw [hcK.ul]; exact hlt), by simp⟩
      have hxk : cs[k]? = some cs[k] := by simp [hlt]
      have hxu := hco cs[k] (List.getElem_mem hlt)
      generalize cs[k] = x at *
      obtain ⟨hp, hd, ho⟩ := hcK.old k x u0 (Nat.le_refl _) hxk hu
      obtain ⟨p0, d0, o0⟩ := u0
      simp only at hp hd ho
      have hpl := hxu.2.2.2.1.1
      have hdl := hxu.2.1.1
      have hdi := hxu.2.1.2.1
      have hol := hxu.2.2.1.1
      have hoi := hxu.2.2.1.2.1
      obtain ⟨ap, kp, rfl⟩ := rdi_len hp
      obtain ⟨ad, kd, rfl⟩ := rdd_lenT hd
      obtain ⟨ae, ke, rfl⟩ := rdd_lenT ho
      have hBx : BxCo w (w.heap.size + 1 + 1) g kC cs uu k x (.slice ap x.ps.length kp) (.slice ad x.d.length kd) (.slice ae x.o.length ke) (fun _ => false) wr.drew :=
        ⟨Below.drew hL.b, by show _ ≤ wr.heap.size; omega, hcK.ul, hlt, ⟨_, _, _, by rw [setL_self hu]; exact hcK.row, fun _ => rfl, fun e => (by cases e), fun _ => rfl, fun e => (by cases e), fun _ => rfl, fun e => (by cases e)⟩, fun e => by simp at e⟩
      have hgB' : w.heap.size ≤ g := by omega
      go_upto_region 6 with fail
      clear x0 x1 x2 x3 x4
      refine mono.region_monoS (fun W W' => World.grownBy W W' (some g)) (gb_reflT g) (fun _ _ _ => gb_transT) (phCa x (w.heap.size + 1 + 1) g (k * 6) ap kp ad kd ae ke) (BxCo w (w.heap.size + 1 + 1) g kC cs uu k x (.slice ap x.ps.length kp) (.slice ad x.d.length kd) (.slice ae x.o.length ke) ) 82 [] [0, 1, 2, 3, 4, 5, 6, 7, 8, 9, 10, 11, 12, 13, 14, 15, 16, 17, 18, 19, 20, 21, 22, 23, 24, 25, 26] (by kernel_rfl) rfl rfl (by kernel_rfl) [] (by kernel_rfl) (by simp) (phCa_stays) (hBx) (.cons ?_ (.cons ?_ (.cons ?_ (.cons ?_ (.cons ?_ (.cons ?_ (.cons ?_ (.cons ?_ (.cons ?_ (.cons ?_ (.cons ?_ (.cons ?_ (.cons ?_ (.cons ?_ (.cons ?_ (.cons ?_ (.cons ?_ (.cons ?_ (.cons ?_ (.cons ?_ (.cons ?_ (.cons ?_ (.cons ?_ (.cons ?_ (.cons ?_ (.cons ?_ (.cons ?_ (.nil)))))))))))))))))))))))))))) ?_
      · refine mono.dutyS_of rfl ?_
        intro f W L hR hO hD hL hi hX K hK
        have eL : mono.lit 82 f [] = ⟨#[f 0, f 1, f 2, f 3, f 4, f 5, f 6, f 7, f 8, f 9, f 10, f 11, f 12, f 13, f 14, f 15, f 16, f 17, f 18, f 19, f 20, f 21, f 22, f 23, f 24, f 25, f 26, f 27, f 28, f 29, f 30, f 31, f 32, f 33, f 34, f 35, f 36, f 37, f 38, f 39, f 40, f 41, f 42, f 43, f 44, f 45, f 46, f 47, f 48, f 49, f 50, f 51, f 52, f 53, f 54, f 55, f 56, f 57, f 58, f 59, f 60, f 61, f 62, f 63, f 64, f 65, f 66, f 67, f 68, f 69, f 70, f 71, f 72, f 73, f 74, f 75, f 76, f 77, f 78, f 79, f 80, f 81], []⟩ := rfl
        replace hK : ∀ v W', (fun W W' => World.grownBy W W' (some g)) W W' → phCa x (w.heap.size + 1 + 1) g (k * 6) ap kp ad kd ae ke 0 v W' → BxCo w (w.heap.size + 1 + 1) g kC cs uu k x (.slice ap x.ps.length kp) (.slice ad x.d.length kd) (.slice ae x.o.length ke)  (fun j => if j = 0 then true else L j) W' → K ((mono.lit 82 f []).put (some 21) v) W' := hK
        rw [eL] at hK ⊢
        simp only [Act.put, List.setIfInBounds_toArray, List.set_cons_succ, List.set_cons_zero] at hK
        have o4 : f 4 = (.pointer (some ⟨g, k * 6, none⟩)) := hO 4 (by kernel_rfl)
        rw [o4] at hK ⊢
        go_simp
        exact hK _ _ (gb_reflT _ _) rfl (hX.step (by decide) (by decide) (by decide) (Below.refl _ _))
      · refine mono.dutyS_of rfl ?_
        intro f W L hR hO hD hL hi hX K hK
        have eL : mono.lit 82 f [] = ⟨#[f 0, f 1, f 2, f 3, f 4, f 5, f 6, f 7, f 8, f 9, f 10, f 11, f 12, f 13, f 14, f 15, f 16, f 17, f 18, f 19, f 20, f 21, f 22, f 23, f 24, f 25, f 26, f 27, f 28, f 29, f 30, f 31, f 32, f 33, f 34, f 35, f 36, f 37, f 38, f 39, f 40, f 41, f 42, f 43, f 44, f 45, f 46, f 47, f 48, f 49, f 50, f 51, f 52, f 53, f 54, f 55, f 56, f 57, f 58, f 59, f 60, f 61, f 62, f 63, f 64, f 65, f 66, f 67, f 68, f 69, f 70, f 71, f 72, f 73, f 74, f 75, f 76, f 77, f 78, f 79, f 80, f 81], []⟩ := rfl
        replace hK : ∀ v W', (fun W W' => World.grownBy W W' (some g)) W W' → phCa x (w.heap.size + 1 + 1) g (k * 6) ap kp ad kd ae ke 1 v W' → BxCo w (w.heap.size + 1 + 1) g kC cs uu k x (.slice ap x.ps.length kp) (.slice ad x.d.length kd) (.slice ae x.o.length ke)  (fun j => if j = 1 then true else L j) W' → K ((mono.lit 82 f []).put (some 22) v) W' := hK
        rw [eL] at hK ⊢
        simp only [Act.put, List.setIfInBounds_toArray, List.set_cons_succ, List.set_cons_zero] at hK
        have o4 : f 4 = (.pointer (some ⟨g, k * 6, none⟩)) := hO 4 (by kernel_rfl)
        rw [o4] at hK ⊢
        go_simp
        exact hK _ _ (gb_reflT _ _) rfl (hX.step (by decide) (by decide) (by decide) (Below.refl _ _))
      · refine mono.dutyS_of rfl ?_
        intro f W L hR hO hD hL hi hX K hK
        have eL : mono.lit 82 f [] = ⟨#[f 0, f 1, f 2, f 3, f 4, f 5, f 6, f 7, f 8, f 9, f 10, f 11, f 12, f 13, f 14, f 15, f 16, f 17, f 18, f 19, f 20, f 21, f 22, f 23, f 24, f 25, f 26, f 27, f 28, f 29, f 30, f 31, f 32, f 33, f 34, f 35, f 36, f 37, f 38, f 39, f 40, f 41, f 42, f 43, f 44, f 45, f 46, f 47, f 48, f 49, f 50, f 51, f 52, f 53, f 54, f 55, f 56, f 57, f 58, f 59, f 60, f 61, f 62, f 63, f 64, f 65, f 66, f 67, f 68, f 69, f 70, f 71, f 72, f 73, f 74, f 75, f 76, f 77, f 78, f 79, f 80, f 81], []⟩ := rfl
        replace hK : ∀ v W', (fun W W' => World.grownBy W W' (some g)) W W' → phCa x (w.heap.size + 1 + 1) g (k * 6) ap kp ad kd ae ke 2 v W' → BxCo w (w.heap.size + 1 + 1) g kC cs uu k x (.slice ap x.ps.length kp) (.slice ad x.d.length kd) (.slice ae x.o.length ke)  (fun j => if j = 2 then true else L j) W' → K ((mono.lit 82 f []).put (some 23) v) W' := hK
        rw [eL] at hK ⊢
        simp only [Act.put, List.setIfInBounds_toArray, List.set_cons_succ, List.set_cons_zero] at hK
        have o4 : f 4 = (.pointer (some ⟨g, k * 6, none⟩)) := hO 4 (by kernel_rfl)
        rw [o4] at hK ⊢
        go_simp
        exact hK _ _ (gb_reflT _ _) rfl (hX.step (by decide) (by decide) (by decide) (Below.refl _ _))
      · refine mono.dutyS_of rfl ?_
        intro f W L hR hO hD hL hi hX K hK
        have eL : mono.lit 82 f [] = ⟨#[f 0, f 1, f 2, f 3, f 4, f 5, f 6, f 7, f 8, f 9, f 10, f 11, f 12, f 13, f 14, f 15, f 16, f 17, f 18, f 19, f 20, f 21, f 22, f 23, f 24, f 25, f 26, f 27, f 28, f 29, f 30, f 31, f 32, f 33, f 34, f 35, f 36, f 37, f 38, f 39, f 40, f 41, f 42, f 43, f 44, f 45, f 46, f 47, f 48, f 49, f 50, f 51, f 52, f 53, f 54, f 55, f 56, f 57, f 58, f 59, f 60, f 61, f 62, f 63, f 64, f 65, f 66, f 67, f 68, f 69, f 70, f 71, f 72, f 73, f 74, f 75, f 76, f 77, f 78, f 79, f 80, f 81], []⟩ := rfl
        replace hK : ∀ v W', (fun W W' => World.grownBy W W' (some g)) W W' → phCa x (w.heap.size + 1 + 1) g (k * 6) ap kp ad kd ae ke 3 v W' → BxCo w (w.heap.size + 1 + 1) g kC cs uu k x (.slice ap x.ps.length kp) (.slice ad x.d.length kd) (.slice ae x.o.length ke)  (fun j => if j = 3 then true else L j) W' → K ((mono.lit 82 f []).put (some 24) v) W' := hK
        rw [eL] at hK ⊢
        simp only [Act.put, List.setIfInBounds_toArray, List.set_cons_succ, List.set_cons_zero] at hK
        have o4 : f 4 = (.pointer (some ⟨g, k * 6, none⟩)) := hO 4 (by kernel_rfl)
        rw [o4] at hK ⊢
        go_simp
        exact hK _ _ (gb_reflT _ _) rfl (hX.step (by decide) (by decide) (by decide) (Below.refl _ _))
      · refine mono.dutyS_of rfl ?_
        intro f W L hR hO hD hL hi hX K hK
        have eL : mono.lit 82 f [] = ⟨#[f 0, f 1, f 2, f 3, f 4, f 5, f 6, f 7, f 8, f 9, f 10, f 11, f 12, f 13, f 14, f 15, f 16, f 17, f 18, f 19, f 20, f 21, f 22, f 23, f 24, f 25, f 26, f 27, f 28, f 29, f 30, f 31, f 32, f 33, f 34, f 35, f 36, f 37, f 38, f 39, f 40, f 41, f 42, f 43, f 44, f 45, f 46, f 47, f 48, f 49, f 50, f 51, f 52, f 53, f 54, f 55, f 56, f 57, f 58, f 59, f 60, f 61, f 62, f 63, f 64, f 65, f 66, f 67, f 68, f 69, f 70, f 71, f 72, f 73, f 74, f 75, f 76, f 77, f 78, f 79, f 80, f 81], []⟩ := rfl
        replace hK : ∀ v W', (fun W W' => World.grownBy W W' (some g)) W W' → phCa x (w.heap.size + 1 + 1) g (k * 6) ap kp ad kd ae ke 4 v W' → BxCo w (w.heap.size + 1 + 1) g kC cs uu k x (.slice ap x.ps.length kp) (.slice ad x.d.length kd) (.slice ae x.o.length ke)  (fun j => if j = 4 then true else L j) W' → K ((mono.lit 82 f []).put (some 25) v) W' := hK
        rw [eL] at hK ⊢
        simp only [Act.put, List.setIfInBounds_toArray, List.set_cons_succ, List.set_cons_zero] at hK
        have q3 := hD 3 24 (by kernel_rfl) (by kernel_rfl)
        replace q3 : f 24 = (.pointer (some ⟨g, k * 6, none⟩)) := q3
        rw [q3] at hK ⊢
        go_simp
        exact hK _ _ (gb_reflT _ _) rfl (hX.step (by decide) (by decide) (by decide) (Below.refl _ _))
      · refine mono.dutyS_of rfl ?_
        intro f W L hR hO hD hL hi hX K hK
        have eL : mono.lit 82 f [] = ⟨#[f 0, f 1, f 2, f 3, f 4, f 5, f 6, f 7, f 8, f 9, f 10, f 11, f 12, f 13, f 14, f 15, f 16, f 17, f 18, f 19, f 20, f 21, f 22, f 23, f 24, f 25, f 26, f 27, f 28, f 29, f 30, f 31, f 32, f 33, f 34, f 35, f 36, f 37, f 38, f 39, f 40, f 41, f 42, f 43, f 44, f 45, f 46, f 47, f 48, f 49, f 50, f 51, f 52, f 53, f 54, f 55, f 56, f 57, f 58, f 59, f 60, f 61, f 62, f 63, f 64, f 65, f 66, f 67, f 68, f 69, f 70, f 71, f 72, f 73, f 74, f 75, f 76, f 77, f 78, f 79, f 80, f 81], []⟩ := rfl
        replace hK : ∀ v W', (fun W W' => World.grownBy W W' (some g)) W W' → phCa x (w.heap.size + 1 + 1) g (k * 6) ap kp ad kd ae ke 5 v W' → BxCo w (w.heap.size + 1 + 1) g kC cs uu k x (.slice ap x.ps.length kp) (.slice ad x.d.length kd) (.slice ae x.o.length ke)  (fun j => if j = 5 then true else L j) W' → K ((mono.lit 82 f []).put (some 26) v) W' := hK
        rw [eL] at hK ⊢
        simp only [Act.put, List.setIfInBounds_toArray, List.set_cons_succ, List.set_cons_zero] at hK
        have q4 := hD 4 25 (by kernel_rfl) (by kernel_rfl)
        replace q4 : f 25 = (.pointer (some ⟨g, k * 6, none⟩)) := q4
        rw [q4] at hK ⊢
        go_simp
        exact hK _ _ (gb_reflT _ _) rfl (hX.step (by decide) (by decide) (by decide) (Below.refl _ _))
      · refine mono.dutyS_of rfl ?_
        intro f W L hR hO hD hL hi hX K hK
        have eL : mono.lit 82 f [] = ⟨#[f 0, f 1, f 2, f 3, f 4, f 5, f 6, f 7, f 8, f 9, f 10, f 11, f 12, f 13, f 14, f 15, f 16, f 17, f 18, f 19, f 20, f 21, f 22, f 23, f 24, f 25, f 26, f 27, f 28, f 29, f 30, f 31, f 32, f 33, f 34, f 35, f 36, f 37, f 38, f 39, f 40, f 41, f 42, f 43, f 44, f 45, f 46, f 47, f 48, f 49, f 50, f 51, f 52, f 53, f 54, f 55, f 56, f 57, f 58, f 59, f 60, f 61, f 62, f 63, f 64, f 65, f 66, f 67, f 68, f 69, f 70, f 71, f 72, f 73, f 74, f 75, f 76, f 77, f 78, f 79, f 80, f 81], []⟩ := rfl
        replace hK : ∀ v W', (fun W W' => World.grownBy W W' (some g)) W W' → phCa x (w.heap.size + 1 + 1) g (k * 6) ap kp ad kd ae ke 6 v W' → BxCo w (w.heap.size + 1 + 1) g kC cs uu k x (.slice ap x.ps.length kp) (.slice ad x.d.length kd) (.slice ae x.o.length ke)  (fun j => if j = 6 then true else L j) W' → K ((mono.lit 82 f []).put (some 27) v) W' := hK
        rw [eL] at hK ⊢
        simp only [Act.put, List.setIfInBounds_toArray, List.set_cons_succ, List.set_cons_zero] at hK
        have q5 := hD 5 26 (by kernel_rfl) (by kernel_rfl)
        replace q5 : f 26 = (.pointer (some ⟨g, k * 6 + 1, none⟩)) := q5
        rw [q5] at hK ⊢
        have y1 := hX.c1 hi
        go_simp
        exact hK _ _ (gb_reflT _ _) rfl (hX.step (by decide) (by decide) (by decide) (Below.refl _ _))
      · refine mono.dutyS_of rfl ?_
        intro f W L hR hO hD hL hi hX K hK
        have eL : mono.lit 82 f [] = ⟨#[f 0, f 1, f 2, f 3, f 4, f 5, f 6, f 7, f 8, f 9, f 10, f 11, f 12, f 13, f 14, f 15, f 16, f 17, f 18, f 19, f 20, f 21, f 22, f 23, f 24, f 25, f 26, f 27, f 28, f 29, f 30, f 31, f 32, f 33, f 34, f 35, f 36, f 37, f 38, f 39, f 40, f 41, f 42, f 43, f 44, f 45, f 46, f 47, f 48, f 49, f 50, f 51, f 52, f 53, f 54, f 55, f 56, f 57, f 58, f 59, f 60, f 61, f 62, f 63, f 64, f 65, f 66, f 67, f 68, f 69, f 70, f 71, f 72, f 73, f 74, f 75, f 76, f 77, f 78, f 79, f 80, f 81], []⟩ := rfl
        replace hK : ∀ v W', (fun W W' => World.grownBy W W' (some g)) W W' → phCa x (w.heap.size + 1 + 1) g (k * 6) ap kp ad kd ae ke 7 v W' → BxCo w (w.heap.size + 1 + 1) g kC cs uu k x (.slice ap x.ps.length kp) (.slice ad x.d.length kd) (.slice ae x.o.length ke)  (fun j => if j = 7 then true else L j) W' → K ((mono.lit 82 f []).put (some 28) v) W' := hK
        rw [eL] at hK ⊢
        simp only [Act.put, List.setIfInBounds_toArray, List.set_cons_succ, List.set_cons_zero] at hK
        have q6 := hD 6 27 (by kernel_rfl) (by kernel_rfl)
        replace q6 : f 27 = (.slice ap x.ps.length kp) := q6
        rw [q6] at hK ⊢
        have cX := cloneIn_any ap x.ps.length kp (ivs x.ps) W (src_ints (hp.below hX.bel)) hpl
        go_simp
        refine cX.mono ?_
        rintro e w9 ⟨u9, rfl, ho, hb⟩
        obtain ⟨a9, k9, rfl⟩ := own_form ho
        have hgW := hX.glt
        exact hK _ _ (gq_below hb) ⟨a9, k9, rfl, own_lower ho hX.sz, fun e => by have := (ho.lt g e).1; omega⟩ (hX.step (by decide) (by decide) (by decide) hb)
      · refine mono.dutyS_of rfl ?_
        intro f W L hR hO hD hL hi hX K hK
        have eL : mono.lit 82 f [] = ⟨#[f 0, f 1, f 2, f 3, f 4, f 5, f 6, f 7, f 8, f 9, f 10, f 11, f 12, f 13, f 14, f 15, f 16, f 17, f 18, f 19, f 20, f 21, f 22, f 23, f 24, f 25, f 26, f 27, f 28, f 29, f 30, f 31, f 32, f 33, f 34, f 35, f 36, f 37, f 38, f 39, f 40, f 41, f 42, f 43, f 44, f 45, f 46, f 47, f 48, f 49, f 50, f 51, f 52, f 53, f 54, f 55, f 56, f 57, f 58, f 59, f 60, f 61, f 62, f 63, f 64, f 65, f 66, f 67, f 68, f 69, f 70, f 71, f 72, f 73, f 74, f 75, f 76, f 77, f 78, f 79, f 80, f 81], []⟩ := rfl
        replace hK : ∀ v W', (fun W W' => World.grownBy W W' (some g)) W W' → phCa x (w.heap.size + 1 + 1) g (k * 6) ap kp ad kd ae ke 8 v W' → BxCo w (w.heap.size + 1 + 1) g kC cs uu k x (.slice ap x.ps.length kp) (.slice ad x.d.length kd) (.slice ae x.o.length ke)  (fun j => if j = 8 then true else L j) W' → K ((mono.lit 82 f []).put (some 29) v) W' := hK
        rw [eL] at hK ⊢
        simp only [Act.put, List.setIfInBounds_toArray, List.set_cons_succ, List.set_cons_zero] at hK
        have o4 : f 4 = (.pointer (some ⟨g, k * 6, none⟩)) := hO 4 (by kernel_rfl)
        rw [o4] at hK ⊢
        go_simp
        exact hK _ _ (gb_reflT _ _) rfl (hX.step (by decide) (by decide) (by decide) (Below.refl _ _))
      · refine mono.dutyS_of rfl ?_
        intro f W L hR hO hD hL hi hX K hK
        have eL : mono.lit 82 f [] = ⟨#[f 0, f 1, f 2, f 3, f 4, f 5, f 6, f 7, f 8, f 9, f 10, f 11, f 12, f 13, f 14, f 15, f 16, f 17, f 18, f 19, f 20, f 21, f 22, f 23, f 24, f 25, f 26, f 27, f 28, f 29, f 30, f 31, f 32, f 33, f 34, f 35, f 36, f 37, f 38, f 39, f 40, f 41, f 42, f 43, f 44, f 45, f 46, f 47, f 48, f 49, f 50, f 51, f 52, f 53, f 54, f 55, f 56, f 57, f 58, f 59, f 60, f 61, f 62, f 63, f 64, f 65, f 66, f 67, f 68, f 69, f 70, f 71, f 72, f 73, f 74, f 75, f 76, f 77, f 78, f 79, f 80, f 81], []⟩ := rfl
        replace hK : ∀ v W', (fun W W' => World.grownBy W W' (some g)) W W' → phCa x (w.heap.size + 1 + 1) g (k * 6) ap kp ad kd ae ke 9 v W' → BxCo w (w.heap.size + 1 + 1) g kC cs uu k x (.slice ap x.ps.length kp) (.slice ad x.d.length kd) (.slice ae x.o.length ke)  (fun j => if j = 9 then true else L j) W' → K ((mono.lit 82 f []).put (some 30) v) W' := hK
        rw [eL] at hK ⊢
        simp only [Act.put, List.setIfInBounds_toArray, List.set_cons_succ, List.set_cons_zero] at hK
        have q8 := hD 8 29 (by kernel_rfl) (by kernel_rfl)
        replace q8 : f 29 = (.pointer (some ⟨g, k * 6, none⟩)) := q8
        rw [q8] at hK ⊢
        go_simp
        exact hK _ _ (gb_reflT _ _) rfl (hX.step (by decide) (by decide) (by decide) (Below.refl _ _))
      · refine mono.dutyS_of rfl ?_
        intro f W L hR hO hD hL hi hX K hK
        have eL : mono.lit 82 f [] = ⟨#[f 0, f 1, f 2, f 3, f 4, f 5, f 6, f 7, f 8, f 9, f 10, f 11, f 12, f 13, f 14, f 15, f 16, f 17, f 18, f 19, f 20, f 21, f 22, f 23, f 24, f 25, f 26, f 27, f 28, f 29, f 30, f 31, f 32, f 33, f 34, f 35, f 36, f 37, f 38, f 39, f 40, f 41, f 42, f 43, f 44, f 45, f 46, f 47, f 48, f 49, f 50, f 51, f 52, f 53, f 54, f 55, f 56, f 57, f 58, f 59, f 60, f 61, f 62, f 63, f 64, f 65, f 66, f 67, f 68, f 69, f 70, f 71, f 72, f 73, f 74, f 75, f 76, f 77, f 78, f 79, f 80, f 81], []⟩ := rfl
        replace hK : ∀ v W', (fun W W' => World.grownBy W W' (some g)) W W' → phCa x (w.heap.size + 1 + 1) g (k * 6) ap kp ad kd ae ke 10 v W' → BxCo w (w.heap.size + 1 + 1) g kC cs uu k x (.slice ap x.ps.length kp) (.slice ad x.d.length kd) (.slice ae x.o.length ke)  (fun j => if j = 10 then true else L j) W' → K ((mono.lit 82 f []).put (some 31) v) W' := hK
        rw [eL] at hK ⊢
        simp only [Act.put, List.setIfInBounds_toArray, List.set_cons_succ, List.set_cons_zero] at hK
        have q9 := hD 9 30 (by kernel_rfl) (by kernel_rfl)
        replace q9 : f 30 = (.pointer (some ⟨g, k * 6, none⟩)) := q9
        rw [q9] at hK ⊢
        go_simp
        exact hK _ _ (gb_reflT _ _) rfl (hX.step (by decide) (by decide) (by decide) (Below.refl _ _))
      · refine mono.dutyS_of rfl ?_
        intro f W L hR hO hD hL hi hX K hK
        have eL : mono.lit 82 f [] = ⟨#[f 0, f 1, f 2, f 3, f 4, f 5, f 6, f 7, f 8, f 9, f 10, f 11, f 12, f 13, f 14, f 15, f 16, f 17, f 18, f 19, f 20, f 21, f 22, f 23, f 24, f 25, f 26, f 27, f 28, f 29, f 30, f 31, f 32, f 33, f 34, f 35, f 36, f 37, f 38, f 39, f 40, f 41, f 42, f 43, f 44, f 45, f 46, f 47, f 48, f 49, f 50, f 51, f 52, f 53, f 54, f 55, f 56, f 57, f 58, f 59, f 60, f 61, f 62, f 63, f 64, f 65, f 66, f 67, f 68, f 69, f 70, f 71, f 72, f 73, f 74, f 75, f 76, f 77, f 78, f 79, f 80, f 81], []⟩ := rfl
        replace hK : ∀ v W', (fun W W' => World.grownBy W W' (some g)) W W' → phCa x (w.heap.size + 1 + 1) g (k * 6) ap kp ad kd ae ke 11 v W' → BxCo w (w.heap.size + 1 + 1) g kC cs uu k x (.slice ap x.ps.length kp) (.slice ad x.d.length kd) (.slice ae x.o.length ke)  (fun j => if j = 11 then true else L j) W' → K ((mono.lit 82 f []).put (some 32) v) W' := hK
        rw [eL] at hK ⊢
        simp only [Act.put, List.setIfInBounds_toArray, List.set_cons_succ, List.set_cons_zero] at hK
        have q10 := hD 10 31 (by kernel_rfl) (by kernel_rfl)
        replace q10 : f 31 = (.pointer (some ⟨g, k * 6 + 2, none⟩)) := q10
        rw [q10] at hK ⊢
        have y2 := hX.c2 hi
        go_simp
        exact hK _ _ (gb_reflT _ _) rfl (hX.step (by decide) (by decide) (by decide) (Below.refl _ _))
      · refine mono.dutyS_of rfl ?_
        intro f W L hR hO hD hL hi hX K hK
        have eL : mono.lit 82 f [] = ⟨#[f 0, f 1, f 2, f 3, f 4, f 5, f 6, f 7, f 8, f 9, f 10, f 11, f 12, f 13, f 14, f 15, f 16, f 17, f 18, f 19, f 20, f 21, f 22, f 23, f 24, f 25, f 26, f 27, f 28, f 29, f 30, f 31, f 32, f 33, f 34, f 35, f 36, f 37, f 38, f 39, f 40, f 41, f 42, f 43, f 44, f 45, f 46, f 47, f 48, f 49, f 50, f 51, f 52, f 53, f 54, f 55, f 56, f 57, f 58, f 59, f 60, f 61, f 62, f 63, f 64, f 65, f 66, f 67, f 68, f 69, f 70, f 71, f 72, f 73, f 74, f 75, f 76, f 77, f 78, f 79, f 80, f 81], []⟩ := rfl
        replace hK : ∀ v W', (fun W W' => World.grownBy W W' (some g)) W W' → phCa x (w.heap.size + 1 + 1) g (k * 6) ap kp ad kd ae ke 12 v W' → BxCo w (w.heap.size + 1 + 1) g kC cs uu k x (.slice ap x.ps.length kp) (.slice ad x.d.length kd) (.slice ae x.o.length ke)  (fun j => if j = 12 then true else L j) W' → K ((mono.lit 82 f []).put (some 33) v) W' := hK
        rw [eL] at hK ⊢
        simp only [Act.put, List.setIfInBounds_toArray, List.set_cons_succ, List.set_cons_zero] at hK
        have q11 := hD 11 32 (by kernel_rfl) (by kernel_rfl)
        replace q11 : f 32 = (.slice ad x.d.length kd) := q11
        rw [q11] at hK ⊢
        have cX := cdelta_any (.slice ad x.d.length kd) x.d W (hd.below hX.bel) hdl hdi
        go_simp
        refine cX.mono ?_
        rintro e w9 ⟨u9, rfl, ho, hb⟩
        obtain ⟨a9, k9, rfl⟩ := own_form ho
        have hgW := hX.glt
        exact hK _ _ (gq_below hb) ⟨a9, k9, rfl, own_lower ho hX.sz, fun e => by have := (ho.lt g e).1; omega⟩ (hX.step (by decide) (by decide) (by decide) hb)
      · refine mono.dutyS_of rfl ?_
        intro f W L hR hO hD hL hi hX K hK
        have eL : mono.lit 82 f [] = ⟨#[f 0, f 1, f 2, f 3, f 4, f 5, f 6, f 7, f 8, f 9, f 10, f 11, f 12, f 13, f 14, f 15, f 16, f 17, f 18, f 19, f 20, f 21, f 22, f 23, f 24, f 25, f 26, f 27, f 28, f 29, f 30, f 31, f 32, f 33, f 34, f 35, f 36, f 37, f 38, f 39, f 40, f 41, f 42, f 43, f 44, f 45, f 46, f 47, f 48, f 49, f 50, f 51, f 52, f 53, f 54, f 55, f 56, f 57, f 58, f 59, f 60, f 61, f 62, f 63, f 64, f 65, f 66, f 67, f 68, f 69, f 70, f 71, f 72, f 73, f 74, f 75, f 76, f 77, f 78, f 79, f 80, f 81], []⟩ := rfl
        replace hK : ∀ v W', (fun W W' => World.grownBy W W' (some g)) W W' → phCa x (w.heap.size + 1 + 1) g (k * 6) ap kp ad kd ae ke 13 v W' → BxCo w (w.heap.size + 1 + 1) g kC cs uu k x (.slice ap x.ps.length kp) (.slice ad x.d.length kd) (.slice ae x.o.length ke)  (fun j => if j = 13 then true else L j) W' → K ((mono.lit 82 f []).put (some 34) v) W' := hK
        rw [eL] at hK ⊢
        simp only [Act.put, List.setIfInBounds_toArray, List.set_cons_succ, List.set_cons_zero] at hK
        have o4 : f 4 = (.pointer (some ⟨g, k * 6, none⟩)) := hO 4 (by kernel_rfl)
        rw [o4] at hK ⊢
        go_simp
        exact hK _ _ (gb_reflT _ _) rfl (hX.step (by decide) (by decide) (by decide) (Below.refl _ _))
      · refine mono.dutyS_of rfl ?_
        intro f W L hR hO hD hL hi hX K hK
        have eL : mono.lit 82 f [] = ⟨#[f 0, f 1, f 2, f 3, f 4, f 5, f 6, f 7, f 8, f 9, f 10, f 11, f 12, f 13, f 14, f 15, f 16, f 17, f 18, f 19, f 20, f 21, f 22, f 23, f 24, f 25, f 26, f 27, f 28, f 29, f 30, f 31, f 32, f 33, f 34, f 35, f 36, f 37, f 38, f 39, f 40, f 41, f 42, f 43, f 44, f 45, f 46, f 47, f 48, f 49, f 50, f 51, f 52, f 53, f 54, f 55, f 56, f 57, f 58, f 59, f 60, f 61, f 62, f 63, f 64, f 65, f 66, f 67, f 68, f 69, f 70, f 71, f 72, f 73, f 74, f 75, f 76, f 77, f 78, f 79, f 80, f 81], []⟩ := rfl
        replace hK : ∀ v W', (fun W W' => World.grownBy W W' (some g)) W W' → phCa x (w.heap.size + 1 + 1) g (k * 6) ap kp ad kd ae ke 14 v W' → BxCo w (w.heap.size + 1 + 1) g kC cs uu k x (.slice ap x.ps.length kp) (.slice ad x.d.length kd) (.slice ae x.o.length ke)  (fun j => if j = 14 then true else L j) W' → K ((mono.lit 82 f []).put (some 35) v) W' := hK
        rw [eL] at hK ⊢
        simp only [Act.put, List.setIfInBounds_toArray, List.set_cons_succ, List.set_cons_zero] at hK
        have q13 := hD 13 34 (by kernel_rfl) (by kernel_rfl)
        replace q13 : f 34 = (.pointer (some ⟨g, k * 6, none⟩)) := q13
        rw [q13] at hK ⊢
        go_simp
        exact hK _ _ (gb_reflT _ _) rfl (hX.step (by decide) (by decide) (by decide) (Below.refl _ _))
      · refine mono.dutyS_of rfl ?_
        intro f W L hR hO hD hL hi hX K hK
        have eL : mono.lit 82 f [] = ⟨#[f 0, f 1, f 2, f 3, f 4, f 5, f 6, f 7, f 8, f 9, f 10, f 11, f 12, f 13, f 14, f 15, f 16, f 17, f 18, f 19, f 20, f 21, f 22, f 23, f 24, f 25, f 26, f 27, f 28, f 29, f 30, f 31, f 32, f 33, f 34, f 35, f 36, f 37, f 38, f 39, f 40, f 41, f 42, f 43, f 44, f 45, f 46, f 47, f 48, f 49, f 50, f 51, f 52, f 53, f 54, f 55, f 56, f 57, f 58, f 59, f 60, f 61, f 62, f 63, f 64, f 65, f 66, f 67, f 68, f 69, f 70, f 71, f 72, f 73, f 74, f 75, f 76, f 77, f 78, f 79, f 80, f 81], []⟩ := rfl
        replace hK : ∀ v W', (fun W W' => World.grownBy W W' (some g)) W W' → phCa x (w.heap.size + 1 + 1) g (k * 6) ap kp ad kd ae ke 15 v W' → BxCo w (w.heap.size + 1 + 1) g kC cs uu k x (.slice ap x.ps.length kp) (.slice ad x.d.length kd) (.slice ae x.o.length ke)  (fun j => if j = 15 then true else L j) W' → K ((mono.lit 82 f []).put (some 36) v) W' := hK
        rw [eL] at hK ⊢
        simp only [Act.put, List.setIfInBounds_toArray, List.set_cons_succ, List.set_cons_zero] at hK
        have q14 := hD 14 35 (by kernel_rfl) (by kernel_rfl)
        replace q14 : f 35 = (.pointer (some ⟨g, k * 6, none⟩)) := q14
        rw [q14] at hK ⊢
        go_simp
        exact hK _ _ (gb_reflT _ _) rfl (hX.step (by decide) (by decide) (by decide) (Below.refl _ _))
      · refine mono.dutyS_of rfl ?_
        intro f W L hR hO hD hL hi hX K hK
        have eL : mono.lit 82 f [] = ⟨#[f 0, f 1, f 2, f 3, f 4, f 5, f 6, f 7, f 8, f 9, f 10, f 11, f 12, f 13, f 14, f 15, f 16, f 17, f 18, f 19, f 20, f 21, f 22, f 23, f 24, f 25, f 26, f 27, f 28, f 29, f 30, f 31, f 32, f 33, f 34, f 35, f 36, f 37, f 38, f 39, f 40, f 41, f 42, f 43, f 44, f 45, f 46, f 47, f 48, f 49, f 50, f 51, f 52, f 53, f 54, f 55, f 56, f 57, f 58, f 59, f 60, f 61, f 62, f 63, f 64, f 65, f 66, f 67, f 68, f 69, f 70, f 71, f 72, f 73, f 74, f 75, f 76, f 77, f 78, f 79, f 80, f 81], []⟩ := rfl
        replace hK : ∀ v W', (fun W W' => World.grownBy W W' (some g)) W W' → phCa x (w.heap.size + 1 + 1) g (k * 6) ap kp ad kd ae ke 16 v W' → BxCo w (w.heap.size + 1 + 1) g kC cs uu k x (.slice ap x.ps.length kp) (.slice ad x.d.length kd) (.slice ae x.o.length ke)  (fun j => if j = 16 then true else L j) W' → K ((mono.lit 82 f []).put (some 37) v) W' := hK
        rw [eL] at hK ⊢
        simp only [Act.put, List.setIfInBounds_toArray, List.set_cons_succ, List.set_cons_zero] at hK
        have q15 := hD 15 36 (by kernel_rfl) (by kernel_rfl)
        replace q15 : f 36 = (.pointer (some ⟨g, k * 6 + 3, none⟩)) := q15
        rw [q15] at hK ⊢
        have y3 := hX.c3 hi
        go_simp
        exact hK _ _ (gb_reflT _ _) rfl (hX.step (by decide) (by decide) (by decide) (Below.refl _ _))
      · refine mono.dutyS_of rfl ?_
        intro f W L hR hO hD hL hi hX K hK
        have eL : mono.lit 82 f [] = ⟨#[f 0, f 1, f 2, f 3, f 4, f 5, f 6, f 7, f 8, f 9, f 10, f 11, f 12, f 13, f 14, f 15, f 16, f 17, f 18, f 19, f 20, f 21, f 22, f 23, f 24, f 25, f 26, f 27, f 28, f 29, f 30, f 31, f 32, f 33, f 34, f 35, f 36, f 37, f 38, f 39, f 40, f 41, f 42, f 43, f 44, f 45, f 46, f 47, f 48, f 49, f 50, f 51, f 52, f 53, f 54, f 55, f 56, f 57, f 58, f 59, f 60, f 61, f 62, f 63, f 64, f 65, f 66, f 67, f 68, f 69, f 70, f 71, f 72, f 73, f 74, f 75, f 76, f 77, f 78, f 79, f 80, f 81], []⟩ := rfl
        replace hK : ∀ v W', (fun W W' => World.grownBy W W' (some g)) W W' → phCa x (w.heap.size + 1 + 1) g (k * 6) ap kp ad kd ae ke 17 v W' → BxCo w (w.heap.size + 1 + 1) g kC cs uu k x (.slice ap x.ps.length kp) (.slice ad x.d.length kd) (.slice ae x.o.length ke)  (fun j => if j = 17 then true else L j) W' → K ((mono.lit 82 f []).put (some 38) v) W' := hK
        rw [eL] at hK ⊢
        simp only [Act.put, List.setIfInBounds_toArray, List.set_cons_succ, List.set_cons_zero] at hK
        have q16 := hD 16 37 (by kernel_rfl) (by kernel_rfl)
        replace q16 : f 37 = (.slice ae x.o.length ke) := q16
        rw [q16] at hK ⊢
        have cX := cdelta_any (.slice ae x.o.length ke) x.o W (ho.below hX.bel) hol hoi
        go_simp
        refine cX.mono ?_
        rintro e w9 ⟨u9, rfl, ho, hb⟩
        obtain ⟨a9, k9, rfl⟩ := own_form ho
        have hgW := hX.glt
        exact hK _ _ (gq_below hb) ⟨a9, k9, rfl, own_lower ho hX.sz, fun e => by have := (ho.lt g e).1; omega⟩ (hX.step (by decide) (by decide) (by decide) hb)
      · refine mono.dutyS_of rfl ?_
        intro f W L hR hO hD hL hi hX K hK
        have eL : mono.lit 82 f [] = ⟨#[f 0, f 1, f 2, f 3, f 4, f 5, f 6, f 7, f 8, f 9, f 10, f 11, f 12, f 13, f 14, f 15, f 16, f 17, f 18, f 19, f 20, f 21, f 22, f 23, f 24, f 25, f 26, f 27, f 28, f 29, f 30, f 31, f 32, f 33, f 34, f 35, f 36, f 37, f 38, f 39, f 40, f 41, f 42, f 43, f 44, f 45, f 46, f 47, f 48, f 49, f 50, f 51, f 52, f 53, f 54, f 55, f 56, f 57, f 58, f 59, f 60, f 61, f 62, f 63, f 64, f 65, f 66, f 67, f 68, f 69, f 70, f 71, f 72, f 73, f 74, f 75, f 76, f 77, f 78, f 79, f 80, f 81], []⟩ := rfl
        replace hK : ∀ v W', (fun W W' => World.grownBy W W' (some g)) W W' → phCa x (w.heap.size + 1 + 1) g (k * 6) ap kp ad kd ae ke 18 v W' → BxCo w (w.heap.size + 1 + 1) g kC cs uu k x (.slice ap x.ps.length kp) (.slice ad x.d.length kd) (.slice ae x.o.length ke)  (fun j => if j = 18 then true else L j) W' → K ((mono.lit 82 f []).put (some 39) v) W' := hK
        rw [eL] at hK ⊢
        simp only [Act.put, List.setIfInBounds_toArray, List.set_cons_succ, List.set_cons_zero] at hK
        have q0 := hD 0 21 (by kernel_rfl) (by kernel_rfl)
        replace q0 : f 21 = (.pointer (some ⟨g, k * 6, none⟩)) := q0
        rw [q0] at hK ⊢
        go_simp
        exact hK _ _ (gb_reflT _ _) rfl (hX.step (by decide) (by decide) (by decide) (Below.refl _ _))
      · refine mono.dutyS_of rfl ?_
        intro f W L hR hO hD hL hi hX K hK
        have eL : mono.lit 82 f [] = ⟨#[f 0, f 1, f 2, f 3, f 4, f 5, f 6, f 7, f 8, f 9, f 10, f 11, f 12, f 13, f 14, f 15, f 16, f 17, f 18, f 19, f 20, f 21, f 22, f 23, f 24, f 25, f 26, f 27, f 28, f 29, f 30, f 31, f 32, f 33, f 34, f 35, f 36, f 37, f 38, f 39, f 40, f 41, f 42, f 43, f 44, f 45, f 46, f 47, f 48, f 49, f 50, f 51, f 52, f 53, f 54, f 55, f 56, f 57, f 58, f 59, f 60, f 61, f 62, f 63, f 64, f 65, f 66, f 67, f 68, f 69, f 70, f 71, f 72, f 73, f 74, f 75, f 76, f 77, f 78, f 79, f 80, f 81], []⟩ := rfl
        replace hK : ∀ v W', (fun W W' => World.grownBy W W' (some g)) W W' → phCa x (w.heap.size + 1 + 1) g (k * 6) ap kp ad kd ae ke 19 v W' → BxCo w (w.heap.size + 1 + 1) g kC cs uu k x (.slice ap x.ps.length kp) (.slice ad x.d.length kd) (.slice ae x.o.length ke)  (fun j => if j = 19 then true else L j) W' → K ((mono.lit 82 f []).put (some 40) v) W' := hK
        rw [eL] at hK ⊢
        simp only [Act.put, List.setIfInBounds_toArray, List.set_cons_succ, List.set_cons_zero] at hK
        have q18 := hD 18 39 (by kernel_rfl) (by kernel_rfl)
        replace q18 : f 39 = (.pointer (some ⟨g, k * 6, none⟩)) := q18
        rw [q18] at hK ⊢
        go_simp
        exact hK _ _ (gb_reflT _ _) rfl (hX.step (by decide) (by decide) (by decide) (Below.refl _ _))
      · refine mono.dutyS_of rfl ?_
        intro f W L hR hO hD hL hi hX K hK
        have eL : mono.lit 82 f [] = ⟨#[f 0, f 1, f 2, f 3, f 4, f 5, f 6, f 7, f 8, f 9, f 10, f 11, f 12, f 13, f 14, f 15, f 16, f 17, f 18, f 19, f 20, f 21, f 22, f 23, f 24, f 25, f 26, f 27, f 28, f 29, f 30, f 31, f 32, f 33, f 34, f 35, f 36, f 37, f 38, f 39, f 40, f 41, f 42, f 43, f 44, f 45, f 46, f 47, f 48, f 49, f 50, f 51, f 52, f 53, f 54, f 55, f 56, f 57, f 58, f 59, f 60, f 61, f 62, f 63, f 64, f 65, f 66, f 67, f 68, f 69, f 70, f 71, f 72, f 73, f 74, f 75, f 76, f 77, f 78, f 79, f 80, f 81], []⟩ := rfl
        replace hK : ∀ v W', (fun W W' => World.grownBy W W' (some g)) W W' → phCa x (w.heap.size + 1 + 1) g (k * 6) ap kp ad kd ae ke 20 v W' → BxCo w (w.heap.size + 1 + 1) g kC cs uu k x (.slice ap x.ps.length kp) (.slice ad x.d.length kd) (.slice ae x.o.length ke)  (fun j => if j = 20 then true else L j) W' → K ((mono.lit 82 f []).put none v) W' := hK
        rw [eL] at hK ⊢
        simp only [Act.put] at hK
        have q19 := hD 19 40 (by kernel_rfl) (by kernel_rfl)
        replace q19 : f 40 = (.pointer (some ⟨g, k * 6 + 1, none⟩)) := q19
        have q7 := hD 7 28 (by kernel_rfl) (by kernel_rfl)
        obtain ⟨a7, k7, e7, o7⟩ := q7
        rw [q19, e7] at hK ⊢
        have yf := hX.fz (k * 6 + 1)
        obtain ⟨yv, yc⟩ := hX.any1
        go_simp
        exact hK undef _ (grown_set _ _ _ _) trivial (hX.sto1 hgB' (hL 6 (by kernel_rfl)) (hL 11 (by kernel_rfl)) (hL 16 (by kernel_rfl)) o7)
      · refine mono.dutyS_of rfl ?_
        intro f W L hR hO hD hL hi hX K hK
        have eL : mono.lit 82 f [] = ⟨#[f 0, f 1, f 2, f 3, f 4, f 5, f 6, f 7, f 8, f 9, f 10, f 11, f 12, f 13, f 14, f 15, f 16, f 17, f 18, f 19, f 20, f 21, f 22, f 23, f 24, f 25, f 26, f 27, f 28, f 29, f 30, f 31, f 32, f 33, f 34, f 35, f 36, f 37, f 38, f 39, f 40, f 41, f 42, f 43, f 44, f 45, f 46, f 47, f 48, f 49, f 50, f 51, f 52, f 53, f 54, f 55, f 56, f 57, f 58, f 59, f 60, f 61, f 62, f 63, f 64, f 65, f 66, f 67, f 68, f 69, f 70, f 71, f 72, f 73, f 74, f 75, f 76, f 77, f 78, f 79, f 80, f 81], []⟩ := rfl
        replace hK : ∀ v W', (fun W W' => World.grownBy W W' (some g)) W W' → phCa x (w.heap.size + 1 + 1) g (k * 6) ap kp ad kd ae ke 21 v W' → BxCo w (w.heap.size + 1 + 1) g kC cs uu k x (.slice ap x.ps.length kp) (.slice ad x.d.length kd) (.slice ae x.o.length ke)  (fun j => if j = 21 then true else L j) W' → K ((mono.lit 82 f []).put (some 41) v) W' := hK
        rw [eL] at hK ⊢
        simp only [Act.put, List.setIfInBounds_toArray, List.set_cons_succ, List.set_cons_zero] at hK
        have q1 := hD 1 22 (by kernel_rfl) (by kernel_rfl)
        replace q1 : f 22 = (.pointer (some ⟨g, k * 6, none⟩)) := q1
        rw [q1] at hK ⊢
        go_simp
        exact hK _ _ (gb_reflT _ _) rfl (hX.step (by decide) (by decide) (by decide) (Below.refl _ _))
      · refine mono.dutyS_of rfl ?_
        intro f W L hR hO hD hL hi hX K hK
        have eL : mono.lit 82 f [] = ⟨#[f 0, f 1, f 2, f 3, f 4, f 5, f 6, f 7, f 8, f 9, f 10, f 11, f 12, f 13, f 14, f 15, f 16, f 17, f 18, f 19, f 20, f 21, f 22, f 23, f 24, f 25, f 26, f 27, f 28, f 29, f 30, f 31, f 32, f 33, f 34, f 35, f 36, f 37, f 38, f 39, f 40, f 41, f 42, f 43, f 44, f 45, f 46, f 47, f 48, f 49, f 50, f 51, f 52, f 53, f 54, f 55, f 56, f 57, f 58, f 59, f 60, f 61, f 62, f 63, f 64, f 65, f 66, f 67, f 68, f 69, f 70, f 71, f 72, f 73, f 74, f 75, f 76, f 77, f 78, f 79, f 80, f 81], []⟩ := rfl
        replace hK : ∀ v W', (fun W W' => World.grownBy W W' (some g)) W W' → phCa x (w.heap.size + 1 + 1) g (k * 6) ap kp ad kd ae ke 22 v W' → BxCo w (w.heap.size + 1 + 1) g kC cs uu k x (.slice ap x.ps.length kp) (.slice ad x.d.length kd) (.slice ae x.o.length ke)  (fun j => if j = 22 then true else L j) W' → K ((mono.lit 82 f []).put (some 42) v) W' := hK
        rw [eL] at hK ⊢
        simp only [Act.put, List.setIfInBounds_toArray, List.set_cons_succ, List.set_cons_zero] at hK
        have q21 := hD 21 41 (by kernel_rfl) (by kernel_rfl)
        replace q21 : f 41 = (.pointer (some ⟨g, k * 6, none⟩)) := q21
        rw [q21] at hK ⊢
        go_simp
        exact hK _ _ (gb_reflT _ _) rfl (hX.step (by decide) (by decide) (by decide) (Below.refl _ _))
      · refine mono.dutyS_of rfl ?_
        intro f W L hR hO hD hL hi hX K hK
        have eL : mono.lit 82 f [] = ⟨#[f 0, f 1, f 2, f 3, f 4, f 5, f 6, f 7, f 8, f 9, f 10, f 11, f 12, f 13, f 14, f 15, f 16, f 17, f 18, f 19, f 20, f 21, f 22, f 23, f 24, f 25, f 26, f 27, f 28, f 29, f 30, f 31, f 32, f 33, f 34, f 35, f 36, f 37, f 38, f 39, f 40, f 41, f 42, f 43, f 44, f 45, f 46, f 47, f 48, f 49, f 50, f 51, f 52, f 53, f 54, f 55, f 56, f 57, f 58, f 59, f 60, f 61, f 62, f 63, f 64, f 65, f 66, f 67, f 68, f 69, f 70, f 71, f 72, f 73, f 74, f 75, f 76, f 77, f 78, f 79, f 80, f 81], []⟩ := rfl
        replace hK : ∀ v W', (fun W W' => World.grownBy W W' (some g)) W W' → phCa x (w.heap.size + 1 + 1) g (k * 6) ap kp ad kd ae ke 23 v W' → BxCo w (w.heap.size + 1 + 1) g kC cs uu k x (.slice ap x.ps.length kp) (.slice ad x.d.length kd) (.slice ae x.o.length ke)  (fun j => if j = 23 then true else L j) W' → K ((mono.lit 82 f []).put none v) W' := hK
        rw [eL] at hK ⊢
        simp only [Act.put] at hK
        have q22 := hD 22 42 (by kernel_rfl) (by kernel_rfl)
        replace q22 : f 42 = (.pointer (some ⟨g, k * 6 + 2, none⟩)) := q22
        have q12 := hD 12 33 (by kernel_rfl) (by kernel_rfl)
        obtain ⟨a12, k12, e12, o12⟩ := q12
        rw [q22, e12] at hK ⊢
        have yf := hX.fz (k * 6 + 2)
        obtain ⟨yv, yc⟩ := hX.any2
        go_simp
        exact hK undef _ (grown_set _ _ _ _) trivial (hX.sto2 hgB' (hL 6 (by kernel_rfl)) (hL 11 (by kernel_rfl)) (hL 16 (by kernel_rfl)) o12)
      · refine mono.dutyS_of rfl ?_
        intro f W L hR hO hD hL hi hX K hK
        have eL : mono.lit 82 f [] = ⟨#[f 0, f 1, f 2, f 3, f 4, f 5, f 6, f 7, f 8, f 9, f 10, f 11, f 12, f 13, f 14, f 15, f 16, f 17, f 18, f 19, f 20, f 21, f 22, f 23, f 24, f 25, f 26, f 27, f 28, f 29, f 30, f 31, f 32, f 33, f 34, f 35, f 36, f 37, f 38, f 39, f 40, f 41, f 42, f 43, f 44, f 45, f 46, f 47, f 48, f 49, f 50, f 51, f 52, f 53, f 54, f 55, f 56, f 57, f 58, f 59, f 60, f 61, f 62, f 63, f 64, f 65, f 66, f 67, f 68, f 69, f 70, f 71, f 72, f 73, f 74, f 75, f 76, f 77, f 78, f 79, f 80, f 81], []⟩ := rfl
        replace hK : ∀ v W', (fun W W' => World.grownBy W W' (some g)) W W' → phCa x (w.heap.size + 1 + 1) g (k * 6) ap kp ad kd ae ke 24 v W' → BxCo w (w.heap.size + 1 + 1) g kC cs uu k x (.slice ap x.ps.length kp) (.slice ad x.d.length kd) (.slice ae x.o.length ke)  (fun j => if j = 24 then true else L j) W' → K ((mono.lit 82 f []).put (some 43) v) W' := hK
        rw [eL] at hK ⊢
        simp only [Act.put, List.setIfInBounds_toArray, List.set_cons_succ, List.set_cons_zero] at hK
        have q2 := hD 2 23 (by kernel_rfl) (by kernel_rfl)
        replace q2 : f 23 = (.pointer (some ⟨g, k * 6, none⟩)) := q2
        rw [q2] at hK ⊢
        go_simp
        exact hK _ _ (gb_reflT _ _) rfl (hX.step (by decide) (by decide) (by decide) (Below.refl _ _))
      · refine mono.dutyS_of rfl ?_
        intro f W L hR hO hD hL hi hX K hK
        have eL : mono.lit 82 f [] = ⟨#[f 0, f 1, f 2, f 3, f 4, f 5, f 6, f 7, f 8, f 9, f 10, f 11, f 12, f 13, f 14, f 15, f 16, f 17, f 18, f 19, f 20, f 21, f 22, f 23, f 24, f 25, f 26, f 27, f 28, f 29, f 30, f 31, f 32, f 33, f 34, f 35, f 36, f 37, f 38, f 39, f 40, f 41, f 42, f 43, f 44, f 45, f 46, f 47, f 48, f 49, f 50, f 51, f 52, f 53, f 54, f 55, f 56, f 57, f 58, f 59, f 60, f 61, f 62, f 63, f 64, f 65, f 66, f 67, f 68, f 69, f 70, f 71, f 72, f 73, f 74, f 75, f 76, f 77, f 78, f 79, f 80, f 81], []⟩ := rfl
        replace hK : ∀ v W', (fun W W' => World.grownBy W W' (some g)) W W' → phCa x (w.heap.size + 1 + 1) g (k * 6) ap kp ad kd ae ke 25 v W' → BxCo w (w.heap.size + 1 + 1) g kC cs uu k x (.slice ap x.ps.length kp) (.slice ad x.d.length kd) (.slice ae x.o.length ke)  (fun j => if j = 25 then true else L j) W' → K ((mono.lit 82 f []).put (some 44) v) W' := hK
        rw [eL] at hK ⊢
        simp only [Act.put, List.setIfInBounds_toArray, List.set_cons_succ, List.set_cons_zero] at hK
        have q24 := hD 24 43 (by kernel_rfl) (by kernel_rfl)
        replace q24 : f 43 = (.pointer (some ⟨g, k * 6, none⟩)) := q24
        rw [q24] at hK ⊢
        go_simp
        exact hK _ _ (gb_reflT _ _) rfl (hX.step (by decide) (by decide) (by decide) (Below.refl _ _))
      · refine mono.dutyS_of rfl ?_
        intro f W L hR hO hD hL hi hX K hK
        have eL : mono.lit 82 f [] = ⟨#[f 0, f 1, f 2, f 3, f 4, f 5, f 6, f 7, f 8, f 9, f 10, f 11, f 12, f 13, f 14, f 15, f 16, f 17, f 18, f 19, f 20, f 21, f 22, f 23, f 24, f 25, f 26, f 27, f 28, f 29, f 30, f 31, f 32, f 33, f 34, f 35, f 36, f 37, f 38, f 39, f 40, f 41, f 42, f 43, f 44, f 45, f 46, f 47, f 48, f 49, f 50, f 51, f 52, f 53, f 54, f 55, f 56, f 57, f 58, f 59, f 60, f 61, f 62, f 63, f 64, f 65, f 66, f 67, f 68, f 69, f 70, f 71, f 72, f 73, f 74, f 75, f 76, f 77, f 78, f 79, f 80, f 81], []⟩ := rfl
        replace hK : ∀ v W', (fun W W' => World.grownBy W W' (some g)) W W' → phCa x (w.heap.size + 1 + 1) g (k * 6) ap kp ad kd ae ke 26 v W' → BxCo w (w.heap.size + 1 + 1) g kC cs uu k x (.slice ap x.ps.length kp) (.slice ad x.d.length kd) (.slice ae x.o.length ke)  (fun j => if j = 26 then true else L j) W' → K ((mono.lit 82 f []).put none v) W' := hK
        rw [eL] at hK ⊢
        simp only [Act.put] at hK
        have q25 := hD 25 44 (by kernel_rfl) (by kernel_rfl)
        replace q25 : f 44 = (.pointer (some ⟨g, k * 6 + 3, none⟩)) := q25
        have q17 := hD 17 38 (by kernel_rfl) (by kernel_rfl)
        obtain ⟨a17, k17, e17, o17⟩ := q17
        rw [q25, e17] at hK ⊢
        have yf := hX.fz (k * 6 + 3)
        obtain ⟨yv, yc⟩ := hX.any3
        go_simp
        exact hK undef _ (grown_set _ _ _ _) trivial (hX.sto3 hgB' (hL 6 (by kernel_rfl)) (hL 11 (by kernel_rfl)) (hL 16 (by kernel_rfl)) o17)
      · intro f W L hR hO hD hDn hX
        have r0 := hO 0 (by kernel_rfl)
        have r1 := hO 1 (by kernel_rfl)
        have r2 := hO 2 (by kernel_rfl)
        have r3 := hO 3 (by kernel_rfl)
        have r4 := hO 4 (by kernel_rfl)
        have r5 := hO 5 (by kernel_rfl)
        have r6 := hO 6 (by kernel_rfl)
        have r7 := hO 7 (by kernel_rfl)
        have r8 := hO 8 (by kernel_rfl)
        have r9 := hO 9 (by kernel_rfl)
        have r10 := hO 10 (by kernel_rfl)
        have r11 := hO 11 (by kernel_rfl)
        have r12 := hO 12 (by kernel_rfl)
        have r13 := hO 13 (by kernel_rfl)
        have r14 := hO 14 (by kernel_rfl)
        have r15 := hO 15 (by kernel_rfl)
        have r16 := hO 16 (by kernel_rfl)
        have r17 := hO 17 (by kernel_rfl)
        have r18 := hO 18 (by kernel_rfl)
        have r19 := hO 19 (by kernel_rfl)
        have r20 := hO 20 (by kernel_rfl)
        have r45 := hO 45 (by kernel_rfl)
        have r46 := hO 46 (by kernel_rfl)
        have r47 := hO 47 (by kernel_rfl)
        have r48 := hO 48 (by kernel_rfl)
        have r49 := hO 49 (by kernel_rfl)
        have r50 := hO 50 (by kernel_rfl)
        have r51 := hO 51 (by kernel_rfl)
        have r52 := hO 52 (by kernel_rfl)
        have r53 := hO 53 (by kernel_rfl)
        have r54 := hO 54 (by kernel_rfl)
        have r55 := hO 55 (by kernel_rfl)
        have r56 := hO 56 (by kernel_rfl)
        have r57 := hO 57 (by kernel_rfl)
        have r58 := hO 58 (by kernel_rfl)
        have r59 := hO 59 (by kernel_rfl)
        have r60 := hO 60 (by kernel_rfl)
        have r61 := hO 61 (by kernel_rfl)
        have r62 := hO 62 (by kernel_rfl)
        have r63 := hO 63 (by kernel_rfl)
        have r64 := hO 64 (by kernel_rfl)
        have r65 := hO 65 (by kernel_rfl)
        have r66 := hO 66 (by kernel_rfl)
        have r67 := hO 67 (by kernel_rfl)
        have r68 := hO 68 (by kernel_rfl)
        have r69 := hO 69 (by kernel_rfl)
        have r70 := hO 70 (by kernel_rfl)
        have r71 := hO 71 (by kernel_rfl)
        have r72 := hO 72 (by kernel_rfl)
        have r73 := hO 73 (by kernel_rfl)
        have r74 := hO 74 (by kernel_rfl)
        have r75 := hO 75 (by kernel_rfl)
        have r76 := hO 76 (by kernel_rfl)
        have r77 := hO 77 (by kernel_rfl)
        have r78 := hO 78 (by kernel_rfl)
        have r79 := hO 79 (by kernel_rfl)
        have r80 := hO 80 (by kernel_rfl)
        have r81 := hO 81 (by kernel_rfl)
        have eL : mono.lit 82 f [] = ⟨#[f 0, f 1, f 2, f 3, f 4, f 5, f 6, f 7, f 8, f 9, f 10, f 11, f 12, f 13, f 14, f 15, f 16, f 17, f 18, f 19, f 20, f 21, f 22, f 23, f 24, f 25, f 26, f 27, f 28, f 29, f 30, f 31, f 32, f 33, f 34, f 35, f 36, f 37, f 38, f 39, f 40, f 41, f 42, f 43, f 44, f 45, f 46, f 47, f 48, f 49, f 50, f 51, f 52, f 53, f 54, f 55, f 56, f 57, f 58, f 59, f 60, f 61, f 62, f 63, f 64, f 65, f 66, f 67, f 68, f 69, f 70, f 71, f 72, f 73, f 74, f 75, f 76, f 77, f 78, f 79, f 80, f 81], []⟩ := rfl
        rw [eL, r0, r1, r2, r3, r4, r5, r6, r7, r8, r9, r10, r11, r12, r13, r14, r15, r16, r17, r18, r19, r20, r45, r46, r47, r48, r49, r50, r51, r52, r53, r54, r55, r56, r57, r58, r59, r60, r61, r62, r63, r64, r65, r66, r67, r68, r69, r70, r71, r72, r73, r74, r75, r76, r77, r78, r79, r80, r81]
        obtain ⟨a, b, c, hrow, -, ha, -, hb, -, hc⟩ := hX.rows
        obtain ⟨ha, -⟩ := ha (hDn 20 (by decide))
        obtain ⟨hb, -⟩ := hb (hDn 23 (by decide))
        obtain ⟨hc, -⟩ := hc (hDn 26 (by decide))
        have hbel := hX.bel
        have hrk := rk_own (W := wr.drew) (W' := W) hcK.row hR
        have hLn : Lc w nc nb cs bs us (.slice (some ⟨g, 0, none⟩) cs.length kC) (.slice a2 bs.length k2) (.slice a3 us.length k3) (uu.set k (a, b, c)) (k + 1) W := by
          refine ⟨(hR.block _ (heap_lt hL.p) (fun e => by simp at e; omega)).trans hL.p, (hR.block _ (heap_lt hL.r) (fun e => by simp at e; omega)).trans hL.r, ⟨by simpa using hcK.ul, hrow, fun i y u hi hy hz => ?_, fun i y u hi hy hz => ?_⟩, hbel⟩
          · by_cases hik : i = k
            · subst hik
              rw [List.getElem?_set_self (List.getElem?_eq_some_iff.1 hu).1] at hz
              cases hz
              rw [hxk] at hy
              cases hy
              exact ⟨ha, hb, hc⟩
            · rw [List.getElem?_set_ne (by omega)] at hz
              obtain ⟨i1, i2, i3⟩ := hcK.new i y u (by omega) hy hz
              exact ⟨hrk _ _ _ _ _ _ (by decide) i1, hrk _ _ _ _ _ _ (by decide) i2, hrk _ _ _ _ _ _ (by decide) i3⟩
          · rw [List.getElem?_set_ne (by omega)] at hz
            exact hcK.old i y u (by omega) hy hz
        clear hX hR hO hD hDn hrow ha hb hc hrk hBx hcK hL
        go_wp2_with fail
        exact ⟨⟨_, _, .int .i64 ((k + 1 : Nat) : Int), ⟨k + 1, by omega, rfl, _, hLn⟩, rfl, rfl, by go_num⟩, by simp [Go.RowKit.intOf]; omega⟩
    · have hlt' : ¬ (k : Int) < (cs.length : Int) := by omega
      have hoC' := hL.c.own (by omega)
      have hp4 := hL.p
      have hr4 := hL.r
      have hb4 := hL.b
      clear hL hco hoC
      have hz4 : w.heap.size + 1 + 1 ≤ wr.heap.size := by have := heap_lt hr4; omega
      go_upto_region 8 with fail
      clear x0 x1 x2 x3 x4
      obtain ⟨x0, x1, x2, x3, x4⟩ := cellsSB hp4
      go_wp2_with fail
      refine (cB wr hb4).mono ?_
      rintro e w5 ⟨u, rfl, ho5, hb5⟩
      obtain ⟨aB, kB, rfl⟩ := own_form ho5
      have hp5 := hp4.below hb5
      have hr5 := hr4.below hb5
      have hbb5 := hb4.trans (hb5.mono hb4.size)
      have hoC5 : OwCo w5 (w.heap.size + 1 + 1) (.slice aC cs.length kC) cs uu := hoC'.rk (rk_below hb5 26) (by decide) (by decide) (by decide)
      have ho5' := own_lower ho5 hz4
      clear x0 x1 x2 x3 x4 cB hp4 hr4 hb5 hb4 hoC' ho5
      obtain ⟨x0, x1, x2, x3, x4⟩ := cellsSB hp5
      obtain ⟨f0, f1, f2, f3, f4⟩ := frzS hp5
      go_upto_region 9 with fail
      have hp6 := heap_setCell hp5 3 (.slice aB bs.length kB)
      have hr6 := (Below.heap_setCell w5 ⟨w.heap.size, 3, none⟩ (.slice aB bs.length kB) (w.heap.size + 1) (by simp)).trans hr5
      have hk6 := rk_set (x := .slice aB bs.length kB) (j := 3) hp5
      have ho6 := hk6 _ _ _ _ _ _ (by decide) ho5'
      have hoC6 : OwCo (w5.setCell ⟨w.heap.size, 3, none⟩ (.slice aB bs.length kB)) (w.heap.size + 1 + 1) (.slice aC cs.length kC) cs uu := hoC5.rk hk6 (by decide) (by decide) (by decide)
      have hbb6 := hbb5.setCell (p := ⟨w.heap.size, 3, none⟩) (Nat.le_refl _) (.slice aB bs.length kB)
      have hL0 : Lb w nc nb cs bs us (.slice aC cs.length kC) (.slice aB bs.length kB) (.slice a3 us.length k3) uu ls0 0 (w5.setCell ⟨w.heap.size, 3, none⟩ (.slice aB bs.length kB)) :=
        ⟨hp6, hr6, hoC6, ⟨hll, ho6, fun i x u hi => by omega, fun i x u _ hi hu => hoB i x u hi hu⟩, hbb6⟩
      clear hp6 hr6 ho6 hbb6 hp5 hr5 hbb5 x0 x1 x2 x3 x4 f0 f1 f2 f3 f4 ho5' hoC5 hoC6 hk6 hz4
      generalize w5.setCell ⟨w.heap.size, 3, none⟩ (.slice aB bs.length kB) = w6 at *
      obtain ⟨x0, x1, x2, x3, x4⟩ := cellsSB hL0.p
      go_upto_region 10 with fail
      clear x0 x1 x2 x3 x4
      obtain ⟨cu, ecu⟩ : ∃ cu, cu = uu := ⟨_, rfl⟩
      rw [← ecu] at hL0
      clear ecu
      go_loopw [53] (fun i wr => ∃ (k : Nat) (uu : List Value), k ≤ bs.length ∧ i = .int .i64 (k : Int) ∧ Lb w nc nb cs bs us (.slice aC cs.length kC) (.slice aB bs.length kB) (.slice a3 us.length k3) cu uu k wr) (fun i _ => bs.length - (Go.RowKit.intOf i).toNat)
      case atStart => exact ⟨0, ls0, by omega, rfl, hL0⟩
      case round =>
        clear hL0 hlt hlt' hk
        obtain ⟨k, uu, hk, rfl, hL⟩ := hrel
        obtain ⟨x0, x1, x2, x3, x4⟩ := cellsSB hL.p
        by_cases hlt : k < bs.length
        · have hlt' : (k : Int) < (bs.length : Int) := by omega
          obtain ⟨g, rfl, hgB, hgl, hgf⟩ := own_block hL.br.row (by omega)
          have hcK := hL.br
          obtain ⟨u0, hu⟩ : ∃ u, uu[k]? = some u := ⟨uu[k]'(by rw [hcK.ul]; exact hlt), by simp⟩
          have hxk : bs[k]? = some bs[k] := by simp [hlt]
          have hxu := hbr bs[k] (List.getElem_mem hlt)
          generalize bs[k] = x at *
          have hp := hcK.old k x u0 (Nat.le_refl _) hxk hu
          have hpl := hxu.2.1.1
          have hnm : x.nm.size ≤ 140737488355328 := hxu.1.nm
          obtain ⟨ap, kp, rfl⟩ := rdi_len hp
          have hBx : BxBr w (w.heap.size + 1 + 1) g kB bs uu k x (.slice ap x.lg.length kp) (fun _ => false) wr.drew :=
            ⟨Below.drew hL.b, by show _ ≤ wr.heap.size; omega, hcK.ul, hxk, ⟨_, by rw [setL_self hu]; exact hcK.row, fun _ => rfl, fun e => (by cases e)⟩, fun e => by simp at e⟩
          have hgB' : w.heap.size ≤ g := by omega
          go_upto_region 13 with fail
          clear x0 x1 x2 x3 x4
          refine mono.region_monoS (fun W W' => World.grownBy W W' (some g)) (gb_reflT g) (fun _ _ _ => gb_transT) (phCb x (w.heap.size + 1 + 1) g (k * 3) ap kp) (BxBr w (w.heap.size + 1 + 1) g kB bs uu k x (.slice ap x.lg.length kp) ) 82 [] [0, 1, 2, 3, 4, 5, 6, 7, 8, 9, 10, 11, 12, 13, 14, 15, 16, 17] (by kernel_rfl) rfl rfl (by kernel_rfl) [] (by kernel_rfl) (by simp) (phCb_stays) (hBx) (.cons ?_ (.cons ?_ (.cons ?_ (.cons ?_ (.cons ?_ (.cons ?_ (.cons ?_ (.cons ?_ (.cons ?_ (.cons ?_ (.cons ?_ (.cons ?_ (.cons ?_ (.cons ?_ (.cons ?_ (.cons ?_ (.cons ?_ (.cons ?_ (.nil))))))))))))))))))) ?_
          · refine mono.dutyS_of rfl ?_
            intro f W L hR hO hD hL hi hX K hK
            have eL : mono.lit 82 f [] = ⟨#[f 0, f 1, f 2, f 3, f 4, f 5, f 6, f 7, f 8, f 9, f 10, f 11, f 12, f 13, f 14, f 15, f 16, f 17, f 18, f 19, f 20, f 21, f 22, f 23, f 24, f 25, f 26, f 27, f 28, f 29, f 30, f 31, f 32, f 33, f 34, f 35, f 36, f 37, f 38, f 39, f 40, f 41, f 42, f 43, f 44, f 45, f 46, f 47, f 48, f 49, f 50, f 51, f 52, f 53, f 54, f 55, f 56, f 57, f 58, f 59, f 60, f 61, f 62, f 63, f 64, f 65, f 66, f 67, f 68, f 69, f 70, f 71, f 72, f 73, f 74, f 75, f 76, f 77, f 78, f 79, f 80, f 81], []⟩ := rfl
            replace hK : ∀ v W', (fun W W' => World.grownBy W W' (some g)) W W' → phCb x (w.heap.size + 1 + 1) g (k * 3) ap kp 0 v W' → BxBr w (w.heap.size + 1 + 1) g kB bs uu k x (.slice ap x.lg.length kp)  (fun j => if j = 0 then true else L j) W' → K ((mono.lit 82 f []).put (some 60) v) W' := hK
            rw [eL] at hK ⊢
            simp only [Act.put, List.setIfInBounds_toArray, List.set_cons_succ, List.set_cons_zero] at hK
            have o6 : f 6 = (.pointer (some ⟨g, k * 3, none⟩)) := hO 6 (by kernel_rfl)
            rw [o6] at hK ⊢
            go_simp
            exact hK _ _ (gb_reflT _ _) rfl (hX.step (by decide) (Below.refl _ _))
          · refine mono.dutyS_of rfl ?_
            intro f W L hR hO hD hL hi hX K hK
            have eL : mono.lit 82 f [] = ⟨#[f 0, f 1, f 2, f 3, f 4, f 5, f 6, f 7, f 8, f 9, f 10, f 11, f 12, f 13, f 14, f 15, f 16, f 17, f 18, f 19, f 20, f 21, f 22, f 23, f 24, f 25, f 26, f 27, f 28, f 29, f 30, f 31, f 32, f 33, f 34, f 35, f 36, f 37, f 38, f 39, f 40, f 41, f 42, f 43, f 44, f 45, f 46, f 47, f 48, f 49, f 50, f 51, f 52, f 53, f 54, f 55, f 56, f 57, f 58, f 59, f 60, f 61, f 62, f 63, f 64, f 65, f 66, f 67, f 68, f 69, f 70, f 71, f 72, f 73, f 74, f 75, f 76, f 77, f 78, f 79, f 80, f 81], []⟩ := rfl
            replace hK : ∀ v W', (fun W W' => World.grownBy W W' (some g)) W W' → phCb x (w.heap.size + 1 + 1) g (k * 3) ap kp 1 v W' → BxBr w (w.heap.size + 1 + 1) g kB bs uu k x (.slice ap x.lg.length kp)  (fun j => if j = 1 then true else L j) W' → K ((mono.lit 82 f []).put (some 61) v) W' := hK
            rw [eL] at hK ⊢
            simp only [Act.put, List.setIfInBounds_toArray, List.set_cons_succ, List.set_cons_zero] at hK
            have o6 : f 6 = (.pointer (some ⟨g, k * 3, none⟩)) := hO 6 (by kernel_rfl)
            rw [o6] at hK ⊢
            go_simp
            exact hK _ _ (gb_reflT _ _) rfl (hX.step (by decide) (Below.refl _ _))
          · refine mono.dutyS_of rfl ?_
            intro f W L hR hO hD hL hi hX K hK
            have eL : mono.lit 82 f [] = ⟨#[f 0, f 1, f 2, f 3, f 4, f 5, f 6, f 7, f 8, f 9, f 10, f 11, f 12, f 13, f 14, f 15, f 16, f 17, f 18, f 19, f 20, f 21, f 22, f 23, f 24, f 25, f 26, f 27, f 28, f 29, f 30, f 31, f 32, f 33, f 34, f 35, f 36, f 37, f 38, f 39, f 40, f 41, f 42, f 43, f 44, f 45, f 46, f 47, f 48, f 49, f 50, f 51, f 52, f 53, f 54, f 55, f 56, f 57, f 58, f 59, f 60, f 61, f 62, f 63, f 64, f 65, f 66, f 67, f 68, f 69, f 70, f 71, f 72, f 73, f 74, f 75, f 76, f 77, f 78, f 79, f 80, f 81], []⟩ := rfl
            replace hK : ∀ v W', (fun W W' => World.grownBy W W' (some g)) W W' → phCb x (w.heap.size + 1 + 1) g (k * 3) ap kp 2 v W' → BxBr w (w.heap.size + 1 + 1) g kB bs uu k x (.slice ap x.lg.length kp)  (fun j => if j = 2 then true else L j) W' → K ((mono.lit 82 f []).put (some 62) v) W' := hK
            rw [eL] at hK ⊢
            simp only [Act.put, List.setIfInBounds_toArray, List.set_cons_succ, List.set_cons_zero] at hK
            have o6 : f 6 = (.pointer (some ⟨g, k * 3, none⟩)) := hO 6 (by kernel_rfl)
            rw [o6] at hK ⊢
            go_simp
            exact hK _ _ (gb_reflT _ _) rfl (hX.step (by decide) (Below.refl _ _))
          · refine mono.dutyS_of rfl ?_
            intro f W L hR hO hD hL hi hX K hK
            have eL : mono.lit 82 f [] = ⟨#[f 0, f 1, f 2, f 3, f 4, f 5, f 6, f 7, f 8, f 9, f 10, f 11, f 12, f 13, f 14, f 15, f 16, f 17, f 18, f 19, f 20, f 21, f 22, f 23, f 24, f 25, f 26, f 27, f 28, f 29, f 30, f 31, f 32, f 33, f 34, f 35, f 36, f 37, f 38, f 39, f 40, f 41, f 42, f 43, f 44, f 45, f 46, f 47, f 48, f 49, f 50, f 51, f 52, f 53, f 54, f 55, f 56, f 57, f 58, f 59, f 60, f 61, f 62, f 63, f 64, f 65, f 66, f 67, f 68, f 69, f 70, f 71, f 72, f 73, f 74, f 75, f 76, f 77, f 78, f 79, f 80, f 81], []⟩ := rfl
            replace hK : ∀ v W', (fun W W' => World.grownBy W W' (some g)) W W' → phCb x (w.heap.size + 1 + 1) g (k * 3) ap kp 3 v W' → BxBr w (w.heap.size + 1 + 1) g kB bs uu k x (.slice ap x.lg.length kp)  (fun j => if j = 3 then true else L j) W' → K ((mono.lit 82 f []).put (some 63) v) W' := hK
            rw [eL] at hK ⊢
            simp only [Act.put, List.setIfInBounds_toArray, List.set_cons_succ, List.set_cons_zero] at hK
            have q2 := hD 2 62 (by kernel_rfl) (by kernel_rfl)
            replace q2 : f 62 = (.pointer (some ⟨g, k * 3, none⟩)) := q2
            rw [q2] at hK ⊢
            go_simp
            exact hK _ _ (gb_reflT _ _) rfl (hX.step (by decide) (Below.refl _ _))
          · refine mono.dutyS_of rfl ?_
            intro f W L hR hO hD hL hi hX K hK
            have eL : mono.lit 82 f [] = ⟨#[f 0, f 1, f 2, f 3, f 4, f 5, f 6, f 7, f 8, f 9, f 10, f 11, f 12, f 13, f 14, f 15, f 16, f 17, f 18, f 19, f 20, f 21, f 22, f 23, f 24, f 25, f 26, f 27, f 28, f 29, f 30, f 31, f 32, f 33, f 34, f 35, f 36, f 37, f 38, f 39, f 40, f 41, f 42, f 43, f 44, f 45, f 46, f 47, f 48, f 49, f 50, f 51, f 52, f 53, f 54, f 55, f 56, f 57, f 58, f 59, f 60, f 61, f 62, f 63, f 64, f 65, f 66, f 67, f 68, f 69, f 70, f 71, f 72, f 73, f 74, f 75, f 76, f 77, f 78, f 79, f 80, f 81], []⟩ := rfl
            replace hK : ∀ v W', (fun W W' => World.grownBy W W' (some g)) W W' → phCb x (w.heap.size + 1 + 1) g (k * 3) ap kp 4 v W' → BxBr w (w.heap.size + 1 + 1) g kB bs uu k x (.slice ap x.lg.length kp)  (fun j => if j = 4 then true else L j) W' → K ((mono.lit 82 f []).put (some 64) v) W' := hK
            rw [eL] at hK ⊢
            simp only [Act.put, List.setIfInBounds_toArray, List.set_cons_succ, List.set_cons_zero] at hK
            have q3 := hD 3 63 (by kernel_rfl) (by kernel_rfl)
            replace q3 : f 63 = (.pointer (some ⟨g, k * 3, none⟩)) := q3
            rw [q3] at hK ⊢
            go_simp
            exact hK _ _ (gb_reflT _ _) rfl (hX.step (by decide) (Below.refl _ _))
          · refine mono.dutyS_of rfl ?_
            intro f W L hR hO hD hL hi hX K hK
            have eL : mono.lit 82 f [] = ⟨#[f 0, f 1, f 2, f 3, f 4, f 5, f 6, f 7, f 8, f 9, f 10, f 11, f 12, f 13, f 14, f 15, f 16, f 17, f 18, f 19, f 20, f 21, f 22, f 23, f 24, f 25, f 26, f 27, f 28, f 29, f 30, f 31, f 32, f 33, f 34, f 35, f 36, f 37, f 38, f 39, f 40, f 41, f 42, f 43, f 44, f 45, f 46, f 47, f 48, f 49, f 50, f 51, f 52, f 53, f 54, f 55, f 56, f 57, f 58, f 59, f 60, f 61, f 62, f 63, f 64, f 65, f 66, f 67, f 68, f 69, f 70, f 71, f 72, f 73, f 74, f 75, f 76, f 77, f 78, f 79, f 80, f 81], []⟩ := rfl
            replace hK : ∀ v W', (fun W W' => World.grownBy W W' (some g)) W W' → phCb x (w.heap.size + 1 + 1) g (k * 3) ap kp 5 v W' → BxBr w (w.heap.size + 1 + 1) g kB bs uu k x (.slice ap x.lg.length kp)  (fun j => if j = 5 then true else L j) W' → K ((mono.lit 82 f []).put (some 65) v) W' := hK
            rw [eL] at hK ⊢
            simp only [Act.put, List.setIfInBounds_toArray, List.set_cons_succ, List.set_cons_zero] at hK
            have q4 := hD 4 64 (by kernel_rfl) (by kernel_rfl)
            replace q4 : f 64 = (.pointer (some ⟨g, k * 3 + 1, none⟩)) := q4
            rw [q4] at hK ⊢
            have y1 := hX.c1
            go_simp
            exact hK _ _ (gb_reflT _ _) rfl (hX.step (by decide) (Below.refl _ _))
          · refine mono.dutyS_of rfl ?_
            intro f W L hR hO hD hL hi hX K hK
            have eL : mono.lit 82 f [] = ⟨#[f 0, f 1, f 2, f 3, f 4, f 5, f 6, f 7, f 8, f 9, f 10, f 11, f 12, f 13, f 14, f 15, f 16, f 17, f 18, f 19, f 20, f 21, f 22, f 23, f 24, f 25, f 26, f 27, f 28, f 29, f 30, f 31, f 32, f 33, f 34, f 35, f 36, f 37, f 38, f 39, f 40, f 41, f 42, f 43, f 44, f 45, f 46, f 47, f 48, f 49, f 50, f 51, f 52, f 53, f 54, f 55, f 56, f 57, f 58, f 59, f 60, f 61, f 62, f 63, f 64, f 65, f 66, f 67, f 68, f 69, f 70, f 71, f 72, f 73, f 74, f 75, f 76, f 77, f 78, f 79, f 80, f 81], []⟩ := rfl
            replace hK : ∀ v W', (fun W W' => World.grownBy W W' (some g)) W W' → phCb x (w.heap.size + 1 + 1) g (k * 3) ap kp 6 v W' → BxBr w (w.heap.size + 1 + 1) g kB bs uu k x (.slice ap x.lg.length kp)  (fun j => if j = 6 then true else L j) W' → K ((mono.lit 82 f []).put (some 66) v) W' := hK
            rw [eL] at hK ⊢
            simp only [Act.put, List.setIfInBounds_toArray, List.set_cons_succ, List.set_cons_zero] at hK
            have q5 := hD 5 65 (by kernel_rfl) (by kernel_rfl)
            replace q5 : f 65 = (.string x.nm) := q5
            rw [q5] at hK ⊢
            have cX := clone_all x.nm W hnm
            go_simp
            refine cX.mono ?_
            rintro e w9 ⟨rfl, hb⟩
            exact hK _ _ (gq_below hb) rfl (hX.step (by decide) hb)
          · refine mono.dutyS_of rfl ?_
            intro f W L hR hO hD hL hi hX K hK
            have eL : mono.lit 82 f [] = ⟨#[f 0, f 1, f 2, f 3, f 4, f 5, f 6, f 7, f 8, f 9, f 10, f 11, f 12, f 13, f 14, f 15, f 16, f 17, f 18, f 19, f 20, f 21, f 22, f 23, f 24, f 25, f 26, f 27, f 28, f 29, f 30, f 31, f 32, f 33, f 34, f 35, f 36, f 37, f 38, f 39, f 40, f 41, f 42, f 43, f 44, f 45, f 46, f 47, f 48, f 49, f 50, f 51, f 52, f 53, f 54, f 55, f 56, f 57, f 58, f 59, f 60, f 61, f 62, f 63, f 64, f 65, f 66, f 67, f 68, f 69, f 70, f 71, f 72, f 73, f 74, f 75, f 76, f 77, f 78, f 79, f 80, f 81], []⟩ := rfl
            replace hK : ∀ v W', (fun W W' => World.grownBy W W' (some g)) W W' → phCb x (w.heap.size + 1 + 1) g (k * 3) ap kp 7 v W' → BxBr w (w.heap.size + 1 + 1) g kB bs uu k x (.slice ap x.lg.length kp)  (fun j => if j = 7 then true else L j) W' → K ((mono.lit 82 f []).put (some 67) v) W' := hK
            rw [eL] at hK ⊢
            simp only [Act.put, List.setIfInBounds_toArray, List.set_cons_succ, List.set_cons_zero] at hK
            have o6 : f 6 = (.pointer (some ⟨g, k * 3, none⟩)) := hO 6 (by kernel_rfl)
            rw [o6] at hK ⊢
            go_simp
            exact hK _ _ (gb_reflT _ _) rfl (hX.step (by decide) (Below.refl _ _))
          · refine mono.dutyS_of rfl ?_
            intro f W L hR hO hD hL hi hX K hK
            have eL : mono.lit 82 f [] = ⟨#[f 0, f 1, f 2, f 3, f 4, f 5, f 6, f 7, f 8, f 9, f 10, f 11, f 12, f 13, f 14, f 15, f 16, f 17, f 18, f 19, f 20, f 21, f 22, f 23, f 24, f 25, f 26, f 27, f 28, f 29, f 30, f 31, f 32, f 33, f 34, f 35, f 36, f 37, f 38, f 39, f 40, f 41, f 42, f 43, f 44, f 45, f 46, f 47, f 48, f 49, f 50, f 51, f 52, f 53, f 54, f 55, f 56, f 57, f 58, f 59, f 60, f 61, f 62, f 63, f 64, f 65, f 66, f 67, f 68, f 69, f 70, f 71, f 72, f 73, f 74, f 75, f 76, f 77, f 78, f 79, f 80, f 81], []⟩ := rfl
            replace hK : ∀ v W', (fun W W' => World.grownBy W W' (some g)) W W' → phCb x (w.heap.size + 1 + 1) g (k * 3) ap kp 8 v W' → BxBr w (w.heap.size + 1 + 1) g kB bs uu k x (.slice ap x.lg.length kp)  (fun j => if j = 8 then true else L j) W' → K ((mono.lit 82 f []).put (some 68) v) W' := hK
            rw [eL] at hK ⊢
            simp only [Act.put, List.setIfInBounds_toArray, List.set_cons_succ, List.set_cons_zero] at hK
            have q7 := hD 7 67 (by kernel_rfl) (by kernel_rfl)
            replace q7 : f 67 = (.pointer (some ⟨g, k * 3, none⟩)) := q7
            rw [q7] at hK ⊢
            go_simp
            exact hK _ _ (gb_reflT _ _) rfl (hX.step (by decide) (Below.refl _ _))
          · refine mono.dutyS_of rfl ?_
            intro f W L hR hO hD hL hi hX K hK
            have eL : mono.lit 82 f [] = ⟨#[f 0, f 1, f 2, f 3, f 4, f 5, f 6, f 7, f 8, f 9, f 10, f 11, f 12, f 13, f 14, f 15, f 16, f 17, f 18, f 19, f 20, f 21, f 22, f 23, f 24, f 25, f 26, f 27, f 28, f 29, f 30, f 31, f 32, f 33, f 34, f 35, f 36, f 37, f 38, f 39, f 40, f 41, f 42, f 43, f 44, f 45, f 46, f 47, f 48, f 49, f 50, f 51, f 52, f 53, f 54, f 55, f 56, f 57, f 58, f 59, f 60, f 61, f 62, f 63, f 64, f 65, f 66, f 67, f 68, f 69, f 70, f 71, f 72, f 73, f 74, f 75, f 76, f 77, f 78, f 79, f 80, f 81], []⟩ := rfl
            replace hK : ∀ v W', (fun W W' => World.grownBy W W' (some g)) W W' → phCb x (w.heap.size + 1 + 1) g (k * 3) ap kp 9 v W' → BxBr w (w.heap.size + 1 + 1) g kB bs uu k x (.slice ap x.lg.length kp)  (fun j => if j = 9 then true else L j) W' → K ((mono.lit 82 f []).put (some 69) v) W' := hK
            rw [eL] at hK ⊢
            simp only [Act.put, List.setIfInBounds_toArray, List.set_cons_succ, List.set_cons_zero] at hK
            have q8 := hD 8 68 (by kernel_rfl) (by kernel_rfl)
            replace q8 : f 68 = (.pointer (some ⟨g, k * 3, none⟩)) := q8
            rw [q8] at hK ⊢
            go_simp
            exact hK _ _ (gb_reflT _ _) rfl (hX.step (by decide) (Below.refl _ _))
          · refine mono.dutyS_of rfl ?_
            intro f W L hR hO hD hL hi hX K hK
            have eL : mono.lit 82 f [] = ⟨#[f 0, f 1, f 2, f 3, f 4, f 5, f 6, f 7, f 8, f 9, f 10, f 11, f 12, f 13, f 14, f 15, f 16, f 17, f 18, f 19, f 20, f 21, f 22, f 23, f 24, f 25, f 26, f 27, f 28, f 29, f 30, f 31, f 32, f 33, f 34, f 35, f 36, f 37, f 38, f 39, f 40, f 41, f 42, f 43, f 44, f 45, f 46, f 47, f 48, f 49, f 50, f 51, f 52, f 53, f 54, f 55, f 56, f 57, f 58, f 59, f 60, f 61, f 62, f 63, f 64, f 65, f 66, f 67, f 68, f 69, f 70, f 71, f 72, f 73, f 74, f 75, f 76, f 77, f 78, f 79, f 80, f 81], []⟩ := rfl
            replace hK : ∀ v W', (fun W W' => World.grownBy W W' (some g)) W W' → phCb x (w.heap.size + 1 + 1) g (k * 3) ap kp 10 v W' → BxBr w (w.heap.size + 1 + 1) g kB bs uu k x (.slice ap x.lg.length kp)  (fun j => if j = 10 then true else L j) W' → K ((mono.lit 82 f []).put (some 70) v) W' := hK
            rw [eL] at hK ⊢
            simp only [Act.put, List.setIfInBounds_toArray, List.set_cons_succ, List.set_cons_zero] at hK
            have q9 := hD 9 69 (by kernel_rfl) (by kernel_rfl)
            replace q9 : f 69 = (.pointer (some ⟨g, k * 3 + 2, none⟩)) := q9
            rw [q9] at hK ⊢
            have y2 := hX.c2 hi
            go_simp
            exact hK _ _ (gb_reflT _ _) rfl (hX.step (by decide) (Below.refl _ _))
          · refine mono.dutyS_of rfl ?_
            intro f W L hR hO hD hL hi hX K hK
            have eL : mono.lit 82 f [] = ⟨#[f 0, f 1, f 2, f 3, f 4, f 5, f 6, f 7, f 8, f 9, f 10, f 11, f 12, f 13, f 14, f 15, f 16, f 17, f 18, f 19, f 20, f 21, f 22, f 23, f 24, f 25, f 26, f 27, f 28, f 29, f 30, f 31, f 32, f 33, f 34, f 35, f 36, f 37, f 38, f 39, f 40, f 41, f 42, f 43, f 44, f 45, f 46, f 47, f 48, f 49, f 50, f 51, f 52, f 53, f 54, f 55, f 56, f 57, f 58, f 59, f 60, f 61, f 62, f 63, f 64, f 65, f 66, f 67, f 68, f 69, f 70, f 71, f 72, f 73, f 74, f 75, f 76, f 77, f 78, f 79, f 80, f 81], []⟩ := rfl
            replace hK : ∀ v W', (fun W W' => World.grownBy W W' (some g)) W W' → phCb x (w.heap.size + 1 + 1) g (k * 3) ap kp 11 v W' → BxBr w (w.heap.size + 1 + 1) g kB bs uu k x (.slice ap x.lg.length kp)  (fun j => if j = 11 then true else L j) W' → K ((mono.lit 82 f []).put (some 71) v) W' := hK
            rw [eL] at hK ⊢
            simp only [Act.put, List.setIfInBounds_toArray, List.set_cons_succ, List.set_cons_zero] at hK
            have q10 := hD 10 70 (by kernel_rfl) (by kernel_rfl)
            replace q10 : f 70 = (.slice ap x.lg.length kp) := q10
            rw [q10] at hK ⊢
            have cX := cloneIn_any ap x.lg.length kp (ivs x.lg) W (src_ints (hp.below hX.bel)) hpl
            go_simp
            refine cX.mono ?_
            rintro e w9 ⟨u9, rfl, ho, hb⟩
            obtain ⟨a9, k9, rfl⟩ := own_form ho
            have hgW := hX.glt
            exact hK _ _ (gq_below hb) ⟨a9, k9, rfl, own_lower ho hX.sz, fun e => by have := (ho.lt g e).1; omega⟩ (hX.step (by decide) hb)
          · refine mono.dutyS_of rfl ?_
            intro f W L hR hO hD hL hi hX K hK
            have eL : mono.lit 82 f [] = ⟨#[f 0, f 1, f 2, f 3, f 4, f 5, f 6, f 7, f 8, f 9, f 10, f 11, f 12, f 13, f 14, f 15, f 16, f 17, f 18, f 19, f 20, f 21, f 22, f 23, f 24, f 25, f 26, f 27, f 28, f 29, f 30, f 31, f 32, f 33, f 34, f 35, f 36, f 37, f 38, f 39, f 40, f 41, f 42, f 43, f 44, f 45, f 46, f 47, f 48, f 49, f 50, f 51, f 52, f 53, f 54, f 55, f 56, f 57, f 58, f 59, f 60, f 61, f 62, f 63, f 64, f 65, f 66, f 67, f 68, f 69, f 70, f 71, f 72, f 73, f 74, f 75, f 76, f 77, f 78, f 79, f 80, f 81], []⟩ := rfl
            replace hK : ∀ v W', (fun W W' => World.grownBy W W' (some g)) W W' → phCb x (w.heap.size + 1 + 1) g (k * 3) ap kp 12 v W' → BxBr w (w.heap.size + 1 + 1) g kB bs uu k x (.slice ap x.lg.length kp)  (fun j => if j = 12 then true else L j) W' → K ((mono.lit 82 f []).put (some 72) v) W' := hK
            rw [eL] at hK ⊢
            simp only [Act.put, List.setIfInBounds_toArray, List.set_cons_succ, List.set_cons_zero] at hK
            have q0 := hD 0 60 (by kernel_rfl) (by kernel_rfl)
            replace q0 : f 60 = (.pointer (some ⟨g, k * 3, none⟩)) := q0
            rw [q0] at hK ⊢
            go_simp
            exact hK _ _ (gb_reflT _ _) rfl (hX.step (by decide) (Below.refl _ _))
          · refine mono.dutyS_of rfl ?_
            intro f W L hR hO hD hL hi hX K hK
            have eL : mono.lit 82 f [] = ⟨#[f 0, f 1, f 2, f 3, f 4, f 5, f 6, f 7, f 8, f 9, f 10, f 11, f 12, f 13, f 14, f 15, f 16, f 17, f 18, f 19, f 20, f 21, f 22, f 23, f 24, f 25, f 26, f 27, f 28, f 29, f 30, f 31, f 32, f 33, f 34, f 35, f 36, f 37, f 38, f 39, f 40, f 41, f 42, f 43, f 44, f 45, f 46, f 47, f 48, f 49, f 50, f 51, f 52, f 53, f 54, f 55, f 56, f 57, f 58, f 59, f 60, f 61, f 62, f 63, f 64, f 65, f 66, f 67, f 68, f 69, f 70, f 71, f 72, f 73, f 74, f 75, f 76, f 77, f 78, f 79, f 80, f 81], []⟩ := rfl
            replace hK : ∀ v W', (fun W W' => World.grownBy W W' (some g)) W W' → phCb x (w.heap.size + 1 + 1) g (k * 3) ap kp 13 v W' → BxBr w (w.heap.size + 1 + 1) g kB bs uu k x (.slice ap x.lg.length kp)  (fun j => if j = 13 then true else L j) W' → K ((mono.lit 82 f []).put (some 73) v) W' := hK
            rw [eL] at hK ⊢
            simp only [Act.put, List.setIfInBounds_toArray, List.set_cons_succ, List.set_cons_zero] at hK
            have q12 := hD 12 72 (by kernel_rfl) (by kernel_rfl)
            replace q12 : f 72 = (.pointer (some ⟨g, k * 3, none⟩)) := q12
            rw [q12] at hK ⊢
            go_simp
            exact hK _ _ (gb_reflT _ _) rfl (hX.step (by decide) (Below.refl _ _))
          · refine mono.dutyS_of rfl ?_
            intro f W L hR hO hD hL hi hX K hK
            have eL : mono.lit 82 f [] = ⟨#[f 0, f 1, f 2, f 3, f 4, f 5, f 6, f 7, f 8, f 9, f 10, f 11, f 12, f 13, f 14, f 15, f 16, f 17, f 18, f 19, f 20, f 21, f 22, f 23, f 24, f 25, f 26, f 27, f 28, f 29, f 30, f 31, f 32, f 33, f 34, f 35, f 36, f 37, f 38, f 39, f 40, f 41, f 42, f 43, f 44, f 45, f 46, f 47, f 48, f 49, f 50, f 51, f 52, f 53, f 54, f 55, f 56, f 57, f 58, f 59, f 60, f 61, f 62, f 63, f 64, f 65, f 66, f 67, f 68, f 69, f 70, f 71, f 72, f 73, f 74, f 75, f 76, f 77, f 78, f 79, f 80, f 81], []⟩ := rfl
            replace hK : ∀ v W', (fun W W' => World.grownBy W W' (some g)) W W' → phCb x (w.heap.size + 1 + 1) g (k * 3) ap kp 14 v W' → BxBr w (w.heap.size + 1 + 1) g kB bs uu k x (.slice ap x.lg.length kp)  (fun j => if j = 14 then true else L j) W' → K ((mono.lit 82 f []).put none v) W' := hK
            rw [eL] at hK ⊢
            simp only [Act.put] at hK
            have q13 := hD 13 73 (by kernel_rfl) (by kernel_rfl)
            replace q13 : f 73 = (.pointer (some ⟨g, k * 3 + 1, none⟩)) := q13
            have q6 := hD 6 66 (by kernel_rfl) (by kernel_rfl)
            replace q6 : f 66 = (.string x.nm) := q6
            rw [q13, q6] at hK ⊢
            have yf := hX.fz (k * 3 + 1)
            have yc := hX.c1
            have ys := setCell_self yc
            go_simp
            exact hK undef _ (gb_reflT _ _) trivial (hX.step (by decide) (Below.refl _ _))
          · refine mono.dutyS_of rfl ?_
            intro f W L hR hO hD hL hi hX K hK
            have eL : mono.lit 82 f [] = ⟨#[f 0, f 1, f 2, f 3, f 4, f 5, f 6, f 7, f 8, f 9, f 10, f 11, f 12, f 13, f 14, f 15, f 16, f 17, f 18, f 19, f 20, f 21, f 22, f 23, f 24, f 25, f 26, f 27, f 28, f 29, f 30, f 31, f 32, f 33, f 34, f 35, f 36, f 37, f 38, f 39, f 40, f 41, f 42, f 43, f 44, f 45, f 46, f 47, f 48, f 49, f 50, f 51, f 52, f 53, f 54, f 55, f 56, f 57, f 58, f 59, f 60, f 61, f 62, f 63, f 64, f 65, f 66, f 67, f 68, f 69, f 70, f 71, f 72, f 73, f 74, f 75, f 76, f 77, f 78, f 79, f 80, f 81], []⟩ := rfl
            replace hK : ∀ v W', (fun W W' => World.grownBy W W' (some g)) W W' → phCb x (w.heap.size + 1 + 1) g (k * 3) ap kp 15 v W' → BxBr w (w.heap.size + 1 + 1) g kB bs uu k x (.slice ap x.lg.length kp)  (fun j => if j = 15 then true else L j) W' → K ((mono.lit 82 f []).put (some 74) v) W' := hK
            rw [eL] at hK ⊢
            simp only [Act.put, List.setIfInBounds_toArray, List.set_cons_succ, List.set_cons_zero] at hK
            have q1 := hD 1 61 (by kernel_rfl) (by kernel_rfl)
            replace q1 : f 61 = (.pointer (some ⟨g, k * 3, none⟩)) := q1
            rw [q1] at hK ⊢
            go_simp
            exact hK _ _ (gb_reflT _ _) rfl (hX.step (by decide) (Below.refl _ _))
          · refine mono.dutyS_of rfl ?_
            intro f W L hR hO hD hL hi hX K hK
            have eL : mono.lit 82 f [] = ⟨#[f 0, f 1, f 2, f 3, f 4, f 5, f 6, f 7, f 8, f 9, f 10, f 11, f 12, f 13, f 14, f 15, f 16, f 17, f 18, f 19, f 20, f 21, f 22, f 23, f 24, f 25, f 26, f 27, f 28, f 29, f 30, f 31, f 32, f 33, f 34, f 35, f 36, f 37, f 38, f 39, f 40, f 41, f 42, f 43, f 44, f 45, f 46, f 47, f 48, f 49, f 50, f 51, f 52, f 53, f 54, f 55, f 56, f 57, f 58, f 59, f 60, f 61, f 62, f 63, f 64, f 65, f 66, f 67, f 68, f 69, f 70, f 71, f 72, f 73, f 74, f 75, f 76, f 77, f 78, f 79, f 80, f 81], []⟩ := rfl
            replace hK : ∀ v W', (fun W W' => World.grownBy W W' (some g)) W W' → phCb x (w.heap.size + 1 + 1) g (k * 3) ap kp 16 v W' → BxBr w (w.heap.size + 1 + 1) g kB bs uu k x (.slice ap x.lg.length kp)  (fun j => if j = 16 then true else L j) W' → K ((mono.lit 82 f []).put (some 75) v) W' := hK
            rw [eL] at hK ⊢
            simp only [Act.put, List.setIfInBounds_toArray, List.set_cons_succ, List.set_cons_zero] at hK
            have q15 := hD 15 74 (by kernel_rfl) (by kernel_rfl)
            replace q15 : f 74 = (.pointer (some ⟨g, k * 3, none⟩)) := q15
            rw [q15] at hK ⊢
            go_simp
            exact hK _ _ (gb_reflT _ _) rfl (hX.step (by decide) (Below.refl _ _))
          · refine mono.dutyS_of rfl ?_
            intro f W L hR hO hD hL hi hX K hK
            have eL : mono.lit 82 f [] = ⟨#[f 0, f 1, f 2, f 3, f 4, f 5, f 6, f 7, f 8, f 9, f 10, f 11, f 12, f 13, f 14, f 15, f 16, f 17, f 18, f 19, f 20, f 21, f 22, f 23, f 24, f 25, f 26, f 27, f 28, f 29, f 30, f 31, f 32, f 33, f 34, f 35, f 36, f 37, f 38, f 39, f 40, f 41, f 42, f 43, f 44, f 45, f 46, f 47, f 48, f 49, f 50, f 51, f 52, f 53, f 54, f 55, f 56, f 57, f 58, f 59, f 60, f 61, f 62, f 63, f 64, f 65, f 66, f 67, f 68, f 69, f 70, f 71, f 72, f 73, f 74, f 75, f 76, f 77, f 78, f 79, f 80, f 81], []⟩ := rfl
            replace hK : ∀ v W', (fun W W' => World.grownBy W W' (some g)) W W' → phCb x (w.heap.size + 1 + 1) g (k * 3) ap kp 17 v W' → BxBr w (w.heap.size + 1 + 1) g kB bs uu k x (.slice ap x.lg.length kp)  (fun j => if j = 17 then true else L j) W' → K ((mono.lit 82 f []).put none v) W' := hK
            rw [eL] at hK ⊢
            simp only [Act.put] at hK
            have q16 := hD 16 75 (by kernel_rfl) (by kernel_rfl)
            replace q16 : f 75 = (.pointer (some ⟨g, k * 3 + 2, none⟩)) := q16
            have q11 := hD 11 71 (by kernel_rfl) (by kernel_rfl)
            obtain ⟨a11, k11, e11, o11⟩ := q11
            rw [q16, e11] at hK ⊢
            have yf := hX.fz (k * 3 + 2)
            obtain ⟨yv, yc⟩ := hX.any2
            go_simp
            exact hK undef _ (grown_set _ _ _ _) trivial (hX.sto hgB' (hL 10 (by kernel_rfl)) o11)
          · intro f W L hR hO hD hDn hX
            have r0 := hO 0 (by kernel_rfl)
            have r1 := hO 1 (by kernel_rfl)
            have r2 := hO 2 (by kernel_rfl)
            have r3 := hO 3 (by kernel_rfl)
            have r4 := hO 4 (by kernel_rfl)
            have r5 := hO 5 (by kernel_rfl)
            have r6 := hO 6 (by kernel_rfl)
            have r7 := hO 7 (by kernel_rfl)
            have r8 := hO 8 (by kernel_rfl)
            have r9 := hO 9 (by kernel_rfl)
            have r10 := hO 10 (by kernel_rfl)
            have r11 := hO 11 (by kernel_rfl)
            have r12 := hO 12 (by kernel_rfl)
            have r13 := hO 13 (by kernel_rfl)
            have r14 := hO 14 (by kernel_rfl)
            have r15 := hO 15 (by kernel_rfl)
            have r16 := hO 16 (by kernel_rfl)
            have r17 := hO 17 (by kernel_rfl)
            have r18 := hO 18 (by kernel_rfl)
            have r19 := hO 19 (by kernel_rfl)
            have r20 := hO 20 (by kernel_rfl)
            have r21 := hO 21 (by kernel_rfl)
            have r22 := hO 22 (by kernel_rfl)
            have r23 := hO 23 (by kernel_rfl)
            have r24 := hO 24 (by kernel_rfl)
            have r25 := hO 25 (by kernel_rfl)
            have r26 := hO 26 (by kernel_rfl)
            have r27 := hO 27 (by kernel_rfl)
            have r28 := hO 28 (by kernel_rfl)
            have r29 := hO 29 (by kernel_rfl)
            have r30 := hO 30 (by kernel_rfl)
            have r31 := hO 31 (by kernel_rfl)
            have r32 := hO 32 (by kernel_rfl)
            have r33 := hO 33 (by kernel_rfl)
            have r34 := hO 34 (by kernel_rfl)
            have r35 := hO 35 (by kernel_rfl)
            have r36 := hO 36 (by kernel_rfl)
            have r37 := hO 37 (by kernel_rfl)
            have r38 := hO 38 (by kernel_rfl)
            have r39 := hO 39 (by kernel_rfl)
            have r40 := hO 40 (by kernel_rfl)
            have r41 := hO 41 (by kernel_rfl)
            have r42 := hO 42 (by kernel_rfl)
            have r43 := hO 43 (by kernel_rfl)
            have r44 := hO 44 (by kernel_rfl)
            have r45 := hO 45 (by kernel_rfl)
            have r46 := hO 46 (by kernel_rfl)
            have r47 := hO 47 (by kernel_rfl)
            have r48 := hO 48 (by kernel_rfl)
            have r49 := hO 49 (by kernel_rfl)
            have r50 := hO 50 (by kernel_rfl)
            have r51 := hO 51 (by kernel_rfl)
            have r52 := hO 52 (by kernel_rfl)
            have r53 := hO 53 (by kernel_rfl)
            have r54 := hO 54 (by kernel_rfl)
            have r55 := hO 55 (by kernel_rfl)
            have r56 := hO 56 (by kernel_rfl)
            have r57 := hO 57 (by kernel_rfl)
            have r58 := hO 58 (by kernel_rfl)
            have r59 := hO 59 (by kernel_rfl)
            have r76 := hO 76 (by kernel_rfl)
            have r77 := hO 77 (by kernel_rfl)
            have r78 := hO 78 (by kernel_rfl)
            have r79 := hO 79 (by kernel_rfl)
            have r80 := hO 80 (by kernel_rfl)
            have r81 := hO 81 (by kernel_rfl)
            have eL : mono.lit 82 f [] = ⟨#[f 0, f 1, f 2, f 3, f 4, f 5, f 6, f 7, f 8, f 9, f 10, f 11, f 12, f 13, f 14, f 15, f 16, f 17, f 18, f 19, f 20, f 21, f 22, f 23, f 24, f 25, f 26, f 27, f 28, f 29, f 30, f 31, f 32, f 33, f 34, f 35, f 36, f 37, f 38, f 39, f 40, f 41, f 42, f 43, f 44, f 45, f 46, f 47, f 48, f 49, f 50, f 51, f 52, f 53, f 54, f 55, f 56, f 57, f 58, f 59, f 60, f 61, f 62, f 63, f 64, f 65, f 66, f 67, f 68, f 69, f 70, f 71, f 72, f 73, f 74, f 75, f 76, f 77, f 78, f 79, f 80, f 81], []⟩ := rfl
            rw [eL, r0, r1, r2, r3, r4, r5, r6, r7, r8, r9, r10, r11, r12, r13, r14, r15, r16, r17, r18, r19, r20, r21, r22, r23, r24, r25, r26, r27, r28, r29, r30, r31, r32, r33, r34, r35, r36, r37, r38, r39, r40, r41, r42, r43, r44, r45, r46, r47, r48, r49, r50, r51, r52, r53, r54, r55, r56, r57, r58, r59, r76, r77, r78, r79, r80, r81]
            obtain ⟨a, hrow, -, ha⟩ := hX.rows
            obtain ⟨ha, -⟩ := ha (hDn 17 (by decide))
            have hbel := hX.bel
            have hrk := rk_own (W := wr.drew) (W' := W) hcK.row hR
            have hLn : Lb w nc nb cs bs us (.slice aC cs.length kC) (.slice (some ⟨g, 0, none⟩) bs.length kB) (.slice a3 us.length k3) cu (uu.set k a) (k + 1) W := by
              refine ⟨(hR.block _ (heap_lt hL.p) (fun e => by simp at e; omega)).trans hL.p, (hR.block _ (heap_lt hL.r) (fun e => by simp at e; omega)).trans hL.r, hL.c.rk hrk (by decide) (by decide) (by decide), ⟨by simpa using hcK.ul, hrow, fun i y u hi hy hz => ?_, fun i y u hi hy hz => ?_⟩, hbel⟩
              · by_cases hik : i = k
                · subst hik
                  rw [List.getElem?_set_self (List.getElem?_eq_some_iff.1 hu).1] at hz
                  cases hz
                  rw [hxk] at hy
                  cases hy
                  exact ha
                · rw [List.getElem?_set_ne (by omega)] at hz
                  exact hrk _ _ _ _ _ _ (by decide) (hcK.new i y u (by omega) hy hz)
              · rw [List.getElem?_set_ne (by omega)] at hz
                exact hcK.old i y u (by omega) hy hz
            clear hX hR hO hD hDn hrow ha hrk hBx hcK hL
            go_wp2_with fail
            exact ⟨⟨_, _, .int .i64 ((k + 1 : Nat) : Int), ⟨k + 1, by omega, rfl, _, hLn⟩, rfl, rfl, by go_num⟩, by simp [Go.RowKit.intOf]; omega⟩
        · have hlt' : ¬ (k : Int) < (bs.length : Int) := by omega
          have hoB' := hL.br.own (by omega)
          have hoC' := hL.c
          have hp4 := hL.p
          have hr4 := hL.r
          have hb4 := hL.b
          have hz4 : w.heap.size + 1 + 1 ≤ wr.heap.size := by have := heap_lt hr4; omega
          clear hL hbr hoB
          go_upto_region 15 with fail
          clear x0 x1 x2 x3 x4
          obtain ⟨x0, x1, x2, x3, x4⟩ := cellsSB hp4
          go_wp2_with fail
          refine (cU wr hb4).mono ?_
          rintro e w5 ⟨u, rfl, ho5, hb5⟩
          obtain ⟨aU, kU, rfl⟩ := own_form ho5
          have hp5 := hp4.below hb5
          have hr5 := hr4.below hb5
          have hbb5 := hb4.trans (hb5.mono hb4.size)
          have hO5 : OwSt w5 (w.heap.size + 1 + 1) (.slice aC cs.length kC) (.slice aB bs.length kB) (.slice aU us.length kU) ⟨nc, nb, cs, bs, us⟩ cu uu := ⟨hoC'.rk (rk_below hb5 26) (by decide) (by decide) (by decide), hoB'.rk (rk_below hb5 26) (by decide) (by decide), own_lower ho5 hz4⟩
          clear x0 x1 x2 x3 x4 cU hp4 hr4 hb5 hb4 hoC' hoB' ho5
          obtain ⟨x0, x1, x2, x3, x4⟩ := cellsSB hp5
          obtain ⟨f0, f1, f2, f3, f4⟩ := frzS hp5
          go_upto_region 16 with fail
          have hp6 := heap_setCell hp5 4 (.slice aU us.length kU)
          have hr6 := (Below.heap_setCell w5 ⟨w.heap.size, 4, none⟩ (.slice aU us.length kU) (w.heap.size + 1) (by simp)).trans hr5
          have hO6 := hO5.rk (rk_set (x := .slice aU us.length kU) (j := 4) hp5) noRow_st
          have hbb6 := hbb5.setCell (p := ⟨w.heap.size, 4, none⟩) (Nat.le_refl _) (.slice aU us.length kU)
          clear hp5 hr5 hbb5 x0 x1 x2 x3 x4 f0 f1 f2 f3 f4 hO5 hz4
          generalize w5.setCell ⟨w.heap.size, 4, none⟩ (.slice aU us.length kU) = w6 at *
          have hp7 : SB w6 w.heap.size ⟨nc, nb, cs, bs, us⟩ (.slice aC cs.length kC) (.slice aB bs.length kB) (.slice aU us.length kU) := hp6
          obtain ⟨x0, x1, x2, x3, x4⟩ := cellsSB hp7
          obtain ⟨e0, e1, e2, e3, e4⟩ := cellsSB hr6
          obtain ⟨f0, f1, f2, f3, f4⟩ := frzS hr6
          go_wp21
          have hfin := SB.put hr6 ⟨nc, nb, cs, bs, us⟩ (.slice aC cs.length kC) (.slice aB bs.length kB) (.slice aU us.length kU)
          have ho := ow_putS (S' := ⟨nc, nb, cs, bs, us⟩) (u1 := .slice aC cs.length kC) (u2 := .slice aB bs.length kB) (u3 := .slice aU us.length kU) hr6 (hO6.lower (B' := w.heap.size) (by omega))
          have hb := below_putS hbb6 (g := w.heap.size + 1) (by omega) ⟨nc, nb, cs, bs, us⟩ (.slice aC cs.length kC) (.slice aB bs.length kB) (.slice aU us.length kU)
          simp only at hfin ho hb
          generalize ((((w6.setCell ⟨w.heap.size + 1, 0, none⟩ (.int .i64 nc)).setCell ⟨w.heap.size + 1, 1, none⟩ (.int .i64 nb)).setCell ⟨w.heap.size + 1, 2, none⟩ (.slice aC cs.length kC)).setCell ⟨w.heap.size + 1, 3, none⟩ (.slice aB bs.length kB)).setCell ⟨w.heap.size + 1, 4, none⟩ (.slice aU us.length kU) = WF at *
          clear e0 e1 e2 e3 e4 x0 x1 x2 x3 x4 f0 f1 f2 f3 f4
          refine bodyPost_ret (results_cell_row rfl _ _ (w.heap.size + 1) 26 _ (0, 0) _ rfl hfin Try.underlying26 rfl Try.sizeSt) rfl ?_
          exact ⟨_, _, _, rfl, ⟨cu, uu, ho⟩, hb⟩
end Go.Proofs.Ythhdpabelcgfjaa
