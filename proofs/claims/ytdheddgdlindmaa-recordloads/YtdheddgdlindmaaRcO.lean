/-
  record: a state whose rows are its own.
-/
import Derived.Test.YtdheddgdlindmaaRcK
namespace Go.Proofs.Ytdheddgdlindmaa
open Go.ChangeShapes Go.WideShapes Go.ChangeAt Go.RowKit Go.PlainAid

/-- All rows of other types than t0 are as they were. -/
def Rk (W W' : World) (t0 : TypeId) : Prop := ∀ (B e z n : Nat) (v : Value) (xs : List Value), e ≠ t0 → W.ownsRow B e z v n xs → W'.ownsRow B e z v n xs
theorem rk_box {W W' : World} {q : Nat} {c : Array Value} {t0 : TypeId} (h : W.heap[q]? = some (.cells c t0)) (hg : W.grownBy W' (some q)) : Rk W W' t0 :=
  fun _ _ _ _ _ _ he ho => ho.kept hg (.inr (fun e => box_apart ho h he e.symm))
theorem rk_own {W W' : World} {B e z n : Nat} {v : Value} {xs : List Value} (h : W.ownsRow B e z v n xs) (hg : W.grownBy W' v.ownBlock) : Rk W W' e :=
  fun _ _ _ _ _ _ he ho => ho.kept hg (own_apart ho h he)
theorem rk_below {W W' : World} (h : Below W.heap.size W W') (t0 : TypeId) : Rk W W' t0 := fun _ _ _ _ _ _ _ ho => own_belowG ho h
theorem rk_set {W : World} {q j : Nat} {x : Value} {c : Array Value} {t0 : TypeId} (h : W.heap[q]? = some (.cells c t0)) : Rk W (W.setCell ⟨q, j, none⟩ x) t0 := rk_box h (grown_set W q j x)
/-- Commits' cells, with the values of their rows. -/
def ccs : List CoD → List (Value × Value × Value) → List Value
  | x :: l, u :: us => .int .i64 x.n :: u.1 :: u.2.1 :: u.2.2 :: .int .i64 x.c :: .int .i64 x.s :: ccs l us
  | _, _ => []
def bcs : List BrD → List Value → List Value
  | x :: l, u :: us => .int .i64 x.i :: .string x.nm :: u :: bcs l us
  | _, _ => []
def ucs : List CuD → List Value
  | x :: l => .int .i64 x.c :: .int .i64 x.b :: .int .i64 x.s :: ucs l
  | [] => []
theorem ccs_app : ∀ (l : List CoD) (us : List (Value × Value × Value)) (x : CoD) (u : Value × Value × Value), us.length = l.length → ccs (l ++ [x]) (us ++ [u]) = ccs l us ++ [.int .i64 x.n, u.1, u.2.1, u.2.2, .int .i64 x.c, .int .i64 x.s]
  | [], [], _, _, _ => rfl
  | y :: l, z :: us, x, u, h => by simp [ccs, ccs_app l us x u (by simpa using h)]
  | [], _ :: _, _, _, h => by simp at h
  | _ :: _, [], _, _, h => by simp at h
theorem bcs_app : ∀ (l : List BrD) (us : List Value) (x : BrD) (u : Value), us.length = l.length → bcs (l ++ [x]) (us ++ [u]) = bcs l us ++ [.int .i64 x.i, .string x.nm, u]
  | [], [], _, _, _ => rfl
  | y :: l, z :: us, x, u, h => by simp [bcs, bcs_app l us x u (by simpa using h)]
  | [], _ :: _, _, _, h => by simp at h
  | _ :: _, [], _, _, h => by simp at h
theorem ucs_app : ∀ (l : List CuD) (x : CuD), ucs (l ++ [x]) = ucs l ++ [.int .i64 x.c, .int .i64 x.b, .int .i64 x.s]
  | [], _ => rfl
  | y :: l, x => by simp [ucs, ucs_app l x]
theorem ccs_at : ∀ (l : List CoD) (us : List (Value × Value × Value)) (i : Nat) (x : CoD), us.length = l.length → l[i]? = some x → ∃ u, us[i]? = some u ∧ (ccs l us)[i * 6]? = some (.int .i64 x.n) ∧ (ccs l us)[i * 6 + 1]? = some u.1 ∧ (ccs l us)[i * 6 + 2]? = some u.2.1 ∧ (ccs l us)[i * 6 + 3]? = some u.2.2 ∧ (ccs l us)[i * 6 + 4]? = some (.int .i64 x.c) ∧ (ccs l us)[i * 6 + 5]? = some (.int .i64 x.s)
  | [], _, _, _, _, h => by simp at h
  | _ :: _, [], _, _, h, _ => by simp at h
  | y :: l, u :: us, 0, x, _, h => by simp at h; subst h; exact ⟨u, rfl, rfl, rfl, rfl, rfl, rfl, rfl⟩
  | y :: l, u :: us, i + 1, x, h, hi => by
    obtain ⟨z, h1, q0, q1, q2, q3, q4, q5⟩ := ccs_at l us i x (by simpa using h) (by simpa using hi)
    have e : ∀ k, (i + 1) * 6 + k = i * 6 + k + 1 + 1 + 1 + 1 + 1 + 1 := fun k => by omega
    refine ⟨z, by simpa using h1, ?_, ?_, ?_, ?_, ?_, ?_⟩
    · have := e 0; simp only [Nat.add_zero] at this; rw [this]; simpa [ccs] using q0
    · rw [e]; simpa [ccs] using q1
    · rw [e]; simpa [ccs] using q2
    · rw [e]; simpa [ccs] using q3
    · rw [e]; simpa [ccs] using q4
    · rw [e]; simpa [ccs] using q5
theorem bcs_at : ∀ (l : List BrD) (us : List Value) (i : Nat) (x : BrD), us.length = l.length → l[i]? = some x → ∃ u, us[i]? = some u ∧ (bcs l us)[i * 3]? = some (.int .i64 x.i) ∧ (bcs l us)[i * 3 + 1]? = some (.string x.nm) ∧ (bcs l us)[i * 3 + 2]? = some u
  | [], _, _, _, _, h => by simp at h
  | _ :: _, [], _, _, h, _ => by simp at h
  | y :: l, u :: us, 0, x, _, h => by simp at h; subst h; exact ⟨u, rfl, rfl, rfl, rfl⟩
  | y :: l, u :: us, i + 1, x, h, hi => by
    obtain ⟨z, h1, q0, q1, q2⟩ := bcs_at l us i x (by simpa using h) (by simpa using hi)
    have e : ∀ k, (i + 1) * 3 + k = i * 3 + k + 1 + 1 + 1 := fun k => by omega
    refine ⟨z, by simpa using h1, ?_, ?_, ?_⟩
    · have := e 0; simp only [Nat.add_zero] at this; rw [this]; simpa [bcs] using q0
    · rw [e]; simpa [bcs] using q1
    · rw [e]; simpa [bcs] using q2
theorem ucs_at : ∀ (l : List CuD) (i : Nat) (x : CuD), l[i]? = some x → (ucs l)[i * 3]? = some (.int .i64 x.c) ∧ (ucs l)[i * 3 + 1]? = some (.int .i64 x.b) ∧ (ucs l)[i * 3 + 2]? = some (.int .i64 x.s)
  | [], _, _, h => by simp at h
  | y :: l, 0, x, h => by simp at h; subst h; exact ⟨rfl, rfl, rfl⟩
  | y :: l, i + 1, x, hi => by
    obtain ⟨q0, q1, q2⟩ := ucs_at l i x (by simpa using hi)
    have e : ∀ k, (i + 1) * 3 + k = i * 3 + k + 1 + 1 + 1 := fun k => by omega
    refine ⟨?_, ?_, ?_⟩
    · have := e 0; simp only [Nat.add_zero] at this; rw [this]; simpa [ucs] using q0
    · rw [e]; simpa [ucs] using q1
    · rw [e]; simpa [ucs] using q2
/-- Rows that are a state's own. -/
structure OwCo (W : World) (B : Nat) (v : Value) (l : List CoD) (us : List (Value × Value × Value)) : Prop where
  ul : us.length = l.length
  row : W.ownsRow B 48 6 v l.length (ccs l us)
  inn : ∀ (i : Nat) (x : CoD) (u : Value × Value × Value), l[i]? = some x → us[i]? = some u → W.ownsRow B 3 1 u.1 x.ps.length (ivs x.ps) ∧ W.ownsRow B 96 3 u.2.1 x.d.length (ocs x.d) ∧ W.ownsRow B 96 3 u.2.2 x.o.length (ocs x.o)
structure OwBr (W : World) (B : Nat) (v : Value) (l : List BrD) (us : List Value) : Prop where
  ul : us.length = l.length
  row : W.ownsRow B 50 3 v l.length (bcs l us)
  inn : ∀ (i : Nat) (x : BrD) (u : Value), l[i]? = some x → us[i]? = some u → W.ownsRow B 3 1 u x.lg.length (ivs x.lg)
structure OwSt (W : World) (B : Nat) (v1 v2 v3 : Value) (S : StD) (us : List (Value × Value × Value)) (ls : List Value) : Prop where
  c : OwCo W B v1 S.cs us
  b : OwBr W B v2 S.bs ls
  u : W.ownsRow B 61 3 v3 S.us.length (ucs S.us)
theorem OwCo.rk {W W' : World} {B : Nat} {v : Value} {l : List CoD} {us : List (Value × Value × Value)} {t0 : TypeId} (h : OwCo W B v l us) (hk : Rk W W' t0) (h1 : 48 ≠ t0) (h2 : 3 ≠ t0) (h3 : 96 ≠ t0) : OwCo W' B v l us :=
  ⟨h.ul, hk _ _ _ _ _ _ h1 h.row, fun i x u hi hu => ⟨hk _ _ _ _ _ _ h2 (h.inn i x u hi hu).1, hk _ _ _ _ _ _ h3 (h.inn i x u hi hu).2.1, hk _ _ _ _ _ _ h3 (h.inn i x u hi hu).2.2⟩⟩
theorem OwBr.rk {W W' : World} {B : Nat} {v : Value} {l : List BrD} {us : List Value} {t0 : TypeId} (h : OwBr W B v l us) (hk : Rk W W' t0) (h1 : 50 ≠ t0) (h2 : 3 ≠ t0) : OwBr W' B v l us :=
  ⟨h.ul, hk _ _ _ _ _ _ h1 h.row, fun i x u hi hu => hk _ _ _ _ _ _ h2 (h.inn i x u hi hu)⟩
/-- No row of a state is of this type. -/
def NoRow (t0 : TypeId) : Prop := 48 ≠ t0 ∧ 50 ≠ t0 ∧ 61 ≠ t0 ∧ 3 ≠ t0 ∧ 96 ≠ t0
theorem OwSt.rk {W W' : World} {B : Nat} {v1 v2 v3 : Value} {S : StD} {us : List (Value × Value × Value)} {ls : List Value} {t0 : TypeId} (h : OwSt W B v1 v2 v3 S us ls) (hk : Rk W W' t0) (hn : NoRow t0) : OwSt W' B v1 v2 v3 S us ls :=
  ⟨h.c.rk hk hn.1 hn.2.2.2.1 hn.2.2.2.2, h.b.rk hk hn.2.1 hn.2.2.2.1, hk _ _ _ _ _ _ hn.2.2.1 h.u⟩
theorem OwSt.below {W W' : World} {B : Nat} {v1 v2 v3 : Value} {S : StD} {us : List (Value × Value × Value)} {ls : List Value} (h : OwSt W B v1 v2 v3 S us ls) (hb : Below W.heap.size W W') : OwSt W' B v1 v2 v3 S us ls := h.rk (rk_below hb 98) ⟨by decide, by decide, by decide, by decide, by decide⟩
theorem OwSt.lower {W : World} {B B' : Nat} {v1 v2 v3 : Value} {S : StD} {us : List (Value × Value × Value)} {ls : List Value} (h : OwSt W B v1 v2 v3 S us ls) (hB : B' ≤ B) : OwSt W B' v1 v2 v3 S us ls :=
  ⟨⟨h.c.ul, own_lower h.c.row hB, fun i x u hi hu => ⟨own_lower (h.c.inn i x u hi hu).1 hB, own_lower (h.c.inn i x u hi hu).2.1 hB, own_lower (h.c.inn i x u hi hu).2.2 hB⟩⟩, ⟨h.b.ul, own_lower h.b.row hB, fun i x u hi hu => own_lower (h.b.inn i x u hi hu) hB⟩, own_lower h.u hB⟩
def zeroS : StD := ⟨0, 0, [], [], []⟩
theorem owst_nil (W : World) (B : Nat) : OwSt W B (.slice none 0 0) (.slice none 0 0) (.slice none 0 0) zeroS [] [] :=
  ⟨⟨rfl, World.ownsRow_nil _ _ _ _, fun i x u h => by simp [zeroS] at h⟩, ⟨rfl, World.ownsRow_nil _ _ _ _, fun i x u h => by simp [zeroS] at h⟩, World.ownsRow_nil _ _ _ _⟩
theorem OwCo.rd {W : World} {B : Nat} {v : Value} {l : List CoD} {us : List (Value × Value × Value)} (h : OwCo W B v l us) : RdCo W v l := by
  have hr := h.row
  rcases hr.2 with ⟨rfl, h0⟩ | ⟨g, cap, cur, rfl, _, hg, hn, _, _, ht⟩
  · have : l = [] := List.length_eq_zero_iff.1 h0
    subst this
    exact RdCo.nil W
  · refine ⟨_, _, rfl, fun i x hi => ?_⟩
    obtain ⟨u, h1, q0, q1, q2, q3, q4, q5⟩ := ccs_at l us i x h.ul hi
    have q := hr.cells (g := g) rfl
    have hadd : ∀ k, (⟨g, 0, none⟩ : Addr).add k = ⟨g, k, none⟩ := fun k => by unfold Addr.add; split <;> simp_all
    simp only [hadd] at q
    obtain ⟨i1, i2, i3⟩ := h.inn i x u hi h1
    refine ⟨g, 0, u.1, u.2.1, u.2.2, rfl, heap_lt hg, ?_, rdi_own i1, rdd_own i2, rdd_own i3⟩
    rw [Nat.zero_add]
    exact ⟨q _ _ q0, q _ _ q1, q _ _ q2, q _ _ q3, q _ _ q4, q _ _ q5⟩
theorem OwBr.rd {W : World} {B : Nat} {v : Value} {l : List BrD} {us : List Value} (h : OwBr W B v l us) : RdBr W v l := by
  have hr := h.row
  rcases hr.2 with ⟨rfl, h0⟩ | ⟨g, cap, cur, rfl, _, hg, hn, _, _, ht⟩
  · have : l = [] := List.length_eq_zero_iff.1 h0
    subst this
    exact RdBr.nil W
  · refine ⟨_, _, rfl, fun i x hi => ?_⟩
    obtain ⟨u, h1, q0, q1, q2⟩ := bcs_at l us i x h.ul hi
    have q := hr.cells (g := g) rfl
    have hadd : ∀ k, (⟨g, 0, none⟩ : Addr).add k = ⟨g, k, none⟩ := fun k => by unfold Addr.add; split <;> simp_all
    simp only [hadd] at q
    refine ⟨g, 0, u, rfl, heap_lt hg, ?_, rdi_own (h.inn i x u hi h1)⟩
    rw [Nat.zero_add]
    exact ⟨q _ _ q0, q _ _ q1, q _ _ q2⟩
theorem rdcu_own {W : World} {B : Nat} {v : Value} {l : List CuD} (h : W.ownsRow B 61 3 v l.length (ucs l)) : RdCu W v l := by
  rcases h.2 with ⟨rfl, h0⟩ | ⟨g, cap, cur, rfl, _, hg, -⟩
  · have : l = [] := List.length_eq_zero_iff.1 h0
    subst this
    exact RdCu.nil W
  · refine ⟨_, _, rfl, fun i x hi => ?_⟩
    obtain ⟨q0, q1, q2⟩ := ucs_at l i x hi
    have q := h.cells (g := g) rfl
    have hadd : ∀ k, (⟨g, 0, none⟩ : Addr).add k = ⟨g, k, none⟩ := fun k => by unfold Addr.add; split <;> simp_all
    simp only [hadd] at q
    refine ⟨g, 0, rfl, heap_lt hg, ?_⟩
    rw [Nat.zero_add]
    exact ⟨q _ _ q0, q _ _ q1, q _ _ q2⟩
theorem OwSt.rd {W : World} {B : Nat} {v1 v2 v3 : Value} {S : StD} {us : List (Value × Value × Value)} {ls : List Value} (h : OwSt W B v1 v2 v3 S us ls) : RdSt W v1 v2 v3 S := ⟨h.c.rd, h.b.rd, rdcu_own h.u⟩
theorem last_one {α : Type} {l : List α} {x y : α} {i : Nat} (hi : ¬ i < l.length) (h : (l ++ [x])[i]? = some y) : i = l.length ∧ y = x := by
  rw [List.getElem?_append_right (by omega)] at h
  have h0 : i - l.length = 0 := by
    rcases Nat.eq_zero_or_pos (i - l.length) with h0 | h0
    · exact h0
    · rw [List.getElem?_eq_none (by simp; omega)] at h; cases h
  rw [h0] at h
  simp at h
  exact ⟨by omega, h.symm⟩
/-- One more. -/
theorem OwCo.app {W W' : World} {B : Nat} {v v' : Value} {l : List CoD} {us : List (Value × Value × Value)} {x : CoD} {u : Value × Value × Value} (h : OwCo W B v l us) (h1 : W.ownsRow B 3 1 u.1 x.ps.length (ivs x.ps)) (h2 : W.ownsRow B 96 3 u.2.1 x.d.length (ocs x.d)) (h3 : W.ownsRow B 96 3 u.2.2 x.o.length (ocs x.o)) (ho : W'.ownsRow B 48 6 v' (l.length + 1) (ccs l us ++ [.int .i64 x.n, u.1, u.2.1, u.2.2, .int .i64 x.c, .int .i64 x.s])) (hk : Rk W W' 48) : OwCo W' B v' (l ++ [x]) (us ++ [u]) := by
  refine ⟨by simp [h.ul], by rw [List.length_append, ccs_app l us x u h.ul]; exact ho, fun i y z hy hz => ?_⟩
  by_cases hi : i < l.length
  · rw [List.getElem?_append_left hi] at hy
    rw [List.getElem?_append_left (by rw [h.ul]; exact hi)] at hz
    obtain ⟨i1, i2, i3⟩ := h.inn i y z hy hz
    exact ⟨hk _ _ _ _ _ _ (by decide) i1, hk _ _ _ _ _ _ (by decide) i2, hk _ _ _ _ _ _ (by decide) i3⟩
  · obtain ⟨-, rfl⟩ := last_one hi hy
    obtain ⟨-, rfl⟩ := last_one (by rw [h.ul]; exact hi) hz
    exact ⟨hk _ _ _ _ _ _ (by decide) h1, hk _ _ _ _ _ _ (by decide) h2, hk _ _ _ _ _ _ (by decide) h3⟩
theorem OwBr.app {W W' : World} {B : Nat} {v v' : Value} {l : List BrD} {us : List Value} {x : BrD} {u : Value} (h : OwBr W B v l us) (h1 : W.ownsRow B 3 1 u x.lg.length (ivs x.lg)) (ho : W'.ownsRow B 50 3 v' (l.length + 1) (bcs l us ++ [.int .i64 x.i, .string x.nm, u])) (hk : Rk W W' 50) : OwBr W' B v' (l ++ [x]) (us ++ [u]) := by
  refine ⟨by simp [h.ul], by rw [List.length_append, bcs_app l us x u h.ul]; exact ho, fun i y z hy hz => ?_⟩
  by_cases hi : i < l.length
  · rw [List.getElem?_append_left hi] at hy
    rw [List.getElem?_append_left (by rw [h.ul]; exact hi)] at hz
    exact hk _ _ _ _ _ _ (by decide) (h.inn i y z hy hz)
  · obtain ⟨-, rfl⟩ := last_one hi hy
    obtain ⟨-, rfl⟩ := last_one (by rw [h.ul]; exact hi) hz
    exact hk _ _ _ _ _ _ (by decide) h1
/-- What take makes of a pair's value, by its kind. -/
def tkB (S : StD) (s : ByteArray) : StD × Bool := match rnF s 0 false with
  | (i, a, f) => match rtF s a f with
    | (nm, a, f) => match rcF s a f with
      | (lg, a, f) => (⟨S.nc, S.nb, S.cs, S.bs ++ [⟨i, nm, lg⟩], S.us⟩, !f && decide (a = s.size))
def tkC (S : StD) (s : ByteArray) : StD × Bool := match rnF s 0 false with
  | (n, a, f) => match rcF s a f with
    | (ps, a, f) => match rdF s a f with
      | (d, a, f) => match rdF s a f with
        | (o, a, f) => match rnF s a f with
          | (c, a, f) => match rnF s a f with
            | (q, a, f) => (⟨S.nc, S.nb, S.cs ++ [⟨n, ps, d, o, c, q⟩], S.bs, S.us⟩, !f && decide (a = s.size))
def tkN (S : StD) (s : ByteArray) : StD × Bool := match rnF s 0 false with
  | (n, a, f) => match rnF s a f with
    | (m, a, f) => (⟨n, m, S.cs, S.bs, S.us⟩, !f && decide (a = s.size))
def tkU (S : StD) (s : ByteArray) : StD × Bool := match rnF s 0 false with
  | (c, a, f) => match rnF s a f with
    | (b, a, f) => match rnF s a f with
      | (q, a, f) => (⟨S.nc, S.nb, S.cs, S.bs, S.us ++ [⟨c, b, q⟩]⟩, !f && decide (a = s.size))
/-- take. -/
def tkF (S : StD) (x : PaD) : StD × Bool :=
  if x.k.size = 0 then (S, false) else if bt x.k 0 = 98 then tkB S x.v else if bt x.k 0 = 99 then tkC S x.v else if bt x.k 0 = 110 then tkN S x.v else if bt x.k 0 = 117 then tkU S x.v else (S, false)
/-- take on its way: the state's box lies at g. -/
structure Tk (w : World) (g : Nat) (S : StD) (v1 v2 v3 : Value) (us : List (Value × Value × Value)) (ls : List Value) (x : PaD) (a : Int) (f : Bool) (W : World) : Prop where
  sb : SB W g S v1 v2 v3
  ow : OwSt W (g + 1) v1 v2 v3 S us ls
  rq : RQ W (w.heap.size + 1) x.v a f
  pb : W.heap[w.heap.size]? = some (.cells #[.string x.k, .string x.v] 44)
  bl : Below g w W
  hg : g < w.heap.size
section
variable {w W W' : World} {g : Nat} {S : StD} {v1 v2 v3 : Value} {us : List (Value × Value × Value)} {ls : List Value} {x : PaD} {a a' : Int} {f f' : Bool}
theorem noRow_rd : NoRow 98 := ⟨by decide, by decide, by decide, by decide, by decide⟩
theorem noRow_st : NoRow 26 := ⟨by decide, by decide, by decide, by decide, by decide⟩
theorem Tk.call (h : Tk w g S v1 v2 v3 us ls x a f W) (hr : RQ W' (w.heap.size + 1) x.v a' f') (hg : W.grownBy W' (some (w.heap.size + 1))) : Tk w g S v1 v2 v3 us ls x a' f' W' := by
  have h1 := h.hg
  have hk : ∀ k o, k ≠ w.heap.size + 1 → W.heap[k]? = some o → W'.heap[k]? = some o := fun k o hk h => (hg.block k (heap_lt h) (by simpa using hk)).trans h
  exact ⟨hk _ _ (by omega) h.sb, h.ow.rk (rk_box h.rq hg) noRow_rd, hr, hk _ _ (by omega) h.pb, h.bl.grown hg (by have := h.bl.size; omega) (fun j hj => by cases hj; omega), h.hg⟩
theorem Tk.below (h : Tk w g S v1 v2 v3 us ls x a f W) (hb : Below W.heap.size W W') : Tk w g S v1 v2 v3 us ls x a f W' :=
  ⟨h.sb.below hb, h.ow.below hb, h.rq.below hb, (hb.block _ (heap_lt h.pb)).trans h.pb, h.bl.trans (hb.mono (by have := h.bl.size; have := h.hg; omega)), h.hg⟩
theorem Tk.lt (h : Tk w g S v1 v2 v3 us ls x a f W) : w.heap.size + 1 < W.heap.size := heap_lt h.rq
theorem tk_new (hS : SB w g S v1 v2 v3) (hO : OwSt w (g + 1) v1 v2 v3 S us ls) : Tk w g S v1 v2 v3 us ls x 0 false ((w.alloc (.cells #[.string x.k, .string x.v] 44)).alloc (.cells #[.string x.v, .int .i64 0, .bool false] 98)) := by
  have h1 := heap_alloc_new (w.alloc (.cells #[.string x.k, .string x.v] 44)) (.cells #[.string x.v, .int .i64 0, .bool false] 98)
  rw [World.size_alloc] at h1
  have hb : Below w.heap.size w ((w.alloc (.cells #[.string x.k, .string x.v] 44)).alloc (.cells #[.string x.v, .int .i64 0, .bool false] 98)) := (alloc_bR w _).trans ((alloc_bR _ _).mono (alloc_bR w _).size)
  refine ⟨hS.below hb, hO.below hb, h1, ?_, hb.mono (Nat.le_of_lt (heap_lt hS)), heap_lt hS⟩
  exact ((alloc_bR (w.alloc (.cells #[.string x.k, .string x.v] 44)) (.cells #[.string x.v, .int .i64 0, .bool false] 98)).block _ (by rw [World.size_alloc]; omega)).trans (heap_alloc_new w _)
/-- A row has grown, and the state's box tells it. -/
theorem Tk.grow {e z n j : Nat} {vr v9 : Value} {xs : List Value} (h : Tk w g S v1 v2 v3 us ls x a f W) (ho : W.ownsRow (g + 1) e z vr n xs) (he : e = 48 ∨ e = 50 ∨ e = 61) (hg9 : W.grownBy W' vr.ownBlock) :
    SB W' g S v1 v2 v3 ∧ RQ (W'.setCell ⟨g, j, none⟩ v9) (w.heap.size + 1) x.v a f ∧ (W'.setCell ⟨g, j, none⟩ v9).heap[w.heap.size]? = some (.cells #[.string x.k, .string x.v] 44) ∧ Below g w (W'.setCell ⟨g, j, none⟩ v9) ∧ Rk W W' e := by
  have h1 := h.hg
  have hne : ∀ (k : Nat) (c : Array Value) (t : TypeId), W.heap[k]? = some (Obj.cells c t) → e ≠ t → W'.heap[k]? = some (Obj.cells c t) := fun k c t hk hn => (hg9.block k (heap_lt hk) (box_apart ho hk hn)).trans hk
  have hs := fun k (hn : k ≠ g) => Below.heap_setCell W' ⟨g, j, none⟩ v9 k (by simp only; omega)
  have e1 : e ≠ 26 ∧ e ≠ 98 ∧ e ≠ 44 := by rcases he with rfl | rfl | rfl <;> exact ⟨by decide, by decide, by decide⟩
  exact ⟨hne _ _ _ h.sb e1.1, (hs _ (by omega)).trans (hne _ _ _ h.rq e1.2.1), (hs _ (by omega)).trans (hne _ _ _ h.pb e1.2.2), (h.bl.grown hg9 (by have := h.bl.size; omega) (fun j hj => by have := (ho.lt j hj).1; omega)).setCell (p := ⟨g, j, none⟩) (Nat.le_refl _) _, rk_own ho hg9⟩
theorem tk_br {i : Int} {nm : ByteArray} {lg : List Int} {u v9 : Value} (h : Tk w g S v1 v2 v3 us ls x a f W) (hu : W.ownsRow (g + 1) 3 1 u lg.length (ivs lg)) (ho9 : W'.ownsRow (g + 1) 50 3 v9 (S.bs.length + 1) (bcs S.bs ls ++ [.int .i64 i, .string nm, u])) (hg9 : W.grownBy W' v2.ownBlock) :
    Tk w g ⟨S.nc, S.nb, S.cs, S.bs ++ [⟨i, nm, lg⟩], S.us⟩ v1 v9 v3 us (ls ++ [u]) x a f (W'.setCell ⟨g, 3, none⟩ v9) := by
  obtain ⟨h1, h2, h3, h4, h5⟩ := h.grow (j := 3) (v9 := v9) h.ow.b.row (.inr (.inl rfl)) hg9
  have hk := rk_set (x := v9) (j := 3) h1
  refine ⟨heap_setCell h1 3 v9, ⟨?_, ?_, ?_⟩, h2, h3, h4, h.hg⟩
  · exact (h.ow.c.rk h5 (by decide) (by decide) (by decide)).rk hk (by decide) (by decide) (by decide)
  · exact (OwBr.app (x := ⟨i, nm, lg⟩) h.ow.b hu ho9 h5).rk hk (by decide) (by decide)
  · exact hk _ _ _ _ _ _ (by decide) (h5 _ _ _ _ _ _ (by decide) h.ow.u)
theorem tk_co {n c q : Int} {ps : List Int} {d o : List OpD} {u1 u2 u3 v9 : Value} (h : Tk w g S v1 v2 v3 us ls x a f W) (hu1 : W.ownsRow (g + 1) 3 1 u1 ps.length (ivs ps)) (hu2 : W.ownsRow (g + 1) 96 3 u2 d.length (ocs d)) (hu3 : W.ownsRow (g + 1) 96 3 u3 o.length (ocs o)) (ho9 : W'.ownsRow (g + 1) 48 6 v9 (S.cs.length + 1) (ccs S.cs us ++ [.int .i64 n, u1, u2, u3, .int .i64 c, .int .i64 q])) (hg9 : W.grownBy W' v1.ownBlock) :
    Tk w g ⟨S.nc, S.nb, S.cs ++ [⟨n, ps, d, o, c, q⟩], S.bs, S.us⟩ v9 v2 v3 (us ++ [(u1, u2, u3)]) ls x a f (W'.setCell ⟨g, 2, none⟩ v9) := by
  obtain ⟨h1, h2, h3, h4, h5⟩ := h.grow (j := 2) (v9 := v9) h.ow.c.row (.inl rfl) hg9
  have hk := rk_set (x := v9) (j := 2) h1
  refine ⟨heap_setCell h1 2 v9, ⟨?_, ?_, ?_⟩, h2, h3, h4, h.hg⟩
  · exact (OwCo.app (x := ⟨n, ps, d, o, c, q⟩) (u := (u1, u2, u3)) h.ow.c hu1 hu2 hu3 ho9 h5).rk hk (by decide) (by decide) (by decide)
  · exact (h.ow.b.rk h5 (by decide) (by decide)).rk hk (by decide) (by decide)
  · exact hk _ _ _ _ _ _ (by decide) (h5 _ _ _ _ _ _ (by decide) h.ow.u)
theorem tk_cu {c b q : Int} {v9 : Value} (h : Tk w g S v1 v2 v3 us ls x a f W) (ho9 : W'.ownsRow (g + 1) 61 3 v9 (S.us.length + 1) (ucs S.us ++ [.int .i64 c, .int .i64 b, .int .i64 q])) (hg9 : W.grownBy W' v3.ownBlock) :
    Tk w g ⟨S.nc, S.nb, S.cs, S.bs, S.us ++ [⟨c, b, q⟩]⟩ v1 v2 v9 us ls x a f (W'.setCell ⟨g, 4, none⟩ v9) := by
  obtain ⟨h1, h2, h3, h4, h5⟩ := h.grow (j := 4) (v9 := v9) h.ow.u (.inr (.inr rfl)) hg9
  have hk := rk_set (x := v9) (j := 4) h1
  refine ⟨heap_setCell h1 4 v9, ⟨?_, ?_, ?_⟩, h2, h3, h4, h.hg⟩
  · exact (h.ow.c.rk h5 (by decide) (by decide) (by decide)).rk hk (by decide) (by decide) (by decide)
  · exact (h.ow.b.rk h5 (by decide) (by decide)).rk hk (by decide) (by decide)
  · show World.ownsRow _ _ _ _ _ (S.us ++ [_]).length (ucs (S.us ++ [_]))
    rw [List.length_append, ucs_app]
    exact hk _ _ _ _ _ _ (by decide) ho9
theorem tk_nx {n m : Int} (h : Tk w g S v1 v2 v3 us ls x a f W) : Tk w g ⟨n, m, S.cs, S.bs, S.us⟩ v1 v2 v3 us ls x a f ((W.setCell ⟨g, 0, none⟩ (.int .i64 n)).setCell ⟨g, 1, none⟩ (.int .i64 m)) := by
  have h1 := h.hg
  have k1 := heap_setCell h.sb 0 (.int .i64 n)
  have k2 := heap_setCell k1 1 (.int .i64 m)
  have hs := fun k (hn : k ≠ g) => (Below.heap_setCell (W.setCell ⟨g, 0, none⟩ (.int .i64 n)) ⟨g, 1, none⟩ (.int .i64 m) k (by simp only; omega)).trans (Below.heap_setCell W ⟨g, 0, none⟩ (.int .i64 n) k (by simp only; omega))
  have ow2 := (h.ow.rk (rk_set (x := .int .i64 n) (j := 0) h.sb) noRow_st).rk (rk_set (x := .int .i64 m) (j := 1) k1) noRow_st
  refine ⟨k2, ⟨ow2.c, ow2.b, ow2.u⟩, (hs _ (by omega)).trans h.rq, (hs _ (by omega)).trans h.pb, (h.bl.setCell (p := ⟨g, 0, none⟩) (Nat.le_refl _) _).setCell (p := ⟨g, 1, none⟩) (Nat.le_refl _) _, h.hg⟩
end
end Go.Proofs.Ytdheddgdlindmaa
