/-
  The contracts of behind, joined and Normal.
-/
import Derived.Test.YtjimolafoihnpaaDoorDlA
import Derived.Lib.AppendStr
namespace Go.Proofs.YtjimolafoihnpaaDoor
open Go.ChangeShapes Go.WideShapes Go.ChangeAt Go.RowKit Go.PlainAid

theorem Tryd.infoOp : (Tryd.prog.info? 106).map (fun i => (i.zero, i.size, i.bytes)) = some (some (.agg #[.int .i64 0, .int .i64 0, .string ⟨#[]⟩]), 3, 32) := by kernel_rfl

/-- Operations as cells. -/
def ocs (l : List OpD) : List Value := (l.map fun o => [Value.int .i64 o.k, .int .i64 o.n, .string o.t]).flatten
theorem ocs_append (a b : List OpD) : ocs (a ++ b) = ocs a ++ ocs b := by simp [ocs]
theorem ocs_one (o : OpD) : ocs [o] = [Value.int .i64 o.k, .int .i64 o.n, .string o.t] := by simp [ocs]
theorem ocs_length (l : List OpD) : (ocs l).length = l.length * 3 := by
  induction l with
  | nil => simp [ocs]
  | cons a l ih =>
    have e : ocs (a :: l) = [Value.int .i64 a.k, .int .i64 a.n, .string a.t] ++ ocs l := by simp [ocs]
    rw [e, List.length_append, ih]; simp; omega
theorem ocs_at (l : List OpD) (i : Nat) (o : OpD) (h : l[i]? = some o) : (ocs l)[i * 3]? = some (.int .i64 o.k) ∧ (ocs l)[i * 3 + 1]? = some (.int .i64 o.n) ∧ (ocs l)[i * 3 + 2]? = some (.string o.t) := by
  have hi := (List.getElem?_eq_some_iff.1 h).1
  have e0 : l = l.take i ++ ([o] ++ l.drop (i + 1)) := by
    have h1 : l[i] = o := (List.getElem?_eq_some_iff.1 h).2
    rw [← h1]
    simp
  have e1 : ocs l = ocs (l.take i) ++ ([Value.int .i64 o.k, .int .i64 o.n, .string o.t] ++ ocs (l.drop (i + 1))) := by
    rw [← ocs_one, ← ocs_append, ← ocs_append, ← e0]
  have e2 : (ocs (l.take i)).length = i * 3 := by rw [ocs_length, List.length_take]; congr 1; omega
  rw [e1]
  refine ⟨?_, ?_, ?_⟩ <;> rw [List.getElem?_append_right (by omega), e2] <;> simp
theorem rdd_own {W : World} {B : Nat} {v : Value} {l : List OpD} (h : W.ownsRow B 106 3 v l.length (ocs l)) : RdD W v l := by
  rcases h.2 with ⟨rfl, h0⟩ | ⟨g, cap, cur, rfl, hb, hg, hn, _, hc, ht⟩
  · have : l = [] := List.eq_nil_of_length_eq_zero h0
    subst this
    exact RdD.nil W
  · refine ⟨_, cap, rfl, ⟨hn, fun h => by cases h⟩, fun i o ho => ⟨g, 0, rfl, (h.lt g rfl).2, ?_⟩⟩
    obtain ⟨c0, c1, c2⟩ := ocs_at l i o ho
    have hadd : ∀ j, (⟨g, 0, none⟩ : Addr).add j = ⟨g, 0 + j, none⟩ := fun j => by unfold Addr.add; split <;> simp_all
    have g0 := h.cells (g := g) rfl _ _ c0
    have g1 := h.cells (g := g) rfl _ _ c1
    have g2 := h.cells (g := g) rfl _ _ c2
    rw [hadd] at g0 g1 g2
    exact ⟨g0, by rw [Nat.add_assoc]; exact g1, by rw [Nat.add_assoc]; exact g2⟩

/-- Rows of unlike elements lie apart. -/
theorem own_apart {w : World} {b1 b2 e1 e2 s1 s2 n1 n2 : Nat} {v1 v2 : Value} {x1 x2 : List Value} (h1 : w.ownsRow b1 e1 s1 v1 n1 x1) (h2 : w.ownsRow b2 e2 s2 v2 n2 x2) (he : e1 ≠ e2) : v1.ownBlock = none ∨ v1.ownBlock ≠ v2.ownBlock := by
  rcases h1.2 with ⟨rfl, _⟩ | ⟨g, cap, cur, rfl, _, hg, _⟩
  · exact .inl rfl
  · rcases h2.2 with ⟨rfl, _⟩ | ⟨g', cap', cur', rfl, _, hg', _⟩
    · exact .inr (by simp [Value.ownBlock])
    · refine .inr (fun e => ?_)
      simp [Value.ownBlock] at e
      subst e
      rw [hg] at hg'
      simp at hg'
      exact he hg'.2

/-- What a stretch becomes. -/
def flushD (kept : Nat) (put : List UInt8) (gone : Nat) : List OpD :=
  (if 0 < kept then [⟨1, kept, ⟨#[]⟩⟩] else []) ++ ((if 0 < put.length then [⟨2, 0, mk put⟩] else []) ++ (if 0 < gone then [⟨3, gone, ⟨#[]⟩⟩] else []))

theorem flushD_len (kept : Nat) (put : List UInt8) (gone : Nat) : (flushD kept put gone).length ≤ 3 := by
  unfold flushD
  split <;> split <;> split <;> simp

theorem own_op {w1 : World} {base n : Nat} {v' : Value} {L : List OpD} {o : OpD} (h : w1.ownsRow base 106 3 v' (n + 1) (ocs L ++ [Value.int .i64 o.k, .int .i64 o.n, .string o.t])) (hn : L.length = n) :
    w1.ownsRow base 106 3 v' (L ++ [o]).length (ocs (L ++ [o])) := by
  subst hn
  rw [ocs_append, ocs_one, List.length_append]
  exact h

theorem own_belowG {w w' : World} {base e z n : Nat} {v : Value} {L : List Value} (h : w.ownsRow base e z v n L) (hb : Below w.heap.size w w') : w'.ownsRow base e z v n L :=
  h.kept (row := none) ⟨hb.os, hb.tape, hb.output, hb.size, fun k hk _ => hb.block k hk⟩ (by cases v.ownBlock <;> simp)
theorem box_apart {w : World} {b e z n p : Nat} {v : Value} {x : List Value} {c : Array Value} {t : TypeId} (h : w.ownsRow b e z v n x) (hb : w.heap[p]? = some (.cells c t)) (he : e ≠ t) : some p ≠ v.ownBlock := by
  rcases h.2 with ⟨rfl, _⟩ | ⟨g, cap, cur, rfl, _, hg, _⟩
  · simp [Value.ownBlock]
  · intro e
    simp [Value.ownBlock] at e
    subst e
    rw [hb] at hg
    simp at hg
    exact he hg.2.symm

theorem heap_lt {W : World} {p : Nat} {o : Obj} (h : W.heap[p]? = some o) : p < W.heap.size := (Array.getElem?_eq_some_iff.1 h).1

theorem three_one (a b : Int) (t : ByteArray) : ∀ u ∈ [Value.int .i64 a, .int .i64 b, .string t], u.oneCell' = true := by
  intro u hu
  simp at hu
  rcases hu with rfl | rfl | rfl <;> rfl
end Go.Proofs.YtjimolafoihnpaaDoor

/-
  The contracts of joined and Normal.
-/
namespace Go.Proofs.YtjimolafoihnpaaDoor
open Go.ChangeShapes Go.WideShapes Go.ChangeAt Go.RowKit Go.PlainAid

/-- What joined has on its way. -/
structure JS where
  D : List OpD
  kept : Nat
  put : List UInt8
  gone : Nat
def JS.add (σ : JS) : St → JS
  | .keep n => if 0 < σ.put.length ∨ 0 < σ.gone then ⟨σ.D ++ flushD σ.kept σ.put σ.gone, n, [], 0⟩ else ⟨σ.D, σ.kept + n, σ.put, σ.gone⟩
  | .rem n => ⟨σ.D, σ.kept, σ.put, σ.gone + n⟩
  | .ins t => ⟨σ.D, σ.kept, σ.put ++ t.data.toList, σ.gone⟩
def JS.out (σ : JS) : List OpD := σ.D ++ flushD σ.kept σ.put σ.gone
def jrun (l : List St) : JS := l.foldl JS.add ⟨[], 0, [], 0⟩
/-- What joined gives. -/
def jn (l : List St) : List OpD := (jrun l).out

theorem rev_ind {α : Type _} {P : List α → Prop} (h0 : P []) (h1 : ∀ l a, P l → P (l ++ [a])) (l : List α) : P l := by
  have key : ∀ l : List α, P l.reverse := by
    intro l
    induction l with
    | nil => exact h0
    | cons a l ih => rw [List.reverse_cons]; exact h1 _ _ ih
  have := key l.reverse
  rwa [List.reverse_reverse] at this

theorem jrun_snoc (l : List St) (s : St) : jrun (l ++ [s]) = (jrun l).add s := by simp [jrun]
theorem jrun_take {l : List St} {k : Nat} (h : k < l.length) : jrun (l.take (k + 1)) = (jrun (l.take k)).add l[k] := by
  rw [List.take_succ_eq_append_getElem h, jrun_snoc]
theorem size_cpl {t : ByteArray} (h : 0 < cpl t) : t.size ≤ 4 * (cpl t).toNat := by
  have hv := cpl_valid (s := t) (by omega)
  have h1 := (whole_eq hv).1
  have h2 := enc_len (ptL t (cpl t).toNat)
  rw [ptL_length] at h2
  have h3 : (mk (enc (ptL t (cpl t).toNat))).size = t.size := by rw [h1]
  rw [mk_size] at h3
  omega
theorem jrun_bd (l : List St) : (∀ s ∈ l, s.Ok) → (jrun l).D.length ≤ 3 * l.length ∧ (jrun l).kept ≤ bsum l ∧ (jrun l).gone ≤ bsum l ∧ (jrun l).put.length ≤ 4 * tsum l := by
  induction l using rev_ind with
  | h0 => intro _; simp [jrun]
  | h1 l s ih =>
    intro h
    obtain ⟨h1, h2, h3, h4⟩ := ih (fun x hx => h x (by simp [hx]))
    have hs := h s (by simp)
    rw [jrun_snoc, bsum_append, tsum_append, List.length_append]
    have hf := flushD_len (jrun l).kept (jrun l).put (jrun l).gone
    have e1 : bsum [s] = s.b := by simp [bsum]
    have e2 : tsum [s] = s.c := by simp [tsum]
    rw [e1, e2]
    cases s with
    | keep n =>
      simp only [JS.add, St.b, St.c]
      split
      · simp only [List.length_append, List.length_cons, List.length_nil]; omega
      · simp only [List.length_cons, List.length_nil]; omega
    | rem n => simp only [JS.add, St.b, St.c, List.length_cons, List.length_nil]; omega
    | ins t =>
      have := size_cpl hs.1
      have hd := data_len t
      simp only [JS.add, St.b, St.c, List.length_append, List.length_cons, List.length_nil]; omega
theorem sum_take (l : List St) (k : Nat) : bsum (l.take k) ≤ bsum l ∧ tsum (l.take k) ≤ tsum l := by
  have e1 := bsum_append (l.take k) (l.drop k)
  have e2 := tsum_append (l.take k) (l.drop k)
  rw [List.take_append_drop] at e1 e2
  omega

theorem grown_set (w : World) (p j : Nat) (v : Value) : w.grownBy (w.setCell ⟨p, j, none⟩ v) (some p) :=
  ⟨rfl, rfl, rfl, by simp [World.setCell], fun k _ hn => Below.heap_setCell w ⟨p, j, none⟩ v k (fun e => hn (by rw [e]))⟩
theorem heap_setCell {w : World} {g : Nat} {cs : Array Value} {t : TypeId} (h : w.heap[g]? = some (.cells cs t)) (j : Nat) (v : Value) : (w.setCell ⟨g, j, none⟩ v).heap[g]? = some (.cells (cs.setIfInBounds j v) t) := by
  simp [World.setCell, Array.getElem?_modify, h]
theorem own_set {w : World} {b e z n p j : Nat} {v x : Value} {L : List Value} {c : Array Value} {t : TypeId} (h : w.ownsRow b e z v n L) (hb : w.heap[p]? = some (.cells c t)) (he : e ≠ t) : (w.setCell ⟨p, j, none⟩ x).ownsRow b e z v n L :=
  h.kept (grown_set w p j x) (.inr (fun e => box_apart h hb he e.symm))
theorem below_set {base : Nat} {w W : World} {p j : Nat} {x : Value} (h : Below base w W) (hp : base ≤ p) (hw : base ≤ W.heap.size) : Below base w (W.setCell ⟨p, j, none⟩ x) :=
  h.grown (grown_set W p j x) hw (fun k hk => by simp at hk; omega)
theorem frz {W : World} {p : Nat} {c : Array Value} {t : TypeId} (h : W.heap[p]? = some (.cells c t)) (j : Nat) : W.frozen? ⟨p, j, none⟩ = false := by
  simp [World.frozen?, h]

theorem own_lower {w : World} {b b' e z n : Nat} {v : Value} {L : List Value} (h : w.ownsRow b e z v n L) (hb : b' ≤ b) : w.ownsRow b' e z v n L := by
  refine ⟨h.1, ?_⟩
  rcases h.2 with h1 | ⟨g, cap, cur, e1, h2, h3⟩
  · exact .inl h1
  · exact .inr ⟨g, cap, cur, e1, Nat.le_trans hb h2, h3⟩
theorem own_form {w : World} {b e z n : Nat} {v : Value} {L : List Value} (h : w.ownsRow b e z v n L) : ∃ ao cp, v = .slice ao n cp := by
  rcases h.2 with ⟨rfl, rfl⟩ | ⟨g, cap, cur, rfl, _⟩
  · exact ⟨_, _, rfl⟩
  · exact ⟨_, _, rfl⟩

end Go.Proofs.YtjimolafoihnpaaDoor
