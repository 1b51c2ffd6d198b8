/-
  The contracts of joined and Normal.
-/
import Derived.Test.YtaopfdgebibpeaaDlJ
namespace Go.Proofs.Ytaopfdgebibpeaa
open Go.ChangeShapes Go.WideShapes Go.ChangeAt Go.RowKit Go.PlainAid

/-- What joined has on its way. -/
structure JS where
  D : List OpD
  kept : Nat
  put : List UInt8
  gone : Nat
def JS.add (σ : JS) : St → JS
  | .keep n => if 0 < σ.put.length ∨ 0 < σ.gone then ⟨σ.D ++ flushD σ.kept σ.put σ.gone, n, [], 0⟩ else ⟨σ.D, σ.kept + n, σ.put, σ.gone⟩
  | .rem n => ⟨σ.D, σ.kept, σ.put, σ.gone + n⟩
  | .ins t => ⟨σ.D, σ.kept, σ.put ++ t.data.toList, σ.gone⟩
def JS.out (σ : JS) : List OpD := σ.D ++ flushD σ.kept σ.put σ.gone
def jrun (l : List St) : JS := l.foldl JS.add ⟨[], 0, [], 0⟩
/-- What joined gives. -/
def jn (l : List St) : List OpD := (jrun l).out

theorem rev_ind {α : Type _} {P : List α → Prop} (h0 : P []) (h1 : ∀ l a, P l → P (l ++ [a])) (l : List α) : P l := by
  have key : ∀ l : List α, P l.reverse := by
    intro l
    induction l with
    | nil => exact h0
    | cons a l ih => rw [List.reverse_cons]; exact h1 _ _ ih
  have := key l.reverse
  rwa [List.reverse_reverse] at this

theorem jrun_snoc (l : List St) (s : St) : jrun (l ++ [s]) = (jrun l).add s := by simp [jrun]
theorem jrun_take {l : List St} {k : Nat} (h : k < l.length) : jrun (l.take (k + 1)) = (jrun (l.take k)).add l[k] := by
  rw [List.take_succ_eq_append_getElem h, jrun_snoc]
theorem size_cpl {t : ByteArray} (h : 0 < cpl t) : t.size ≤ 4 * (cpl t).toNat := by
  have hv := cpl_valid (s := t) (by omega)
  have h1 := (whole_eq hv).1
  have h2 := enc_len (ptL t (cpl t).toNat)
  rw [ptL_length] at h2
  have h3 : (mk (enc (ptL t (cpl t).toNat))).size = t.size := by rw [h1]
  rw [mk_size] at h3
  omega
theorem jrun_bd (l : List St) : (∀ s ∈ l, s.Ok) → (jrun l).D.length ≤ 3 * l.length ∧ (jrun l).kept ≤ bsum l ∧ (jrun l).gone ≤ bsum l ∧ (jrun l).put.length ≤ 4 * tsum l := by
  induction l using rev_ind with
  | h0 => intro _; simp [jrun]
  | h1 l s ih =>
    intro h
    obtain ⟨h1, h2, h3, h4⟩ := ih (fun x hx => h x (by simp [hx]))
    have hs := h s (by simp)
    rw [jrun_snoc, bsum_append, tsum_append, List.length_append]
    have hf := flushD_len (jrun l).kept (jrun l).put (jrun l).gone
    have e1 : bsum [s] = s.b := by simp [bsum]
    have e2 : tsum [s] = s.c := by simp [tsum]
    rw [e1, e2]
    cases s with
    | keep n =>
      simp only [JS.add, St.b, St.c]
      split
      · simp only [List.length_append, List.length_cons, List.length_nil]; omega
      · simp only [List.length_cons, List.length_nil]; omega
    | rem n => simp only [JS.add, St.b, St.c, List.length_cons, List.length_nil]; omega
    | ins t =>
      have := size_cpl hs.1
      have hd := data_len t
      simp only [JS.add, St.b, St.c, List.length_append, List.length_cons, List.length_nil]; omega
theorem sum_take (l : List St) (k : Nat) : bsum (l.take k) ≤ bsum l ∧ tsum (l.take k) ≤ tsum l := by
  have e1 := bsum_append (l.take k) (l.drop k)
  have e2 := tsum_append (l.take k) (l.drop k)
  rw [List.take_append_drop] at e1 e2
  omega

theorem grown_set (w : World) (p j : Nat) (v : Value) : w.grownBy (w.setCell ⟨p, j, none⟩ v) (some p) :=
  ⟨rfl, rfl, rfl, by simp [World.setCell], fun k _ hn => Below.heap_setCell w ⟨p, j, none⟩ v k (fun e => hn (by rw [e]))⟩
theorem heap_setCell {w : World} {g : Nat} {cs : Array Value} {t : TypeId} (h : w.heap[g]? = some (.cells cs t)) (j : Nat) (v : Value) : (w.setCell ⟨g, j, none⟩ v).heap[g]? = some (.cells (cs.setIfInBounds j v) t) := by
  simp [World.setCell, Array.getElem?_modify, h]
theorem own_set {w : World} {b e z n p j : Nat} {v x : Value} {L : List Value} {c : Array Value} {t : TypeId} (h : w.ownsRow b e z v n L) (hb : w.heap[p]? = some (.cells c t)) (he : e ≠ t) : (w.setCell ⟨p, j, none⟩ x).ownsRow b e z v n L :=
  h.kept (grown_set w p j x) (.inr (fun e => box_apart h hb he e.symm))
theorem below_set {base : Nat} {w W : World} {p j : Nat} {x : Value} (h : Below base w W) (hp : base ≤ p) (hw : base ≤ W.heap.size) : Below base w (W.setCell ⟨p, j, none⟩ x) :=
  h.grown (grown_set W p j x) hw (fun k hk => by simp at hk; omega)
theorem frz {W : World} {p : Nat} {c : Array Value} {t : TypeId} (h : W.heap[p]? = some (.cells c t)) (j : Nat) : W.frozen? ⟨p, j, none⟩ = false := by
  simp [World.frozen?, h]

theorem own_lower {w : World} {b b' e z n : Nat} {v : Value} {L : List Value} (h : w.ownsRow b e z v n L) (hb : b' ≤ b) : w.ownsRow b' e z v n L := by
  refine ⟨h.1, ?_⟩
  rcases h.2 with h1 | ⟨g, cap, cur, e1, h2, h3⟩
  · exact .inl h1
  · exact .inr ⟨g, cap, cur, e1, Nat.le_trans hb h2, h3⟩
theorem own_form {w : World} {b e z n : Nat} {v : Value} {L : List Value} (h : w.ownsRow b e z v n L) : ∃ ao cp, v = .slice ao n cp := by
  rcases h.2 with ⟨rfl, rfl⟩ | ⟨g, cap, cur, rfl, _⟩
  · exact ⟨_, _, rfl⟩
  · exact ⟨_, _, rfl⟩

end Go.Proofs.Ytaopfdgebibpeaa
