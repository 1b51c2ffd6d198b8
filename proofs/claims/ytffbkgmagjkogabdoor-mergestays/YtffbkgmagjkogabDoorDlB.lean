/-
  The contracts of lengths and stepsOf, Check, Base and Target.
-/
import Derived.Test.YtffbkgmagjkogabDoorDlA
namespace Go.Proofs.YtffbkgmagjkogabDoor
open Go.ChangeShapes Go.WideShapes Go.ChangeAt Go.RowKit Go.PlainAid

/-- The slice v reads as these values, one a cell. -/
def RdV (w : World) (v : Value) (xs : List Value) : Prop :=
  ∃ ao cp, v = .slice ao xs.length cp ∧ ∀ (i : Nat) (x : Value), xs[i]? = some x → ∃ b off, ao = some ⟨b, off, none⟩ ∧ b < w.heap.size ∧ w.cell? ⟨b, off + i, none⟩ = some x

theorem RdV.below {w w' : World} {v : Value} {l : List Value} (h : RdV w v l) (hb : Below w.heap.size w w') : RdV w' v l := by
  obtain ⟨ao, cp, e, h1⟩ := h
  refine ⟨ao, cp, e, fun i o hi => ?_⟩
  obtain ⟨b, off, e1, hl, c0⟩ := h1 i o hi
  exact ⟨b, off, e1, Nat.lt_of_lt_of_le hl hb.size, (hb.cell (p := ⟨b, off + i, none⟩) hl).trans c0⟩
theorem rdv_own {w : World} {base e : Nat} {v : Value} {xs : List Value} {n : Nat} (h : w.ownsRow base e 1 v n xs) : RdV w v xs := by
  have hl := h.1
  rcases h.2 with ⟨rfl, h0⟩ | ⟨g, cap, cur, rfl, hb, hg, hn, _, hc, ht⟩
  · subst h0
    have : xs = [] := List.eq_nil_of_length_eq_zero (by omega)
    subst this
    exact ⟨none, 0, rfl, fun i x h => by simp at h⟩
  · refine ⟨_, cap, by rw [hl, Nat.mul_one], fun i x hx => ⟨g, 0, rfl, ?_, ?_⟩⟩
    · exact (h.lt g rfl).2
    · have := h.cells (g := g) rfl i x hx
      have hadd : (⟨g, 0, none⟩ : Addr).add i = ⟨g, 0 + i, none⟩ := by unfold Addr.add; split <;> simp_all
      rw [hadd] at this
      exact this

def St.b : St → Nat
  | .keep n => n
  | .rem n => n
  | .ins _ => 0
def St.c : St → Nat
  | .keep n => n
  | .rem _ => 0
  | .ins t => (cpl t).toNat
def bsum (l : List St) : Nat := (l.map St.b).sum
def tsum (l : List St) : Nat := (l.map St.c).sum
/-- A step that may be. -/
def St.Ok : St → Prop
  | .keep n => 1 ≤ n ∧ n ≤ 1000
  | .rem n => 1 ≤ n ∧ n ≤ 1000
  | .ins t => 0 < cpl t ∧ t.size ≤ 140737488355328

theorem bsum_append (a b : List St) : bsum (a ++ b) = bsum a + bsum b := by simp [bsum]
theorem tsum_append (a b : List St) : tsum (a ++ b) = tsum a + tsum b := by simp [tsum]
theorem bsum_take (l : List St) (k : Nat) (h : k < l.length) : bsum (l.take (k + 1)) = bsum (l.take k) + (l[k]).b := by
  rw [List.take_succ_eq_append_getElem h, bsum_append]; simp [bsum]
theorem tsum_take (l : List St) (k : Nat) (h : k < l.length) : tsum (l.take (k + 1)) = tsum (l.take k) + (l[k]).c := by
  rw [List.take_succ_eq_append_getElem h, tsum_append]; simp [tsum]
theorem st_bd {s : St} (h : s.Ok) : s.b ≤ 1000 ∧ s.c ≤ 140737488355328 := by
  cases s with
  | keep n => simp [St.Ok] at h; simp [St.b, St.c]; omega
  | rem n => simp [St.Ok] at h; simp [St.b, St.c]; omega
  | ins t => simp [St.Ok] at h; have := cpl_le t; simp [St.b, St.c]; omega
theorem sum_bd : ∀ (l : List St), (∀ s ∈ l, s.Ok) → bsum l ≤ 1000 * l.length ∧ tsum l ≤ 140737488355328 * l.length
  | [], _ => by simp [bsum, tsum]
  | s :: l, h => by
    have h1 := st_bd (h s (by simp))
    have h2 := sum_bd l (fun x hx => h x (by simp [hx]))
    have e1 : bsum (s :: l) = s.b + bsum l := by simp [bsum]
    have e2 : tsum (s :: l) = s.c + tsum l := by simp [tsum]
    rw [e1, e2, List.length_cons]
    omega
theorem ok_take {l : List St} (h : ∀ s ∈ l, s.Ok) (k : Nat) : ∀ s ∈ l.take k, s.Ok := fun s hs => h s (List.mem_of_mem_take hs)


end Go.Proofs.YtffbkgmagjkogabDoor
