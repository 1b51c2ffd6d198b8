/-
  Atoms as cells; the contracts of the reference's Is and Atoms.
-/
import Derived.Test.YtffbkgmagjkogabDoorDpJ
import Derived.Test.YtffbkgmagjkogabDoorTxRefP
import Derived.Deep.RegionLaw
import Derived.Deep.AppendLies
namespace Go.Proofs.YtffbkgmagjkogabDoor
open Go.ChangeShapes Go.WideShapes Go.ChangeAt Go.RowKit Go.PlainAid

/-- Atoms as cells. -/
def acs (l : List Atm) : List Value := (l.map fun x => [Value.int .i64 x.c, .int .i64 x.q, .int .i64 x.n, .int .i64 x.z]).flatten
theorem acs_append (a b : List Atm) : acs (a ++ b) = acs a ++ acs b := by simp [acs]
theorem acs_one (x : Atm) : acs [x] = [Value.int .i64 x.c, .int .i64 x.q, .int .i64 x.n, .int .i64 x.z] := by simp [acs]
theorem acs_cons (x : Atm) (l : List Atm) : acs (x :: l) = .int .i64 x.c :: .int .i64 x.q :: .int .i64 x.n :: .int .i64 x.z :: acs l := by simp [acs]
theorem acs_length : ∀ (l : List Atm), (acs l).length = l.length * 4
  | [] => rfl
  | x :: l => by rw [acs_cons]; simp only [List.length_cons, acs_length l]; omega
theorem acs_at : ∀ (l : List Atm) (i : Nat) (x : Atm), l[i]? = some x → (acs l)[i * 4]? = some (.int .i64 x.c) ∧ (acs l)[i * 4 + 1]? = some (.int .i64 x.q) ∧ (acs l)[i * 4 + 2]? = some (.int .i64 x.n) ∧ (acs l)[i * 4 + 3]? = some (.int .i64 x.z)
  | [], i, x, h => by simp at h
  | y :: l, 0, x, h => by simp at h; subst h; simp [acs_cons]
  | y :: l, i + 1, x, h => by
    have := acs_at l i x (by simpa using h)
    rw [acs_cons, show (i + 1) * 4 = i * 4 + 1 + 1 + 1 + 1 by omega]
    simpa using this
/-- Atoms in the world. -/
def RdA (w : World) (v : Value) (l : List Atm) : Prop :=
  ∃ (ao : Option Addr) (cp : Nat), v = .slice ao l.length cp ∧ l.length ≤ cp ∧ ∀ i x, l[i]? = some x → ∃ b off, ao = some ⟨b, off, none⟩ ∧ b < w.heap.size ∧
    w.cell? ⟨b, off + i * 4, none⟩ = some (.int .i64 x.c) ∧ w.cell? ⟨b, off + i * 4 + 1, none⟩ = some (.int .i64 x.q) ∧ w.cell? ⟨b, off + i * 4 + 2, none⟩ = some (.int .i64 x.n) ∧ w.cell? ⟨b, off + i * 4 + 3, none⟩ = some (.int .i64 x.z)
theorem RdA.below {w w' : World} {v : Value} {l : List Atm} (h : RdA w v l) (hb : Below w.heap.size w w') : RdA w' v l := by
  obtain ⟨ao, cp, e, hc, h⟩ := h
  refine ⟨ao, cp, e, hc, fun i r hr => ?_⟩
  obtain ⟨b, off, e1, h1, c0, c1, c2, c3⟩ := h i r hr
  have g : ∀ j, w'.cell? ⟨b, j, none⟩ = w.cell? ⟨b, j, none⟩ := fun j => hb.cell (p := ⟨b, j, none⟩) h1
  exact ⟨b, off, e1, Nat.lt_of_lt_of_le h1 hb.size, by rw [g]; exact c0, by rw [g]; exact c1, by rw [g]; exact c2, by rw [g]; exact c3⟩
theorem atG_at (c q : Int) : ∀ (zs : List Int) (n : Int) (i : Nat) (z : Int), zs[i]? = some z → (atG c q n zs)[i]? = some ⟨c, q, n + (i : Int), z⟩
  | [], n, i, z, h => by simp at h
  | y :: zs, n, 0, z, h => by simp at h; subst h; simp [atG]
  | y :: zs, n, i + 1, z, h => by
    rw [atG, List.getElem?_cons_succ, atG_at c q zs (n + 1) i z (by simpa using h)]
    congr 2
    omega
theorem atG_take1 (c q n : Int) (zs : List Int) (i : Nat) (z : Int) (h : zs[i]? = some z) : atG c q n (zs.take (i + 1)) = atG c q n (zs.take i) ++ [⟨c, q, n + (i : Int), z⟩] := by
  have hi : i < zs.length := (List.getElem?_eq_some_iff.1 h).1
  have e : (atG c q n zs)[i]? = some ⟨c, q, n + (i : Int), z⟩ := atG_at c q zs n i z h
  have hi2 : i < (atG c q n zs).length := by rw [atG_len]; exact hi
  rw [← atG_take, ← atG_take, List.take_succ_eq_append_getElem hi2]
  congr 2
  have := List.getElem?_eq_getElem hi2
  rw [e] at this
  exact (Option.some.inj this).symm

theorem iv_get {P : List Int} {j : Nat} {z : Int} (h : P[j]? = some z) : (iv P)[j]? = some (.int .i64 z) := by simp [iv, h]


/-- Are two the same atom? -/
def Atm.same (x y : Atm) : Bool := decide (x.key = y.key)
end Go.Proofs.YtffbkgmagjkogabDoor
