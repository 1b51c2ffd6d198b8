/-
  Operations and steps as data; the contracts of stepOf and of the methods op.
-/
import Derived.Test.YtffbkgmagjkogabDoorTxUtf
import Derived.Laws.Rows
namespace Go.Proofs.YtffbkgmagjkogabDoor
open Go.ChangeShapes Go.WideShapes Go.ChangeAt Go.RowKit Go.PlainAid

/-- An operation. -/
structure OpD where
  k : Int
  n : Int
  t : ByteArray

def OpD.val (o : OpD) : Value := .agg #[.int .i64 o.k, .int .i64 o.n, .string o.t]
/-- Its numbers are ints, its text is no longer than texts are. -/
structure OpD.Ok (o : OpD) : Prop where
  k0 : -9223372036854775808 ≤ o.k
  k1 : o.k ≤ 9223372036854775807
  n0 : -9223372036854775808 ≤ o.n
  n1 : o.n ≤ 9223372036854775807
  t1 : o.t.size ≤ maxLen

/-- At v lies a delta. -/
def RdD (w : World) (v : Value) (l : List OpD) : Prop :=
  ∃ ao cp, v = .slice ao l.length cp ∧ (l.length ≤ cp ∧ (ao = none → cp = 0)) ∧ ∀ (i : Nat) (o : OpD), l[i]? = some o → ∃ b off, ao = some ⟨b, off, none⟩ ∧ b < w.heap.size ∧ w.cell? ⟨b, off + i * 3, none⟩ = some (.int .i64 o.k) ∧ w.cell? ⟨b, off + i * 3 + 1, none⟩ = some (.int .i64 o.n) ∧ w.cell? ⟨b, off + i * 3 + 2, none⟩ = some (.string o.t)

theorem RdD.below {w w' : World} {v : Value} {l : List OpD} (h : RdD w v l) (hb : Below w.heap.size w w') : RdD w' v l := by
  obtain ⟨ao, cp, e, h0, h1⟩ := h
  refine ⟨ao, cp, e, h0, fun i o hi => ?_⟩
  obtain ⟨b, off, e1, hl, c0, c1, c2⟩ := h1 i o hi
  exact ⟨b, off, e1, Nat.lt_of_lt_of_le hl hb.size, (hb.cell (p := ⟨b, off + i * 3, none⟩) hl).trans c0, (hb.cell (p := ⟨b, off + i * 3 + 1, none⟩) hl).trans c1, (hb.cell (p := ⟨b, off + i * 3 + 2, none⟩) hl).trans c2⟩
theorem RdD.nil (w : World) : RdD w (.slice none 0 0) [] := ⟨none, 0, rfl, ⟨Nat.le_refl _, fun _ => rfl⟩, fun i o h => by simp at h⟩

/-- How many code points a text has; -1: it is not valid. -/
def cplGo (s : ByteArray) : Nat → Nat → Nat → Int
  | 0, _, k => (k : Int)
  | f + 1, p, k => if p < s.size then (if (nx s p).2 = 0 then -1 else cplGo s f (p + (nx s p).2.toNat) (k + 1)) else (k : Int)
def cpl (s : ByteArray) : Int := cplGo s (s.size + 1) 0 0

theorem cplGo_ok {s : ByteArray} {n : Nat} (hv : Valid s n) : ∀ (f j : Nat), j ≤ n → n - j < f → cplGo s f (pos s j) j = (n : Int)
  | 0, _, _, h => by omega
  | f + 1, j, hj, hf => by
    rw [cplGo]
    by_cases h : j = n
    · subst h
      rw [if_neg (by rw [hv.2]; omega)]
    · have h1 := hv.1 j (by omega)
      rw [if_pos h1.1, if_neg h1.2]
      exact cplGo_ok hv f (j + 1) (by omega) (by omega)
theorem cplGo_bad {s : ByteArray} {n : Nat} (hv : Bad s n) : ∀ (f j : Nat), j ≤ n → n - j < f → cplGo s f (pos s j) j = -1
  | 0, _, _, h => by omega
  | f + 1, j, hj, hf => by
    rw [cplGo]
    by_cases h : j = n
    · subst h
      rw [if_pos hv.2.1, if_pos hv.2.2]
    · have h1 := hv.1 j (by omega)
      rw [if_pos h1.1, if_neg h1.2]
      exact cplGo_bad hv f (j + 1) (by omega) (by omega)
theorem cpl_ok {s : ByteArray} {n : Nat} (hv : Valid s n) : cpl s = (n : Int) := by
  have h := pos_le hv.1 n (Nat.le_refl _)
  exact cplGo_ok hv (s.size + 1) 0 (by omega) (by omega)
theorem cpl_bad {s : ByteArray} {n : Nat} (hv : Bad s n) : cpl s = -1 := by
  have h := pos_le hv.1 n (Nat.le_refl _)
  exact cplGo_bad hv (s.size + 1) 0 (by omega) (by omega)
theorem cpl_valid {s : ByteArray} (h : 0 ≤ cpl s) : Valid s (cpl s).toNat := by
  rcases valid_or_bad s with ⟨n, hv⟩ | ⟨k, hb⟩
  · rw [cpl_ok hv]; simpa using hv
  · rw [cpl_bad hb] at h; omega
theorem cpl_le (s : ByteArray) : -1 ≤ cpl s ∧ cpl s ≤ s.size := by
  rcases valid_or_bad s with ⟨n, hv⟩ | ⟨k, hb⟩
  · have h := pos_le hv.1 n (Nat.le_refl _)
    rw [cpl_ok hv]; omega
  · rw [cpl_bad hb]; omega

/-- A step. -/
inductive St where
  | keep (n : Nat)
  | rem (n : Nat)
  | ins (t : ByteArray)
def St.op : St → OpD
  | .keep n => ⟨1, n, ⟨#[]⟩⟩
  | .rem n => ⟨3, n, ⟨#[]⟩⟩
  | .ins t => ⟨2, 0, t⟩
/-- The step that an operation is. -/
def stOf (o : OpD) : Option St :=
  if 1 ≤ o.n ∧ o.n ≤ 1000 ∧ o.t.size = 0 then (if o.k = 1 then some (.keep o.n.toNat) else if o.k = 3 then some (.rem o.n.toNat) else none)
  else if o.k = 2 ∧ o.n = 0 ∧ 0 < cpl o.t then some (.ins o.t) else none

theorem empty_eq {s : ByteArray} (h : s.size = 0) : s = ⟨#[]⟩ := ByteArray.ext (Array.eq_empty_of_size_eq_zero h)
theorem empty_tt {s : ByteArray} (h : s.size = 0) : s.toList.isEmpty = true := by
  rw [Go.ByteArray.toList_eq]
  have : s.data.toList.length = 0 := by rw [data_len]; exact h
  cases hh : s.data.toList with
  | nil => rfl
  | cons a l => rw [hh] at this; simp at this
theorem empty_ff {s : ByteArray} (h : s.size ≠ 0) : s.toList.isEmpty = false := by
  rw [Go.ByteArray.toList_eq]
  have : s.data.toList.length ≠ 0 := by rw [data_len]; exact h
  cases hh : s.data.toList with
  | nil => rw [hh] at this; simp at this
  | cons a l => rfl




theorem Tryd.sizeOp : (Tryd.prog.info? 30).map (·.size) = some 3 := by kernel_rfl
end Go.Proofs.YtffbkgmagjkogabDoor
