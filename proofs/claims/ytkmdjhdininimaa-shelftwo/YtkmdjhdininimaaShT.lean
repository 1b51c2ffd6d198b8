/-
  The text that stands in sectors, as data.
-/
import Derived.Test.YtkmdjhdininimaaShS
namespace Go.Proofs.Ytkmdjhdininimaa
open Go.RowKit Go.Maps

/-- The bytes of k sectors from a given one on. -/
def DevS.bys (s : DevS) (x k : Nat) : List UInt8 := (List.range k).flatMap fun j => s.readAt (x + j)
/-- The text of so many bytes that begins at a sector. -/
def DevS.txt (s : DevS) (x ln : Nat) : List UInt8 := (s.bys x ((ln + 63) / 64)).take ln
theorem bys_succ (s : DevS) (x k : Nat) : s.bys x (k + 1) = s.bys x k ++ s.readAt (x + k) := by
  simp [DevS.bys, List.range_succ, List.flatMap_append]
theorem bys_len {s : DevS} (h : ∀ i, (s.readAt i).length = 64) (x k : Nat) : (s.bys x k).length = 64 * k := by
  induction k with
  | zero => rfl
  | succ k ih => rw [bys_succ, List.length_append, ih, h]; omega
theorem bys_take {s : DevS} (h : ∀ i, (s.readAt i).length = 64) (x k ln : Nat) (hk : 64 * k ≤ ln) : (s.bys x (k + 1)).take ln = s.bys x k ++ (s.readAt (x + k)).take (ln - 64 * k) := by
  rw [bys_succ, List.take_append, bys_len h, List.take_of_length_le (by rw [bys_len h]; exact hk)]
theorem txt_len {s : DevS} (h : ∀ i, (s.readAt i).length = 64) (x ln : Nat) : (s.txt x ln).length = ln := by
  unfold DevS.txt
  rw [List.length_take, bys_len h]
  omega
theorem txt_of {s : DevS} (x k ln : Nat) (h1 : ln ≤ 64 * k) (h2 : 64 * k < ln + 64) : (s.bys x k).take ln = s.txt x ln := by
  have : k = (ln + 63) / 64 := by omega
  rw [this]; rfl
end Go.Proofs.Ytkmdjhdininimaa
