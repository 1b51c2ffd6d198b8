/-
  The contracts of the reference's Points and Len.
-/
import Derived.Test.YtffbkgmagjkogabDoorTxFirst
namespace Go.Proofs.YtffbkgmagjkogabDoor
open Go.ChangeShapes Go.WideShapes Go.ChangeAt Go.RowKit Go.PlainAid

theorem suf_size (s : ByteArray) (a : Nat) : (s.extract a s.size).size = s.size - a := by rw [ByteArray.size_extract]; omega
theorem suf_bt (s : ByteArray) (a i : Nat) (h : a + i < s.size) : bt (s.extract a s.size) i = bt s (a + i) := by
  rw [bt_data _ _ (by rw [suf_size]; omega), bt_data s _ h]
  congr 2
  simp only [Lib.extract_data]
  simp
theorem suf_at {s : ByteArray} {a : Nat} {F : List UInt8} (ha : a ≤ s.size) : At (s.extract a s.size) 0 F ↔ At s a F := by
  constructor
  · rintro ⟨h1, h2⟩
    rw [suf_size] at h1
    exact ⟨by omega, fun i hi => by rw [← suf_bt s a i (by omega)]; simpa using h2 i hi⟩
  · rintro ⟨h1, h2⟩
    exact ⟨by rw [suf_size]; omega, fun i hi => by rw [Nat.zero_add, suf_bt s a i (by omega)]; exact h2 i hi⟩
theorem suf_nx (s : ByteArray) (a : Nat) (ha : a ≤ s.size) : nx (s.extract a s.size) 0 = nx s a := by
  by_cases h : (nx s a).2 = 0
  · by_cases h' : (nx (s.extract a s.size) 0).2 = 0
    · rw [nx_pair _ _ h, nx_pair _ _ h']
    · obtain ⟨n, _, g2, g3, _⟩ := nx_of h'
      have := nx_at g2 ((suf_at ha).1 g3)
      rw [this] at h
      have hl := ptB_len n
      simp only at h
      omega
  · obtain ⟨n, g1, g2, g3, g4⟩ := nx_of h
    rw [nx_at g2 ((suf_at ha).2 g3), ← g1, ← g4]
theorem suf_suf (s : ByteArray) (a b : Nat) : (s.extract a s.size).extract b (s.extract a s.size).size = s.extract (a + b) s.size := by
  apply ByteArray.ext
  apply Array.ext'
  simp only [Lib.extract_data, suf_size]
  apply List.ext_getElem?
  intro i
  simp only [List.getElem?_take, List.getElem?_drop]
  by_cases h : i < s.size - a - b
  · rw [if_pos (by omega), if_pos (by omega), if_pos (by omega)]
    congr 1; omega
  · rw [if_neg (by omega)]
    by_cases h2 : i < s.size - (a + b)
    · omega
    · rw [if_neg h2]

/-- How long a text in a slot is. -/
def szV : Value → Nat | .string s => s.size | _ => 0

theorem slice_tail (t : ByteArray) (k : Nat) (r : Int) (hr : r = (k : Int)) (W : World) (h : k ≤ t.size) :
    (Instr.slice 9 (.string t) (some (.int .i64 r)) none none).run Tryd.prog W = .ok (.string (t.extract k t.size)) W := by
  subst hr
  rw [run_slice_string_l (P := Tryd.prog) W 9 t Tryd.underlying9 .i64 (k : Int) (by omega) (by omega), show ((k : Int)).toNat = k by omega]



end Go.Proofs.YtffbkgmagjkogabDoor
