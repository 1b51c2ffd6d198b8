/-
  What the rows of shelf share.
-/
import Derived.Test.YtkmdjhdininimaaShX
import Derived.Test.YtkmdjhdininimaaRows
import Derived.Deep.Slices
import Derived.PlainAid
import Derived.SizedLaws
import Derived.ChangeOld
namespace Go.Proofs.Ytkmdjhdininimaa
open Go.RowKit Go.Maps Go.ChangeShapes Go.WideShapes

theorem wf_bd {k : Int} (h : (Lit.int .i64 k).wf = true) : -9223372036854775808 ≤ k ∧ k ≤ 9223372036854775807 := by
  have e0 : IntKind.i64.min = -9223372036854775808 := by decide
  have e1 : IntKind.i64.max = 9223372036854775807 := by decide
  simpa [Lit.wf, e0, e1] using h
theorem crash_rdy (s : DevS) (m : List UInt8) (lost : Bool) : rdy (s.crashed m) s.age lost = false := by
  have h : ¬ (s.crashed m).age = s.age := by
    show ¬ wrap64 (s.age + 1) = s.age
    unfold wrap64
    omega
  unfold rdy
  simp [h]
theorem lost_rdy (s : DevS) (age : Int) : rdy s age true = false := by simp [rdy]
theorem down_rdy {s : DevS} (h : s.up = false) (age : Int) (lost : Bool) : rdy s age lost = false := by simp [rdy, h]
theorem bytes_len (x : ByteArray) : x.data.toList.length = x.size := by rw [Array.length_toList]; rfl
theorem room_of {s : DevS} {n : Nat} (h : s.n = n) : s.room = min ((n - 1) / 2 * 64) 40000 := by unfold DevS.room DevS.each; rw [h]
section
variable {W0 W : World} {q p bs bw : Nat} {s : DevS} {t : List UInt8}
theorem lv_putx (h : Lv W0 W q p bs bw s t) (x : ByteArray) (hl : x.size ≤ s.room) : Calls Try.prog 24 #[.pointer (some ⟨q, 0, none⟩), .string x] W fun e w' => ∃ s', e = .returned (.int .i64 0) ∧ s'.n = s.n ∧ Lv W0 w' q p bs bw s' x.data.toList ∧ Only [p, bs, bw, q] W w' := by
  have := lv_put h x.data.toList (by rw [bytes_len]; exact hl)
  rw [mk_data] at this
  exact this
theorem lv_getx {x : ByteArray} (h : Lv W0 W q p bs bw s x.data.toList) : Calls Try.prog 17 #[.pointer (some ⟨q, 0, none⟩)] W fun e w' => e = .returned (.string x) ∧ Lv W0 w' q p bs bw s x.data.toList ∧ Below W.heap.size W w' := by
  have := lv_get h
  rw [mk_data] at this
  exact this
theorem lv_get0 (h : Lv W0 W q p bs bw s []) : Calls Try.prog 17 #[.pointer (some ⟨q, 0, none⟩)] W fun e w' => e = .returned (.string ⟨#[]⟩) ∧ Lv W0 w' q p bs bw s [] ∧ Below W.heap.size W w' := lv_get h
end
end Go.Proofs.Ytkmdjhdininimaa
