/-
  'live': the answers that the document gives.
-/
import Derived.Test.YthkkdbcflfhmaabTakeR
namespace Go.Proofs.Ythkkdbcflfhmaab
open Go.ChangeShapes Go.WideShapes Go.ChangeAt Go.RowKit Go.PlainAid

theorem numB300 : numB 300 = [172, 2] := by decide
theorem wordB1 : wordB 1 = [0, 0, 0, 1] := by decide
theorem tk300 : tk ⟨#[172, 2]⟩ 0 1125899906842624 = (300, 2, 0) := by decide

theorem num300 (w : World) : Calls Try.prog 9 #[.int .i64 300] w fun e w' => e = .returned (.tuple #[.string ⟨#[172, 2]⟩, .int .i64 0]) ∧ Below w.heap.size w w' := by
  have h := num_ok 300 w (by decide)
  rw [numB300] at h
  exact h
theorem take300 (w : World) : Calls Try.prog 19 #[.string ⟨#[172, 2]⟩, .int .i64 0] w fun e w' => e = .returned (.tuple #[.int .i64 300, .int .i64 2, .int .i64 0]) ∧ w = w' := by
  have h := takeNum_any ⟨#[172, 2]⟩ 0 w (by decide)
  rw [tk300] at h
  exact h
theorem word1 (w : World) : Calls Try.prog 17 #[.int .u32 1] w fun e w' => e = .returned (.string ⟨#[0, 0, 0, 1]⟩) ∧ Below w.heap.size w w' := by
  have h := word_any 1 w (by decide)
  rw [wordB1] at h
  exact h

theorem live_any (w : World) : Calls Try.prog 15 #[] w fun e w' => e = .returned (.bool true) ∧ Below w.heap.size w w' := by
  go_enter Try.func15, Try.ntmps15
  go_wp2_with (first | (go_at_call 9; refine (num300 _).mono ?_; rintro e w1 ⟨rfl, hb1⟩) | (go_at_call 19; refine (take300 _).mono ?_; rintro e w2 ⟨rfl, rfl⟩) | (go_at_call 17; refine (word1 _).mono ?_; rintro e w3 ⟨rfl, hb3⟩))
  go_ret
  exact ⟨rfl, hb1.trans (hb3.mono hb1.size)⟩
end Go.Proofs.Ythkkdbcflfhmaab
