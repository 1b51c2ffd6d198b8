/-
  The contract of live.
-/
import Derived.Test.YtgceileakcjmdaaWrIWrJ
namespace Go.Proofs.Ytgceileakcjmdaa
open Go.ChangeShapes Go.WideShapes Go.ChangeAt Go.RowKit Go.PlainAid

set_option maxRecDepth 20000 in
set_option maxHeartbeats 1000000 in
theorem live16_any (w : World) : Calls Try.prog 10 #[] w fun e w' => e = .returned (.bool true) ∧ Below w.heap.size w w' := by
  have hE := wencode_any lvA (.slice none 0 0) w (RdD.nil _) (by decide) (by simp [lvA])
  rw [lvA_form] at hE
  have hD := fun W => wdecode_any ⟨#[1, 1, 2, 0, 1, 4, 1, 2, 1, 120]⟩ W (by decide)
  rw [lvB_form] at hD
  have hS := fun u v W h1 h2 => sameM_true lvB u v W (by decide) h1 h2
  have hl := fun W => lit_rdd [⟨2, 0, ⟨#[120]⟩⟩] W
  unfold MsD.fs at hE hD hS
  simp only [lvA, lvB] at hE hD hS
  go_enter Try.func10, Try.ntmps10
  go_wp2_with fail
  refine hE.mono ?_
  clear hE
  rintro e w1 ⟨rfl, hb1⟩
  go_wp2_with fail
  refine (hD w1).mono ?_
  clear hD
  rintro e w2 ⟨u2, rfl, ho2, hb2⟩
  have r2 := rdd_own ho2
  obtain ⟨ao, cp, rfl⟩ := own_form ho2
  have hB2 := chain hb1 hb2
  clear ho2 hb1 hb2
  go_wp2_with fail
  have hl1 : RdD ((w2.alloc (.cells #[.int .i64 1, .int .i64 1, .int .i64 2, .int .i64 1, .int .i64 0, .int .i64 0, .slice ao 1 cp] 24)).alloc (.cells #[.int .i64 2, .int .i64 0, .string ⟨#[120]⟩] 35)) (.slice (some ⟨w2.heap.size + 1, 0, none⟩) 1 1) [⟨2, 0, ⟨#[120]⟩⟩] := by
    have := hl (w2.alloc (.cells #[.int .i64 1, .int .i64 1, .int .i64 2, .int .i64 1, .int .i64 0, .int .i64 0, .slice ao 1 cp] 24))
    rw [show (w2.alloc (.cells #[.int .i64 1, .int .i64 1, .int .i64 2, .int .i64 1, .int .i64 0, .int .i64 0, .slice ao 1 cp] 24)).heap.size = w2.heap.size + 1 by simp] at this
    exact this
  have hb3 : Below w2.heap.size w2 ((w2.alloc (.cells #[.int .i64 1, .int .i64 1, .int .i64 2, .int .i64 1, .int .i64 0, .int .i64 0, .slice ao 1 cp] 24)).alloc (.cells #[.int .i64 2, .int .i64 0, .string ⟨#[120]⟩] 35)) := ((Below.refl _ w2).alloc (Nat.le_refl _) _).alloc (by simp) _
  have r3 := r2.below hb3
  have hB3 := hB2.trans (hb3.mono hB2.size)
  refine (hS _ _ _ r3 hl1).mono ?_
  rintro e w4 ⟨rfl, hb4⟩
  clear hS hl hl1 r2 r3 hb3
  go_wp2_with fail
  go_ret
  exact ⟨rfl, hB3.trans (hb4.mono hB3.size)⟩
end Go.Proofs.Ytgceileakcjmdaa
