/-
  'live': the answers that the document gives.
-/
import Derived.Test.YthkkdbcflfhmaaaCut
namespace Go.Proofs.Ythkkdbcflfhmaaa
open Go.ChangeShapes Go.WideShapes Go.ChangeAt Go.RowKit Go.PlainAid

theorem nxA0 : nx ⟨#[97, 195, 169, 226, 130, 172]⟩ 0 = (97, 1) := by decide
theorem nxA1 : nx ⟨#[97, 195, 169, 226, 130, 172]⟩ 1 = (233, 2) := by decide
theorem nxA3 : nx ⟨#[97, 195, 169, 226, 130, 172]⟩ 3 = (8364, 3) := by decide
theorem validA : Valid ⟨#[97, 195, 169, 226, 130, 172]⟩ 3 ∧ ptL ⟨#[97, 195, 169, 226, 130, 172]⟩ 3 = [97, 233, 8364] := by
  have p1 : pos ⟨#[97, 195, 169, 226, 130, 172]⟩ 1 = 1 := by simp [pos, nxA0]
  have p2 : pos ⟨#[97, 195, 169, 226, 130, 172]⟩ 2 = 3 := by rw [pos, p1, nxA1]; rfl
  have p3 : pos ⟨#[97, 195, 169, 226, 130, 172]⟩ 3 = 6 := by rw [pos, p2, nxA3]; rfl
  have hz : (⟨#[97, 195, 169, 226, 130, 172]⟩ : ByteArray).size = 6 := rfl
  refine ⟨⟨fun j hj => ?_, p3⟩, ?_⟩
  · rcases (show j = 0 ∨ j = 1 ∨ j = 2 by omega) with rfl | rfl | rfl
    · rw [pos, nxA0, hz]; exact ⟨by decide, by decide⟩
    · rw [p1, nxA1, hz]; exact ⟨by decide, by decide⟩
    · rw [p2, nxA3, hz]; exact ⟨by decide, by decide⟩
  · rw [ptL_succ, ptL_succ, ptL_succ]
    simp only [pt, p1, p2, nxA1, nxA3]
    rw [show pos ⟨#[97, 195, 169, 226, 130, 172]⟩ 0 = 0 from rfl, nxA0]
    rfl
theorem nxB0 : nx ⟨#[97, 195, 169, 98]⟩ 0 = (97, 1) := by decide
theorem nxB1 : nx ⟨#[97, 195, 169, 98]⟩ 1 = (233, 2) := by decide
theorem nxB3 : nx ⟨#[97, 195, 169, 98]⟩ 3 = (98, 1) := by decide
theorem posB : pos ⟨#[97, 195, 169, 98]⟩ 1 = 1 ∧ pos ⟨#[97, 195, 169, 98]⟩ 2 = 3 ∧ pos ⟨#[97, 195, 169, 98]⟩ 3 = 4 := by
  have p1 : pos ⟨#[97, 195, 169, 98]⟩ 1 = 1 := by simp [pos, nxB0]
  have p2 : pos ⟨#[97, 195, 169, 98]⟩ 2 = 3 := by rw [pos, p1, nxB1]; rfl
  have p3 : pos ⟨#[97, 195, 169, 98]⟩ 3 = 4 := by rw [pos, p2, nxB3]; rfl
  exact ⟨p1, p2, p3⟩
theorem validB : Valid ⟨#[97, 195, 169, 98]⟩ 3 := by
  obtain ⟨p1, p2, p3⟩ := posB
  have hz : (⟨#[97, 195, 169, 98]⟩ : ByteArray).size = 4 := rfl
  refine ⟨fun j hj => ?_, p3⟩
  rcases (show j = 0 ∨ j = 1 ∨ j = 2 by omega) with rfl | rfl | rfl
  · rw [pos, nxB0, hz]; exact ⟨by decide, by decide⟩
  · rw [p1, nxB1, hz]; exact ⟨by decide, by decide⟩
  · rw [p2, nxB3, hz]; exact ⟨by decide, by decide⟩
theorem badC : Bad ⟨#[255]⟩ 0 := ⟨fun j hj => by omega, by rw [pos]; decide, by rw [pos]; decide⟩
theorem textD : textR [128512] = (⟨#[240, 159, 152, 128]⟩, true) := by
  rw [textR, if_pos (by decide)]; rfl

theorem liveP (w : World) : Calls Try.prog 9 #[.string ⟨#[97, 195, 169, 226, 130, 172]⟩] w fun e w' => ∃ v, e = .returned (.tuple #[v, .bool true]) ∧ ReadsI w' v [97, 233, 8364] ∧ Below w.heap.size w w' := by
  refine (points_ok _ 3 w (by decide) validA.1).mono ?_
  rintro e w' ⟨v, he, ho, hb⟩
  rw [validA.2] at ho
  exact ⟨v, he, readsI_own ho, hb⟩
theorem liveT (v : Value) (w : World) (h : ReadsI w v [128512]) : Calls Try.prog 15 #[v] w fun e w' => e = .returned (.tuple #[.string ⟨#[240, 159, 152, 128]⟩, .bool true]) ∧ Below w.heap.size w w' := by
  have := text_any v [128512] w (by decide) h
  rw [textD] at this
  exact this
theorem liveC (w : World) : Calls Try.prog 17 #[.string ⟨#[97, 195, 169, 98]⟩, .int .i64 1, .int .i64 2] w fun e w' => e = .returned (.tuple #[.string ⟨#[195, 169]⟩, .int .i64 0]) ∧ Below w.heap.size w w' := by
  have := cut_ok ⟨#[97, 195, 169, 98]⟩ 1 1 3 w (by decide) validB (by decide)
  rw [posB.1, posB.2.1] at this
  exact this
theorem liveL (w : World) : Calls Try.prog 12 #[.string ⟨#[255]⟩] w fun e w' => e = .returned (.int .i64 (-1)) ∧ w = w' := len_bad _ 0 w (by decide) badC
theorem liveM (w : World) : Calls Try.prog 19 #[.string ⟨#[97]⟩, .string ⟨#[97, 98]⟩] w fun e w' => e = .returned (.int .i64 (-1)) ∧ w = w' := by
  have := compare_any ⟨#[97]⟩ ⟨#[97, 98]⟩ w
  rw [show Lib.compareBytes (⟨#[97]⟩ : ByteArray).data.toList (⟨#[97, 98]⟩ : ByteArray).data.toList = -1 by decide] at this
  exact this

theorem lit_reads (zs : List Int) (u : World) : ReadsI (u.alloc (.cells (iv zs).toArray 3)) (.slice (some ⟨u.heap.size, 0, none⟩) zs.length zs.length) zs := by
  refine .inr ⟨u.heap.size, 0, zs.length, rfl, fun i hi => ?_⟩
  have h := many_new u (iv zs) 3 i (.int .i64 (zs.getD i 0)) (by simp [iv, hi])
  have hadd : (⟨u.heap.size, 0, none⟩ : Addr).add i = ⟨u.heap.size, 0 + i, none⟩ := by unfold Addr.add; split <;> simp_all
  rw [hadd] at h
  exact h

theorem grow1 (w : World) (o : Obj) : Below w.heap.size w (w.alloc o) := (Below.refl _ _).alloc (Nat.le_refl _) _

set_option maxHeartbeats 1000000 in
theorem live_any (w : World) : Calls Try.prog 14 #[] w fun e w' => e = .returned (.bool true) ∧ Below w.heap.size w w' := by
  go_enter Try.func14, Try.ntmps14
  go_wp2_with (first | (go_at_call 9; refine (liveP _).mono ?_; rintro e w1 ⟨v1, rfl, hr1, hb1⟩) | (go_at_call 15; refine (liveT _ _ (lit_reads [128512] _)).mono ?_; rintro e w2 ⟨rfl, hb2⟩) | (go_at_call 17; refine (liveC _).mono ?_; rintro e w3 ⟨rfl, hb3⟩) | (go_at_call 11; refine (same_true _ _ [97, 233, 8364] _ (by decide) (readsI_below hr1 (chain (chain (chain (grow1 w1 _) hb2) hb3) (grow1 w3 _))) (lit_reads [97, 233, 8364] _)).mono ?_; rintro e w4 ⟨rfl, hb4⟩) | (go_at_call 12; refine (liveL _).mono ?_; rintro e w5 ⟨rfl, rfl⟩) | (go_at_call 19; refine (liveM _).mono ?_; rintro e w6 ⟨rfl, rfl⟩))
  go_ret
  exact ⟨rfl, chain (chain (chain (chain (chain hb1 (grow1 w1 _)) hb2) hb3) (grow1 w3 _)) hb4⟩
end Go.Proofs.Ythkkdbcflfhmaaa
