/-
  Room, Dev, on; the closures of New and Open.
-/
import Derived.Test.YtkmdjhdininimaaShJ
namespace Go.Proofs.Ytkmdjhdininimaa
open Go.RowKit Go.Maps

set_option maxRecDepth 20000 in
theorem sroom_any {w : World} {q p bs bw : Nat} {s : DevS} {age : Int} {lost : Bool} (h : IsDev w p bs bw s) (hs : SB w q p age lost) :
    Calls Try.prog 18 #[.pointer (some ⟨q, 0, none⟩)] w fun e w' => e = .returned (.int .i64 (if rdy s age lost = true then (s.room : Int) else 0)) ∧ IsDev w' p bs bw s ∧ SB w' q p age (lost || !rdy s age lost) ∧ Only [q] w w' := by
  have hap := hs.apart h
  have c := ready_any h hs
  cases hr : rdy s age lost with
  | true =>
    rw [hr] at c
    rw [if_pos rfl]
    have cR := fun W (hW : Below w.heap.size w W) => room_any (h.below hW) (hs.below hW)
    generalize s.room = rm at *
    clear hr
    go_enter Try.func18, Try.ntmps18
    go_wp2_with fail
    refine c.mono ?_
    rintro e w1 ⟨rfl, q1⟩
    go_wp2_with fail
    refine (cR _ q1).mono ?_
    rintro e w2 ⟨rfl, rfl⟩
    go_wp2_with fail
    go_ret
    exact ⟨rfl, h.below q1, by simpa using hs.below q1, Only.of_below q1⟩
  | false =>
    rw [hr] at c
    rw [if_neg (by simp)]
    have cN := fun W (hW : Below w.heap.size w W) => note_any (hs.below hW) 3
    clear hr
    go_enter Try.func18, Try.ntmps18
    go_wp2_with fail
    refine c.mono ?_
    rintro e w1 ⟨rfl, q1⟩
    go_wp2_with fail
    refine (cN _ q1).mono ?_
    rintro e w2 ⟨rfl, hs2, ho2⟩
    go_wp2_with fail
    go_ret
    simp at hap
    exact ⟨rfl, (h.below q1).kept ho2 (by simp; omega) (by simp; omega) (by simp; omega), by simpa using hs2, (Only.of_below q1).trans ho2⟩
set_option maxRecDepth 20000 in
theorem sdev_any {w : World} {q p bs bw : Nat} {s : DevS} {age : Int} {lost : Bool} (h : IsDev w p bs bw s) (hs : SB w q p age lost) :
    Calls Try.prog 27 #[.pointer (some ⟨q, 0, none⟩)] w fun e w' => e = .returned (.pointer (some ⟨p, 0, none⟩)) ∧ IsDev w' p bs bw s ∧ SB w' q p age (lost || !rdy s age lost) ∧ Only [q] w w' := by
  have hap := hs.apart h
  have c := ready_any h hs
  cases hr : rdy s age lost with
  | true =>
    rw [hr] at c
    have hc := fun W (hW : Below w.heap.size w W) => (hs.below hW).cells.1
    clear hr
    go_enter Try.func27, Try.ntmps27
    go_wp2_with fail
    refine c.mono ?_
    rintro e w1 ⟨rfl, q1⟩
    have d := hc _ q1
    go_wp2_with fail
    go_ret
    exact ⟨rfl, h.below q1, by simpa using hs.below q1, Only.of_below q1⟩
  | false =>
    rw [hr] at c
    have cN := fun W (hW : Below w.heap.size w W) => note_any (hs.below hW) 3
    clear hr
    go_enter Try.func27, Try.ntmps27
    go_wp2_with fail
    refine c.mono ?_
    rintro e w1 ⟨rfl, q1⟩
    go_wp2_with fail
    refine (cN _ q1).mono ?_
    rintro e w2 ⟨rfl, hs2, ho2⟩
    have d := hs2.cells.1
    go_wp2_with fail
    go_ret
    simp at hap
    exact ⟨rfl, (h.below q1).kept ho2 (by simp; omega) (by simp; omega) (by simp; omega), by simpa using hs2, (Only.of_below q1).trans ho2⟩
set_option maxRecDepth 20000 in
theorem on_nil (w : World) : Calls Try.prog 34 #[.pointer none] w fun e w' => e = thr 1 ∧ w' = w := by
  unfold thr
  go_enter Try.func34, Try.ntmps34
  go_wp2_with fail
  exact ⟨rfl, rfl, rfl⟩
set_option maxRecDepth 20000 in
theorem on_any {w : World} {p bs bw : Nat} {s : DevS} (h : IsDev w p bs bw s) :
    Calls Try.prog 34 #[.pointer (some ⟨p, 0, none⟩)] w fun e w' => e = (if s.up = true then .returned (.pointer (some ⟨w.heap.size, 0, none⟩)) else thr 3) ∧ SB w' w.heap.size p s.age false ∧ Below w.heap.size w w' := by
  have cA := age_any h
  have hA : Below w.heap.size w (w.alloc (.cells #[.pointer (some ⟨p, 0, none⟩), .int .i64 s.age, .bool false] 79)) := (Below.refl _ w).alloc (Nat.le_refl _) _
  have hS : SB (w.alloc (.cells #[.pointer (some ⟨p, 0, none⟩), .int .i64 s.age, .bool false] 79)) w.heap.size p s.age false := heap_alloc_last w _
  have cM := must_ready (h.below hA) hS
  have hrd : rdy s s.age false = s.up := by unfold rdy; simp
  rw [hrd] at cM
  cases hu : s.up with
  | true =>
    rw [hu, if_pos rfl] at cM
    rw [if_pos rfl]
    generalize s.age = ag at *
    go_enter Try.func34, Try.ntmps34
    go_wp2_with fail
    refine cA.mono ?_
    rintro e w1 ⟨rfl, rfl⟩
    go_wp2_with fail
    refine cM.mono ?_
    rintro e w2 ⟨rfl, hb2⟩
    go_wp2_with fail
    go_ret
    exact ⟨rfl, hS.below hb2, chainS hA hb2⟩
  | false =>
    rw [hu, if_neg (by simp)] at cM
    rw [if_neg (by simp)]
    unfold thr at cM ⊢
    generalize s.age = ag at *
    go_enter Try.func34, Try.ntmps34
    go_wp2_with fail
    refine cA.mono ?_
    rintro e w1 ⟨rfl, rfl⟩
    go_wp2_with (go_at_call 38; refine cM.mono ?_; rintro e w2 ⟨rfl, hb2⟩)
    exact ⟨rfl, rfl, hS.below hb2, chainS hA hb2⟩
end Go.Proofs.Ytkmdjhdininimaa
