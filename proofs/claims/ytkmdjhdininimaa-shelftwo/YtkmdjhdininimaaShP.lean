/-
  Open on a device whose heading is one.
-/
import Derived.Test.YtkmdjhdininimaaShO
namespace Go.Proofs.Ytkmdjhdininimaa
open Go.RowKit Go.Maps

theorem settle_age (s : DevS) : s.settle.age = s.age := by
  unfold DevS.settle
  split
  · rfl
  · unfold DevS.sync; split <;> rfl

set_option maxRecDepth 20000 in
set_option maxHeartbeats 1000000 in
theorem sopen_nil (w : World) :
    Calls Try.prog 15 #[.pointer none] w fun e w' => e = .returned (.tuple #[.pointer none, .int .i64 1]) ∧ Below w.heap.size w w' := by
  have hmf : ∀ (fn : Fn) (first cap : Array Value) (w : World), (Instr.makeFunc fn first cap).run Try.prog w = .ok (.func fn first cap) w := fun _ _ _ _ => rfl
  have hA : Below w.heap.size w ((w.alloc (.cells #[.pointer none] 32)).alloc (.cells #[.int .i64 0] 24)) := ((Below.refl _ w).alloc (Nat.le_refl _) _).alloc (by simp) _
  have hg := (Below.heap_alloc (w.alloc (.cells #[.pointer none] 32)) (.cells #[.int .i64 0] 24) w.heap.size (by simp)).trans (heap_alloc_last w (.cells #[.pointer none] 32))
  have he := heap_alloc_last (w.alloc (.cells #[.pointer none] 32)) (.cells #[.int .i64 0] 24)
  rw [World.size_alloc] at he
  have c1 := on_nil ((w.alloc (.cells #[.pointer none] 32)).alloc (.cells #[.int .i64 0] 24))
  unfold thr at c1
  go_enter_defers Try.func15, Try.ntmps15
  go_wp2_with (go_at_call 34; refine c1.mono ?_; rintro e w1 ⟨rfl, rfl⟩)
  refine leaves_cons (f := 36) (args := #[.pointer (some ⟨w.heap.size, 0, none⟩), .pointer (some ⟨w.heap.size + 1, 0, none⟩)]) (by simp) (by simp [go_sem]) ?_
  refine (open_catch 1 0 (.pointer none) he hg []).mono ?_
  rintro e u' w5 ⟨rfl, rfl, hc5, hd5, ho5⟩
  simp [Leaves, settle, results, Try.results15, go_sem, hc5, hd5]
  exact below_onlyS hA ho5 (by simp)
set_option maxRecDepth 20000 in
set_option maxHeartbeats 1000000 in
theorem sopen_down {w : World} {p bs bw : Nat} {s : DevS} (h : IsDev w p bs bw s) (hu : s.up = false) :
    Calls Try.prog 15 #[.pointer (some ⟨p, 0, none⟩)] w fun e w' => e = .returned (.tuple #[.pointer none, .int .i64 3]) ∧ Below w.heap.size w w' := by
  have hmf : ∀ (fn : Fn) (first cap : Array Value) (w : World), (Instr.makeFunc fn first cap).run Try.prog w = .ok (.func fn first cap) w := fun _ _ _ _ => rfl
  have hA : Below w.heap.size w ((w.alloc (.cells #[.pointer none] 32)).alloc (.cells #[.int .i64 0] 24)) := ((Below.refl _ w).alloc (Nat.le_refl _) _).alloc (by simp) _
  have hg := (Below.heap_alloc (w.alloc (.cells #[.pointer none] 32)) (.cells #[.int .i64 0] 24) w.heap.size (by simp)).trans (heap_alloc_last w (.cells #[.pointer none] 32))
  have he := heap_alloc_last (w.alloc (.cells #[.pointer none] 32)) (.cells #[.int .i64 0] 24)
  rw [World.size_alloc] at he
  have c1 := on_any (h.below hA)
  rw [hu, if_neg (by simp)] at c1
  unfold thr at c1
  clear h hu
  go_enter_defers Try.func15, Try.ntmps15
  go_wp2_with (go_at_call 34; refine c1.mono ?_; rintro e w1 ⟨rfl, -, hb1⟩)
  have hg1 := (hb1.block w.heap.size (by simp; omega)).trans hg
  have he1 := (hb1.block (w.heap.size + 1) (by simp)).trans he
  refine leaves_cons (f := 36) (args := #[.pointer (some ⟨w.heap.size, 0, none⟩), .pointer (some ⟨w.heap.size + 1, 0, none⟩)]) (by simp) (by simp [go_sem]) ?_
  refine (open_catch 3 0 (.pointer none) he1 hg1 []).mono ?_
  rintro e u' w5 ⟨rfl, rfl, hc5, hd5, ho5⟩
  simp [Leaves, settle, results, Try.results15, go_sem, hc5, hd5]
  exact below_onlyS (chainS hA hb1) ho5 (by simp)
end Go.Proofs.Ytkmdjhdininimaa
