/-
  New where it is given up: no device, one that is down, one that is not empty.
-/
import Derived.Test.YtkmdjhdininimaaShN
namespace Go.Proofs.Ytkmdjhdininimaa
open Go.RowKit Go.Maps

theorem below_onlyS {w W W' : World} {S : List Nat} (h : Below w.heap.size w W) (ho : Only S W W') (hS : ∀ x ∈ S, w.heap.size ≤ x) : Below w.heap.size w W' :=
  h.trans (ho.below h.size hS)

set_option maxRecDepth 20000 in
set_option maxHeartbeats 1000000 in
theorem snew_nil (w : World) :
    Calls Try.prog 14 #[.pointer none] w fun e w' => e = .returned (.tuple #[.pointer none, .int .i64 1]) ∧ Below w.heap.size w w' := by
  have hmf : ∀ (fn : Fn) (first cap : Array Value) (w : World), (Instr.makeFunc fn first cap).run Try.prog w = .ok (.func fn first cap) w := fun _ _ _ _ => rfl
  have hA : Below w.heap.size w ((w.alloc (.cells #[.pointer none] 32)).alloc (.cells #[.int .i64 0] 24)) := ((Below.refl _ w).alloc (Nat.le_refl _) _).alloc (by simp) _
  have hg := (Below.heap_alloc (w.alloc (.cells #[.pointer none] 32)) (.cells #[.int .i64 0] 24) w.heap.size (by simp)).trans (heap_alloc_last w (.cells #[.pointer none] 32))
  have he := heap_alloc_last (w.alloc (.cells #[.pointer none] 32)) (.cells #[.int .i64 0] 24)
  rw [World.size_alloc] at he
  have c1 := on_nil ((w.alloc (.cells #[.pointer none] 32)).alloc (.cells #[.int .i64 0] 24))
  unfold thr at c1
  go_enter_defers Try.func14, Try.ntmps14
  go_wp2_with (go_at_call 34; refine c1.mono ?_; rintro e w1 ⟨rfl, rfl⟩)
  refine leaves_cons (f := 32) (args := #[.pointer (some ⟨w.heap.size, 0, none⟩), .pointer (some ⟨w.heap.size + 1, 0, none⟩)]) (by simp) (by simp [go_sem]) ?_
  refine (new_catch 1 0 (.pointer none) he hg []).mono ?_
  rintro e u' w5 ⟨rfl, rfl, hc5, hd5, ho5⟩
  simp [Leaves, settle, results, Try.results14, go_sem, hc5, hd5]
  exact below_onlyS hA ho5 (by simp)
set_option maxRecDepth 20000 in
set_option maxHeartbeats 1000000 in
theorem snew_down {w : World} {p bs bw : Nat} {s : DevS} (h : IsDev w p bs bw s) (hu : s.up = false) :
    Calls Try.prog 14 #[.pointer (some ⟨p, 0, none⟩)] w fun e w' => e = .returned (.tuple #[.pointer none, .int .i64 3]) ∧ Below w.heap.size w w' := by
  have hmf : ∀ (fn : Fn) (first cap : Array Value) (w : World), (Instr.makeFunc fn first cap).run Try.prog w = .ok (.func fn first cap) w := fun _ _ _ _ => rfl
  have hA : Below w.heap.size w ((w.alloc (.cells #[.pointer none] 32)).alloc (.cells #[.int .i64 0] 24)) := ((Below.refl _ w).alloc (Nat.le_refl _) _).alloc (by simp) _
  have hg := (Below.heap_alloc (w.alloc (.cells #[.pointer none] 32)) (.cells #[.int .i64 0] 24) w.heap.size (by simp)).trans (heap_alloc_last w (.cells #[.pointer none] 32))
  have he := heap_alloc_last (w.alloc (.cells #[.pointer none] 32)) (.cells #[.int .i64 0] 24)
  rw [World.size_alloc] at he
  have c1 := on_any (h.below hA)
  rw [hu, if_neg (by simp)] at c1
  unfold thr at c1
  clear h hu
  go_enter_defers Try.func14, Try.ntmps14
  go_wp2_with (go_at_call 34; refine c1.mono ?_; rintro e w1 ⟨rfl, -, hb1⟩)
  have hg1 := (hb1.block w.heap.size (by simp; omega)).trans hg
  have he1 := (hb1.block (w.heap.size + 1) (by simp)).trans he
  refine leaves_cons (f := 32) (args := #[.pointer (some ⟨w.heap.size, 0, none⟩), .pointer (some ⟨w.heap.size + 1, 0, none⟩)]) (by simp) (by simp [go_sem]) ?_
  refine (new_catch 3 0 (.pointer none) he1 hg1 []).mono ?_
  rintro e u' w5 ⟨rfl, rfl, hc5, hd5, ho5⟩
  simp [Leaves, settle, results, Try.results14, go_sem, hc5, hd5]
  exact below_onlyS (chainS hA hb1) ho5 (by simp)
set_option maxRecDepth 20000 in
set_option maxHeartbeats 1000000 in
theorem snew_full {w : World} {p bs bw : Nat} {s : DevS} (h : IsDev w p bs bw s) (hu : s.up = true) (hem : s.emp = false) :
    Calls Try.prog 14 #[.pointer (some ⟨p, 0, none⟩)] w fun e w' => e = .returned (.tuple #[.pointer none, .int .i64 180]) ∧ Below w.heap.size w w' := by
  have hmf : ∀ (fn : Fn) (first cap : Array Value) (w : World), (Instr.makeFunc fn first cap).run Try.prog w = .ok (.func fn first cap) w := fun _ _ _ _ => rfl
  have hA : Below w.heap.size w ((w.alloc (.cells #[.pointer none] 32)).alloc (.cells #[.int .i64 0] 24)) := ((Below.refl _ w).alloc (Nat.le_refl _) _).alloc (by simp) _
  have hg := (Below.heap_alloc (w.alloc (.cells #[.pointer none] 32)) (.cells #[.int .i64 0] 24) w.heap.size (by simp)).trans (heap_alloc_last w (.cells #[.pointer none] 32))
  have he := heap_alloc_last (w.alloc (.cells #[.pointer none] 32)) (.cells #[.int .i64 0] 24)
  rw [World.size_alloc] at he
  have c1 := on_any (h.below hA)
  rw [if_pos hu, World.size_alloc, World.size_alloc] at c1
  have cE := fun W q (hW : Below w.heap.size w W) (hs : SB W q p s.age false) => sempty_any (h.below hW) hs hu
  rw [hem] at cE
  generalize s.age = ag at *
  clear h hu hem
  go_enter_defers Try.func14, Try.ntmps14
  go_wp2_with fail
  refine c1.mono ?_
  rintro e w1 ⟨rfl, hs1, hb1⟩
  have hB1 : Below w.heap.size w w1 := hA.trans (hb1.mono (by omega))
  have hg1 := (hb1.block w.heap.size (by omega)).trans hg
  have he1 := (hb1.block (w.heap.size + 1) (by omega)).trans he
  have g0 := cell_at hg1 0
  have g1 := frozen_at hg1 0
  simp at g0
  have o2 : Only [w.heap.size] w1 (w1.setCell ⟨w.heap.size, 0, none⟩ (.pointer (some ⟨w.heap.size + 1 + 1, 0, none⟩))) := Only.setCell w1 (p := ⟨w.heap.size, 0, none⟩) (by simp) _
  have hB2 := below_setS (j := 0) (x := .pointer (some ⟨w.heap.size + 1 + 1, 0, none⟩)) hB1 (Nat.le_refl _) hB1.size
  have hs2 := hs1.only o2 (by simp; omega)
  have hg2 := heap_setCell hg1 0 (.pointer (some ⟨w.heap.size + 1 + 1, 0, none⟩))
  have he2 := only_heap he1 o2 (by simp)
  have d2 := cell_at hg2 0
  simp at d2
  clear c1
  go_wp2_with fail
  refine (cE _ _ hB2 hs2).mono ?_
  rintro e w3 ⟨rfl, hb3⟩
  have hB3 := chainS hB2 hb3
  have hg3 := (hb3.block _ (heap_lt hg2)).trans hg2
  have he3 := (hb3.block _ (heap_lt he2)).trans he2
  simp at hg3
  clear cE d2 g0 g1 hg2 he2
  go_wp2_with fail
  refine leaves_cons (f := 32) (args := #[.pointer (some ⟨w.heap.size, 0, none⟩), .pointer (some ⟨w.heap.size + 1, 0, none⟩)]) (by simp) (by simp [go_sem]) ?_
  refine (new_catch 180 0 _ he3 hg3 []).mono ?_
  rintro e u' w5 ⟨rfl, rfl, hc5, hd5, ho5⟩
  simp [Leaves, settle, results, Try.results14, go_sem, hc5, hd5]
  exact below_onlyS hB3 ho5 (by simp)
end Go.Proofs.Ytkmdjhdininimaa
