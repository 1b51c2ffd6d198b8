/-
  New on an empty device.
-/
import Derived.Test.YtkmdjhdininimaaShM
namespace Go.Proofs.Ytkmdjhdininimaa
open Go.RowKit Go.Maps

theorem below_setS {base : Nat} {w W : World} {b j : Nat} {x : Value} (h : Below base w W) (hb : base ≤ b) (hw : base ≤ W.heap.size) : Below base w (W.setCell ⟨b, j, none⟩ x) :=
  h.trans ((Only.setCell (S := [b]) W (p := ⟨b, j, none⟩) (by simp) x).below hw (by simpa using hb))
set_option maxRecDepth 20000 in
set_option maxHeartbeats 1000000 in
theorem snew_ok {w : World} {p bs bw : Nat} {s : DevS} (h : IsDev w p bs bw s) (hu : s.up = true) (hem : s.emp = true) :
    Calls Try.prog 14 #[.pointer (some ⟨p, 0, none⟩)] w fun e w' => ∃ q, e = .returned (.tuple #[.pointer (some ⟨q, 0, none⟩), .int .i64 0]) ∧ w.heap.size ≤ q ∧ SB w' q p s.age false ∧ Below w.heap.size w w' := by
  have hmf : ∀ (fn : Fn) (first cap : Array Value) (w : World), (Instr.makeFunc fn first cap).run Try.prog w = .ok (.func fn first cap) w := fun _ _ _ _ => rfl
  have hA : Below w.heap.size w ((w.alloc (.cells #[.pointer none] 32)).alloc (.cells #[.int .i64 0] 24)) := ((Below.refl _ w).alloc (Nat.le_refl _) _).alloc (by simp) _
  have hg := (Below.heap_alloc (w.alloc (.cells #[.pointer none] 32)) (.cells #[.int .i64 0] 24) w.heap.size (by simp)).trans (heap_alloc_last w (.cells #[.pointer none] 32))
  have he := heap_alloc_last (w.alloc (.cells #[.pointer none] 32)) (.cells #[.int .i64 0] 24)
  rw [World.size_alloc] at he
  have c1 := on_any (h.below hA)
  rw [if_pos hu, World.size_alloc, World.size_alloc] at c1
  have cE := fun W q (hW : Below w.heap.size w W) (hs : SB W q p s.age false) => sempty_any (h.below hW) hs hu
  rw [hem] at cE
  generalize s.age = ag at *
  clear h hu hem
  go_enter_defers Try.func14, Try.ntmps14
  go_wp2_with fail
  refine c1.mono ?_
  rintro e w1 ⟨rfl, hs1, hb1⟩
  have hB1 : Below w.heap.size w w1 := hA.trans (hb1.mono (by omega))
  have hg1 := (hb1.block w.heap.size (by omega)).trans hg
  have he1 := (hb1.block (w.heap.size + 1) (by omega)).trans he
  have g0 := cell_at hg1 0
  have g1 := frozen_at hg1 0
  simp at g0
  have o2 : Only [w.heap.size] w1 (w1.setCell ⟨w.heap.size, 0, none⟩ (.pointer (some ⟨w.heap.size + 1 + 1, 0, none⟩))) := Only.setCell w1 (p := ⟨w.heap.size, 0, none⟩) (by simp) _
  have hB2 := below_setS (j := 0) (x := .pointer (some ⟨w.heap.size + 1 + 1, 0, none⟩)) hB1 (Nat.le_refl _) hB1.size
  have hs2 := hs1.only o2 (by simp; omega)
  have hg2 := heap_setCell hg1 0 (.pointer (some ⟨w.heap.size + 1 + 1, 0, none⟩))
  have he2 := only_heap he1 o2 (by simp)
  have d2 := cell_at hg2 0
  simp at d2
  clear c1
  go_wp2_with fail
  refine (cE _ _ hB2 hs2).mono ?_
  rintro e w3 ⟨rfl, hb3⟩
  have hB3 := chainS hB2 hb3
  have hs3 := hs2.below hb3
  have hg3 := (hb3.block _ (heap_lt hg2)).trans hg2
  have he3 := (hb3.block _ (heap_lt he2)).trans he2
  have d3 := cell_at hg3 0
  have z3 := frozen_at hg3 0
  simp at d3
  clear cE d2 g0 g1 hg2 he2
  have o4 : Only [w.heap.size] w3 (w3.setCell ⟨w.heap.size, 0, none⟩ (.pointer (some ⟨w.heap.size + 1 + 1, 0, none⟩))) := Only.setCell w3 (p := ⟨w.heap.size, 0, none⟩) (by simp) _
  have hB4 := below_setS (j := 0) (x := .pointer (some ⟨w.heap.size + 1 + 1, 0, none⟩)) hB3 (Nat.le_refl _) hB3.size
  have hs4 := hs3.only o4 (by simp; omega)
  have hg4 := heap_setCell hg3 0 (.pointer (some ⟨w.heap.size + 1 + 1, 0, none⟩))
  have he4 := only_heap he3 o4 (by simp)
  have e4 := cell_at he4 0
  have y4 := frozen_at he4 0
  simp at e4
  have o5 : Only [w.heap.size + 1] (w3.setCell ⟨w.heap.size, 0, none⟩ (.pointer (some ⟨w.heap.size + 1 + 1, 0, none⟩))) ((w3.setCell ⟨w.heap.size, 0, none⟩ (.pointer (some ⟨w.heap.size + 1 + 1, 0, none⟩))).setCell ⟨w.heap.size + 1, 0, none⟩ (.int .i64 0)) := Only.setCell _ (p := ⟨w.heap.size + 1, 0, none⟩) (by simp) _
  have hB5 := below_setS (j := 0) (x := .int .i64 0) hB4 (show w.heap.size ≤ w.heap.size + 1 by omega) hB4.size
  have hs5 := hs4.only o5 (by simp)
  have f1 := cell_at (heap_setCell he4 0 (.int .i64 0)) 0
  have f2 := cell_at (only_heap hg4 o5 (by simp)) 0
  simp at f1 f2
  clear hg3 he3 hg4 he4
  go_wp2_with fail
  refine leaves_cons (f := 32) (args := #[.pointer (some ⟨w.heap.size, 0, none⟩), .pointer (some ⟨w.heap.size + 1, 0, none⟩)]) (by simp) (by simp [go_sem]) ?_
  refine (new_idle _ _ _).mono ?_
  rintro e u' w6 ⟨rfl, rfl, rfl⟩
  simp [Leaves, settle, results, Try.results14, go_sem, f1, f2]
  exact ⟨by omega, hs5, hB5⟩
end Go.Proofs.Ytkmdjhdininimaa
