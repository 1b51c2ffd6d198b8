/-
  The closures of New and Open.
-/
import Derived.Test.YtkmdjhdininimaaShL
namespace Go.Proofs.Ytkmdjhdininimaa
open Go.RowKit Go.Maps

set_option maxRecDepth 20000 in
set_option maxHeartbeats 1000000 in
theorem new_catch {w : World} {ge gs : Nat} (x y : Int) (v : Value) (he : w.heap[ge]? = some (.cells #[.int .i64 y] 24)) (hg : w.heap[gs]? = some (.cells #[v] 32)) (older : List PanicEntry) :
    CallsD Try.prog 32 #[.pointer (some ⟨gs, 0, none⟩), .pointer (some ⟨ge, 0, none⟩)] (.panicking ({ v := .iface 24 (.int .i64 x), recovered := false } :: older)) w fun e u' w' =>
      e = .returned (.tuple #[]) ∧ u' = .panicking ({ v := .iface 24 (.int .i64 x), recovered := true } :: older) ∧ w'.cell? ⟨ge, 0, none⟩ = some (.int .i64 x) ∧ w'.cell? ⟨gs, 0, none⟩ = some (.pointer none) ∧ Only [ge, gs] w w' := by
  refine callsD_of_wpS Try.func32 rfl fun c₀ cs hu => ?_
  apply wpS_seq
  apply wpS_region
  simp [wpOpsS, go_sem, recoverD, hu, Try.ntmps32, Exit.thenS]
  refine wpS_of_wp ?_
  have ce := fun W => errnoOf_any x W
  have hgs : gs ≠ ge := fun e => by rw [e, he] at hg; cases hg
  have e0 := cell_at hg 0
  have z0 := frozen_at hg 0
  simp at e0
  have o1 : Only [gs] w (w.setCell ⟨gs, 0, none⟩ (.pointer none)) := Only.setCell w (p := ⟨gs, 0, none⟩) (by simp) _
  have hG1 := heap_setCell hg 0 (.pointer none)
  have hE1 := only_heap he o1 (by simpa using hgs.symm)
  have e1 := cell_at hE1 0
  have z1 := frozen_at hE1 0
  simp at e1
  have o2 : Only [ge] (w.setCell ⟨gs, 0, none⟩ (.pointer none)) ((w.setCell ⟨gs, 0, none⟩ (.pointer none)).setCell ⟨ge, 0, none⟩ (.int .i64 x)) := Only.setCell _ (p := ⟨ge, 0, none⟩) (by simp) _
  have f1 := cell_at (heap_setCell hE1 0 (.int .i64 x)) 0
  have f2 := cell_at (only_heap hG1 o2 (by simpa using hgs)) 0
  simp at f1 f2
  clear he hg hG1 hE1
  go_wp2_with (first
    | (go_at_call 33; refine (ce _).mono ?_; rintro e w2 ⟨rfl, rfl⟩))
  simp [bodyPostS, results, Try.results32]
  exact ⟨f1, f2, (o1.mono (by simp)).trans (o2.mono (by simp))⟩
set_option maxRecDepth 20000 in
theorem new_idle (a b : Addr) (w : World) :
    CallsD Try.prog 32 #[.pointer (some a), .pointer (some b)] .returning w fun e u' w' => e = .returned (.tuple #[]) ∧ u' = .returning ∧ w' = w := by
  refine callsD_of_wpS Try.func32 rfl fun c₀ cs hu => ?_
  apply wpS_seq
  apply wpS_region
  simp [wpOpsS, go_sem, recoverD, hu, Try.ntmps32, Exit.thenS]
  refine wpS_of_wp ?_
  go_wp2_with fail
  cases c₀
  simp_all [bodyPostS, results, Try.results32]

set_option maxRecDepth 20000 in
set_option maxHeartbeats 1000000 in
theorem open_catch {w : World} {ge gs : Nat} (x y : Int) (v : Value) (he : w.heap[ge]? = some (.cells #[.int .i64 y] 24)) (hg : w.heap[gs]? = some (.cells #[v] 32)) (older : List PanicEntry) :
    CallsD Try.prog 36 #[.pointer (some ⟨gs, 0, none⟩), .pointer (some ⟨ge, 0, none⟩)] (.panicking ({ v := .iface 24 (.int .i64 x), recovered := false } :: older)) w fun e u' w' =>
      e = .returned (.tuple #[]) ∧ u' = .panicking ({ v := .iface 24 (.int .i64 x), recovered := true } :: older) ∧ w'.cell? ⟨ge, 0, none⟩ = some (.int .i64 x) ∧ w'.cell? ⟨gs, 0, none⟩ = some (.pointer none) ∧ Only [ge, gs] w w' := by
  refine callsD_of_wpS Try.func36 rfl fun c₀ cs hu => ?_
  apply wpS_seq
  apply wpS_region
  simp [wpOpsS, go_sem, recoverD, hu, Try.ntmps36, Exit.thenS]
  refine wpS_of_wp ?_
  have ce := fun W => errnoOf_any x W
  have hgs : gs ≠ ge := fun e => by rw [e, he] at hg; cases hg
  have e0 := cell_at hg 0
  have z0 := frozen_at hg 0
  simp at e0
  have o1 : Only [gs] w (w.setCell ⟨gs, 0, none⟩ (.pointer none)) := Only.setCell w (p := ⟨gs, 0, none⟩) (by simp) _
  have hG1 := heap_setCell hg 0 (.pointer none)
  have hE1 := only_heap he o1 (by simpa using hgs.symm)
  have e1 := cell_at hE1 0
  have z1 := frozen_at hE1 0
  simp at e1
  have o2 : Only [ge] (w.setCell ⟨gs, 0, none⟩ (.pointer none)) ((w.setCell ⟨gs, 0, none⟩ (.pointer none)).setCell ⟨ge, 0, none⟩ (.int .i64 x)) := Only.setCell _ (p := ⟨ge, 0, none⟩) (by simp) _
  have f1 := cell_at (heap_setCell hE1 0 (.int .i64 x)) 0
  have f2 := cell_at (only_heap hG1 o2 (by simpa using hgs)) 0
  simp at f1 f2
  clear he hg hG1 hE1
  go_wp2_with (first
    | (go_at_call 33; refine (ce _).mono ?_; rintro e w2 ⟨rfl, rfl⟩))
  simp [bodyPostS, results, Try.results36]
  exact ⟨f1, f2, (o1.mono (by simp)).trans (o2.mono (by simp))⟩
set_option maxRecDepth 20000 in
theorem open_idle (a b : Addr) (w : World) :
    CallsD Try.prog 36 #[.pointer (some a), .pointer (some b)] .returning w fun e u' w' => e = .returned (.tuple #[]) ∧ u' = .returning ∧ w' = w := by
  refine callsD_of_wpS Try.func36 rfl fun c₀ cs hu => ?_
  apply wpS_seq
  apply wpS_region
  simp [wpOpsS, go_sem, recoverD, hu, Try.ntmps36, Exit.thenS]
  refine wpS_of_wp ?_
  go_wp2_with fail
  cases c₀
  simp_all [bodyPostS, results, Try.results36]
end Go.Proofs.Ytkmdjhdininimaa
