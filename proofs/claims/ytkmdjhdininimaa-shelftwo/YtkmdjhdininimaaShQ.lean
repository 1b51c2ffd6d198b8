/-
  Open on a device that is up and whose heading is one.
-/
import Derived.Test.YtkmdjhdininimaaShP
namespace Go.Proofs.Ytkmdjhdininimaa
open Go.RowKit Go.Maps

theorem onlyD {p bs bw : Nat} {w W W' W'' : World} {S : List Nat} (h : Below w.heap.size w W) (ho : Only [p, bs, bw] W W') (ho2 : Only S W' W'') (hS : ∀ x ∈ S, w.heap.size ≤ x) : Only [p, bs, bw] w W'' := by
  refine ⟨ho2.os.trans (ho.os.trans h.os), ho2.tape.trans (ho.tape.trans h.tape), ho2.output.trans (ho.output.trans h.output), Nat.le_trans h.size (Nat.le_trans ho.size ho2.size), fun i hi hn => ?_⟩
  have s1 := h.size
  have s2 := ho.size
  rw [ho2.block i (by omega) (fun hm => by have := hS i hm; omega), ho.block i (by omega) hn]
  exact h.block i hi
set_option maxRecDepth 20000 in
set_option maxHeartbeats 1000000 in
theorem sopen_ok {w : World} {p bs bw : Nat} {s : DevS} (h : IsDev w p bs bw s) (hu : s.up = true) (hk : HdOk s (s.readAt 0)) :
    Calls Try.prog 15 #[.pointer (some ⟨p, 0, none⟩)] w fun e w' => IsDev w' p bs bw s.settle ∧ Only [p, bs, bw] w w' ∧
      (if s.settle.up = true then ∃ q, e = .returned (.tuple #[.pointer (some ⟨q, 0, none⟩), .int .i64 0]) ∧ w.heap.size ≤ q ∧ SB w' q p s.age false else e = .returned (.tuple #[.pointer none, .int .i64 3])) := by
  have hmf : ∀ (fn : Fn) (first cap : Array Value) (w : World), (Instr.makeFunc fn first cap).run Try.prog w = .ok (.func fn first cap) w := fun _ _ _ _ => rfl
  have hA : Below w.heap.size w ((w.alloc (.cells #[.pointer none] 32)).alloc (.cells #[.int .i64 0] 24)) := ((Below.refl _ w).alloc (Nat.le_refl _) _).alloc (by simp) _
  have hg := (Below.heap_alloc (w.alloc (.cells #[.pointer none] 32)) (.cells #[.int .i64 0] 24) w.heap.size (by simp)).trans (heap_alloc_last w (.cells #[.pointer none] 32))
  have he := heap_alloc_last (w.alloc (.cells #[.pointer none] 32)) (.cells #[.int .i64 0] 24)
  rw [World.size_alloc] at he
  have hlt : p < w.heap.size ∧ bs < w.heap.size ∧ bw < w.heap.size := ⟨h.ltp, h.lts, h.ltw⟩
  have c1 := on_any (h.below hA)
  rw [if_pos hu, World.size_alloc, World.size_alloc] at c1
  have cS := fun W q (hW : Below w.heap.size w W) (hs : SB W q p s.age false) => settled_ok (h.below hW) hs hu hk
  have cM := fun W q (hd : IsDev W p bs bw s.settle) (hs : SB W q p s.age false) => must_ready hd hs
  have hrd : rdy s.settle s.age false = s.settle.up := by unfold rdy; simp [settle_age]
  rw [hrd] at cM
  generalize s.age = ag at *
  generalize hPl (s.readAt 0) = pl at *
  generalize hLn (s.readAt 0) = ln at *
  generalize s.settle = s2 at *
  clear h hu hk hrd
  cases hu2 : s2.up with
  | true =>
    rw [hu2, if_pos rfl] at cM
    simp only [if_true]
    go_enter_defers Try.func15, Try.ntmps15
    go_wp2_with fail
    refine c1.mono ?_
    rintro e w1 ⟨rfl, hs1, hb1⟩
    have hB1 : Below w.heap.size w w1 := hA.trans (hb1.mono (by omega))
    have hg1 := (hb1.block w.heap.size (by omega)).trans hg
    have he1 := (hb1.block (w.heap.size + 1) (by omega)).trans he
    have g0 := cell_at hg1 0
    have g1 := frozen_at hg1 0
    simp at g0
    have o2 : Only [w.heap.size] w1 (w1.setCell ⟨w.heap.size, 0, none⟩ (.pointer (some ⟨w.heap.size + 1 + 1, 0, none⟩))) := Only.setCell w1 (p := ⟨w.heap.size, 0, none⟩) (by simp) _
    have hB2 := below_setS (j := 0) (x := .pointer (some ⟨w.heap.size + 1 + 1, 0, none⟩)) hB1 (Nat.le_refl _) hB1.size
    have hs2 := hs1.only o2 (by simp; omega)
    have hg2 := heap_setCell hg1 0 (.pointer (some ⟨w.heap.size + 1 + 1, 0, none⟩))
    have he2 := only_heap he1 o2 (by simp)
    have d2 := cell_at hg2 0
    simp at d2
    clear c1
    go_wp2_with fail
    refine (cS _ _ hB2 hs2).mono ?_
    rintro e w3 ⟨rfl, hd3, ho3⟩
    have hg3 := only_heap hg2 ho3 (by simp; omega)
    have he3 := only_heap he2 ho3 (by simp; omega)
    have hs3 := hs2.only ho3 (by simp; omega)
    have d3 := cell_at hg3 0
    simp at d3
    clear cS d2 g0 g1 hg2 he2
    go_wp2_with fail
    refine (cM _ _ hd3 hs3).mono ?_
    rintro e w4 ⟨rfl, hb4⟩
    have hg4 := (hb4.block _ (heap_lt hg3)).trans hg3
    have he4 := (hb4.block _ (heap_lt he3)).trans he3
    have hs4 := hs3.below hb4
    have hd4 := hd3.below hb4
    have d4 := cell_at hg4 0
    have z4 := frozen_at hg4 0
    simp at d4
    clear cM d3 hg3 he3
    have o5 : Only [w.heap.size] w4 (w4.setCell ⟨w.heap.size, 0, none⟩ (.pointer (some ⟨w.heap.size + 1 + 1, 0, none⟩))) := Only.setCell w4 (p := ⟨w.heap.size, 0, none⟩) (by simp) _
    have hg5 := heap_setCell hg4 0 (.pointer (some ⟨w.heap.size + 1 + 1, 0, none⟩))
    have he5 := only_heap he4 o5 (by simp)
    have e5 := cell_at he5 0
    have y5 := frozen_at he5 0
    simp at e5
    have o6 : Only [w.heap.size + 1] (w4.setCell ⟨w.heap.size, 0, none⟩ (.pointer (some ⟨w.heap.size + 1 + 1, 0, none⟩))) ((w4.setCell ⟨w.heap.size, 0, none⟩ (.pointer (some ⟨w.heap.size + 1 + 1, 0, none⟩))).setCell ⟨w.heap.size + 1, 0, none⟩ (.int .i64 0)) := Only.setCell _ (p := ⟨w.heap.size + 1, 0, none⟩) (by simp) _
    have o7 := (o5.mono (T := [w.heap.size, w.heap.size + 1]) (by simp)).trans (o6.mono (T := [w.heap.size, w.heap.size + 1]) (by simp))
    have hs6 := hs4.only o7 (by simp; omega)
    have hd6 := hd4.kept o7 (by simp; omega) (by simp; omega) (by simp; omega)
    have hF := onlyD hB2 (ho3.trans (Only.of_below hb4)) o7 (by simp)
    have f1 := cell_at (heap_setCell he5 0 (.int .i64 0)) 0
    have f2 := cell_at (only_heap hg5 o6 (by simp)) 0
    simp at f1 f2
    clear hg4 he4 hg5 he5
    go_wp2_with fail
    refine leaves_cons (f := 36) (args := #[.pointer (some ⟨w.heap.size, 0, none⟩), .pointer (some ⟨w.heap.size + 1, 0, none⟩)]) (by simp) (by simp [go_sem]) ?_
    refine (open_idle _ _ _).mono ?_
    rintro e u' w6 ⟨rfl, rfl, rfl⟩
    simp [Leaves, settle, results, Try.results15, go_sem, f1, f2]
    exact ⟨hd6, hF, by omega, hs6⟩
  | false =>
    rw [hu2, if_neg (by simp)] at cM
    simp only [Bool.false_eq_true, if_false]
    unfold thr at cM
    go_enter_defers Try.func15, Try.ntmps15
    go_wp2_with fail
    refine c1.mono ?_
    rintro e w1 ⟨rfl, hs1, hb1⟩
    have hB1 : Below w.heap.size w w1 := hA.trans (hb1.mono (by omega))
    have hg1 := (hb1.block w.heap.size (by omega)).trans hg
    have he1 := (hb1.block (w.heap.size + 1) (by omega)).trans he
    have g0 := cell_at hg1 0
    have g1 := frozen_at hg1 0
    simp at g0
    have o2 : Only [w.heap.size] w1 (w1.setCell ⟨w.heap.size, 0, none⟩ (.pointer (some ⟨w.heap.size + 1 + 1, 0, none⟩))) := Only.setCell w1 (p := ⟨w.heap.size, 0, none⟩) (by simp) _
    have hB2 := below_setS (j := 0) (x := .pointer (some ⟨w.heap.size + 1 + 1, 0, none⟩)) hB1 (Nat.le_refl _) hB1.size
    have hs2 := hs1.only o2 (by simp; omega)
    have hg2 := heap_setCell hg1 0 (.pointer (some ⟨w.heap.size + 1 + 1, 0, none⟩))
    have he2 := only_heap he1 o2 (by simp)
    have d2 := cell_at hg2 0
    simp at d2
    clear c1
    go_wp2_with fail
    refine (cS _ _ hB2 hs2).mono ?_
    rintro e w3 ⟨rfl, hd3, ho3⟩
    have hg3 := only_heap hg2 ho3 (by simp; omega)
    have he3 := only_heap he2 ho3 (by simp; omega)
    have hs3 := hs2.only ho3 (by simp; omega)
    have d3 := cell_at hg3 0
    simp at d3 hg3
    clear cS d2 g0 g1 hg2 he2
    go_wp2_with (go_at_call 38; refine (cM _ _ hd3 hs3).mono ?_; rintro e w4 ⟨rfl, hb4⟩)
    have hg4 := (hb4.block _ (heap_lt hg3)).trans hg3
    have he4 := (hb4.block _ (heap_lt he3)).trans he3
    have hd4 := hd3.below hb4
    refine leaves_cons (f := 36) (args := #[.pointer (some ⟨w.heap.size, 0, none⟩), .pointer (some ⟨w.heap.size + 1, 0, none⟩)]) (by simp) (by simp [go_sem]) ?_
    refine (open_catch 3 0 _ he4 hg4 []).mono ?_
    rintro e u' w5 ⟨rfl, rfl, hc5, hd5, ho5⟩
    have hd6 := hd4.kept ho5 (by simp; omega) (by simp; omega) (by simp; omega)
    have hF := onlyD hB2 (ho3.trans (Only.of_below hb4)) ho5 (by simp)
    simp [Leaves, settle, results, Try.results15, go_sem, hc5, hd5]
    exact ⟨hd6, hF⟩
end Go.Proofs.Ytkmdjhdininimaa
