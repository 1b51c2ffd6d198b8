/-
  units; the store of an operation.
-/
import Derived.Test.YtgabanndjiegdabOtF
import Derived.Deep.AppendLies
import Derived.Deep.LoopGhost
namespace Go.Proofs.Ytgabanndjiegdab
open Go.ChangeShapes Go.WideShapes Go.ChangeAt Go.RowKit Go.PlainAid

theorem ItL.in {W : World} {p q : Nat} {L : List U} {B : List Nat} (h : ItL W p q L B) : p ∈ B ∧ q ∈ B ∧ ∀ g ∈ B, g < W.heap.size := by
  obtain ⟨R, ds, rv, dv, e, h⟩ := h
  exact ⟨h.pb, h.qb, h.lt⟩

set_option maxRecDepth 20000 in
set_option maxHeartbeats 1500000 in
theorem units_any (dv : Value) (ds : List St) (w : World) (hr : RdD w dv (ds.map St.op)) (hb : ∀ g, dv.ownBlock = some g → g < w.heap.size) (hok : ∀ s ∈ ds, s.Ok ∧ s.c ≤ 1000) :
    Calls Try.prog 46 #[dv] w fun e w' => e = .returned (.func (.func 58) #[] #[.pointer (some ⟨w.heap.size + 1, 0, none⟩), .pointer (some ⟨w.heap.size, 0, none⟩)]) ∧ ItL w' (w.heap.size + 1) w.heap.size (uw ds) ([w.heap.size + 1, w.heap.size] ++ dv.ownBlock.toList) ∧ Below w.heap.size w w' ∧ w'.heap.size = w.heap.size + 2 := by
  have hmf : ∀ (fn : Fn) (first cap : Array Value) (w : World), (Instr.makeFunc fn first cap).run Try.prog w = .ok (.func fn first cap) w := fun _ _ _ _ => rfl
  obtain ⟨ao, cp, e0, _⟩ := id hr
  have hI : It ((w.alloc (.cells #[dv] 22)).alloc (.cells #[.slice none 0 0] 22)) (w.heap.size + 1) w.heap.size [] ds (.slice none 0 0) dv ([w.heap.size + 1, w.heap.size] ++ dv.ownBlock.toList) := by
    have hO : Only [] w ((w.alloc (.cells #[dv] 22)).alloc (.cells #[.slice none 0 0] 22)) := (Only.alloc _ _ _).trans (Only.alloc _ _ _)
    refine ⟨?_, ?_, by omega, RdD.nil _, rdd_only hr hO (by simp), hok, ?_, ?_, by simp, by simp, ?_⟩
    · have := heap_alloc_new (w.alloc (.cells #[dv] 22)) (.cells #[.slice none 0 0] 22)
      rw [World.size_alloc] at this
      exact this
    · exact (Below.heap_alloc _ _ _ (by simp)).trans (heap_alloc_new w _)
    · intro g hg; cases hg
    · intro g hg
      have := hb g hg
      exact ⟨by simp [hg], by omega, by omega⟩
    · intro g hg
      simp only [List.cons_append, List.nil_append, List.mem_cons, Option.mem_toList] at hg
      have : ∀ g, dv.ownBlock = some g → g < w.heap.size := hb
      rcases hg with rfl | rfl | hg
      · simp
      · simp; omega
      · have := hb g hg; simp; omega
  subst e0
  generalize (List.map St.op ds).length = m at *
  go_enter Try.func46, Try.ntmps46
  go_wp2_with fail
  go_ret
  exact ⟨rfl, ⟨[], ds, _, _, rfl, hI⟩, ((Below.refl _ w).alloc (Nat.le_refl _) _).alloc (by simp) _, by simp⟩

/-- A whole operation is stored. -/
theorem run_store3 (w : World) (b : Nat) (k n t : Value) (cur : Array Value) (hb : w.heap[b]? = some (.cells cur 35 (0, 0))) (hs : cur.size = 3) (h1 : ∀ v ∈ [k, n, t], v.oneCell' = true) :
    (storeCells ⟨b, 0, none⟩ [k, n, t]).run Try.prog w = .ok () (w.setRow b #[k, n, t]) := by
  have h := run_storeCells_at Try.prog b 0 35 [k, n, t] 0 cur w hb (by simp [hs]) h1
  rw [h]
  congr 2
  apply Array.ext'
  simp only [Nat.add_zero, List.take_zero, List.nil_append, List.length_cons, List.length_nil]
  rw [List.drop_of_length_le (by simp [hs])]
  simp
end Go.Proofs.Ytgabanndjiegdab
