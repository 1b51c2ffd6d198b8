/-
  Get, and its closure.
-/
import Derived.Test.YtkmdjhdininimaaShU
namespace Go.Proofs.Ytkmdjhdininimaa
open Go.RowKit Go.Maps

set_option maxRecDepth 20000 in
set_option maxHeartbeats 1000000 in
/-- Get's closure, where something was thrown. -/
theorem get_catch {w : World} {q p gt gs : Nat} {age : Int} {lost : Bool} (hs : SB w q p age lost) (x : Int) (t : ByteArray) (he : w.heap[gt]? = some (.cells #[.string t] 9)) (hg : w.heap[gs]? = some (.cells #[.pointer (some ⟨q, 0, none⟩)] 32)) (hne : gt ≠ q) (older : List PanicEntry) :
    CallsD Try.prog 41 #[.pointer (some ⟨gs, 0, none⟩), .pointer (some ⟨gt, 0, none⟩)] (.panicking ({ v := .iface 24 (.int .i64 x), recovered := false } :: older)) w fun e u' w' =>
      e = .returned (.tuple #[]) ∧ u' = .panicking ({ v := .iface 24 (.int .i64 x), recovered := true } :: older) ∧ w'.cell? ⟨gt, 0, none⟩ = some (.string ⟨#[]⟩) ∧ SB w' q p age (lost || decide (x = 3)) ∧ Only [gt, q] w w' := by
  refine callsD_of_wpS Try.func41 rfl fun c₀ cs hu => ?_
  apply wpS_seq
  apply wpS_region
  simp [wpOpsS, go_sem, recoverD, hu, Try.ntmps41, Exit.thenS]
  refine wpS_of_wp ?_
  have ce := errnoOf_any x w.drew
  have hgs : gs ≠ gt := fun e => by rw [e, he] at hg; cases hg
  have d0 : w.drew.cell? ⟨gs, 0, none⟩ = some (.pointer (some ⟨q, 0, none⟩)) := by
    show w.cell? _ = _
    rw [cell_at hg]; rfl
  have hsd : SB w.drew q p age lost := hs
  have cN := note_any hsd x
  have hed : w.drew.heap[gt]? = some (.cells #[.string t] 9) := he
  go_upto_region 2 with fail
  refine region_tail 3 Try.mixed (by kernel_rfl) ?_
  simp only [List.take_succ_cons, List.take_zero, List.drop_succ_cons, List.drop_zero]
  iterate 2 still_step
  still_call ce
  refine wpStill_nil ?_
  clear he hg ce
  go_wp2_with (go_at_call 42; refine cN.mono ?_; rintro e w3 ⟨rfl, hS3, hO3⟩; have he3 := only_heap hed hO3 (by simpa using hne); have e3 := cell_at he3 0; have z3 := frozen_at he3 0; simp at e3)
  have hfin := heap_setCell he3 0 (.string ⟨#[]⟩)
  have hO4 : Only [gt] w3 (w3.setCell ⟨gt, 0, none⟩ (.string ⟨#[]⟩)) := Only.setCell w3 (p := ⟨gt, 0, none⟩) (by simp) _
  have hS4 := hS3.only hO4 (by simpa using hne.symm)
  have e4 := cell_at hfin 0
  simp at e4
  simp [bodyPostS, results, Try.results41]
  exact ⟨e4, hS4, ((Only.drew [gt, q] w).trans (hO3.mono (by simp))).trans (hO4.mono (by simp))⟩

set_option maxRecDepth 20000 in
/-- .. and where nothing was. -/
theorem get_idle (a b : Addr) (w : World) :
    CallsD Try.prog 41 #[.pointer (some a), .pointer (some b)] .returning w fun e u' w' => e = .returned (.tuple #[]) ∧ u' = .returning ∧ w' = w := by
  refine callsD_of_wpS Try.func41 rfl fun c₀ cs hu => ?_
  apply wpS_seq
  apply wpS_region
  simp [wpOpsS, go_sem, recoverD, hu, Try.ntmps41, Exit.thenS]
  refine wpS_of_wp ?_
  go_wp2_with fail
  cases c₀
  simp_all [bodyPostS, results, Try.results41]

set_option maxRecDepth 20000 in
set_option maxHeartbeats 1000000 in
theorem get_ok {w : World} {q p bs bw : Nat} {s : DevS} {age : Int} {lost : Bool} (h : IsDev w p bs bw s) (hs : SB w q p age lost) (hr : rdy s age lost = true) (hk : HdOk s (s.readAt 0)) :
    Calls Try.prog 17 #[.pointer (some ⟨q, 0, none⟩)] w fun e w' => e = .returned (.string (Go.Proofs.Ytkmdjhdininimaa.mk s.text)) ∧ Below w.heap.size w w' := by
  have hmf : ∀ (fn : Fn) (first cap : Array Value) (w : World), (Instr.makeFunc fn first cap).run Try.prog w = .ok (.func fn first cap) w := fun _ _ _ _ => rfl
  have hu : s.up = true := by unfold rdy at hr; simp at hr; exact hr.1.2
  have hA : Below w.heap.size w ((w.alloc (.cells #[.pointer (some ⟨q, 0, none⟩)] 32)).alloc (.cells #[.string ⟨#[]⟩] 9)) := ((Below.refl _ w).alloc (Nat.le_refl _) _).alloc (by simp) _
  have hg := (Below.heap_alloc (w.alloc (.cells #[.pointer (some ⟨q, 0, none⟩)] 32)) (.cells #[.string ⟨#[]⟩] 9) w.heap.size (by simp)).trans (heap_alloc_last w (.cells #[.pointer (some ⟨q, 0, none⟩)] 32))
  have he := heap_alloc_last (w.alloc (.cells #[.pointer (some ⟨q, 0, none⟩)] 32)) (.cells #[.string ⟨#[]⟩] 9)
  rw [World.size_alloc] at he
  have c1 := must_ready (h.below hA) (hs.below hA)
  rw [if_pos hr] at c1
  have c2 := fun W (hW : Below w.heap.size w W) => heading_ok (h.below hW) (hs.below hW) hu hk
  have c3 := fun W (hW : Below w.heap.size w W) => textAt_ok (h.below hW) (hs.below hW) hu (hPl (s.readAt 0)) (hLn (s.readAt 0)) hk.pl hk.ln
  have HT : Hid (s.text = s.txt (s.pat (hPl (s.readAt 0))) (hLn (s.readAt 0))) := rfl
  generalize s.text = T at *
  rw [← HT.out] at c3
  clear HT
  generalize hPl (s.readAt 0) = pl at *
  generalize hLn (s.readAt 0) = ln at *
  have d0 := cell_at hg 0
  simp at d0
  clear h hs hr hk
  go_enter_defers Try.func17, Try.ntmps17
  go_wp2_with fail
  refine c1.mono ?_
  rintro e w2 ⟨rfl, hb2⟩
  have hB2 := chainS hA hb2
  have hg2 := (hb2.block _ (heap_lt hg)).trans hg
  have he2 := (hb2.block (w.heap.size + 1) (by simp)).trans he
  have d2 := cell_at hg2 0
  simp at d2
  clear c1 d0
  have hBd : Below w.heap.size w w2.drew := Below.drew hB2
  have q0 : w2.drew.cell? ⟨w.heap.size, 0, none⟩ = some (.pointer (some ⟨q, 0, none⟩)) := d2
  go_upto_region 3 with fail
  go_region_with (first
    | (go_at_call 44; refine (c2 _ hBd).mono ?_; rintro e w3 ⟨rfl, hb3⟩; have hg3 := (hb3.block _ (heap_lt (w := w2.drew) hg2)).trans (show w2.drew.heap[w.heap.size]? = _ from hg2); have d3 := cell_at hg3 0; simp at d3)
    | (go_at_call 43; refine (c3 _ (chainS hBd hb3)).mono ?_; rintro e w4 ⟨rfl, hb4⟩; have he4 := ((chainS hb3 hb4).block (w.heap.size + 1) (heap_lt (w := w2.drew) he2)).trans (show w2.drew.heap[w.heap.size + 1]? = _ from he2); have d4 := cell_at he4 0; have z4 := frozen_at he4 0; simp at d4))
  all_goals
    have hfin := heap_setCell he4 0 (.string (Go.Proofs.Ytkmdjhdininimaa.mk T))
    have hB5 := below_setS (j := 0) (x := .string (Go.Proofs.Ytkmdjhdininimaa.mk T)) (chainS hBd (chainS hb3 hb4)) (b := w.heap.size + 1) (by omega) (chainS hBd (chainS hb3 hb4)).size
    clear he4 hg3 hb3 hb4 hg2 he2
    go_wp2_with fail
    refine leaves_cons (f := 41) (args := #[.pointer (some ⟨w.heap.size, 0, none⟩), .pointer (some ⟨w.heap.size + 1, 0, none⟩)]) (by simp) (by simp [go_sem]) ?_
    refine (get_idle _ _ _).mono ?_
    rintro e u' w5 ⟨rfl, rfl, rfl⟩
    have d6 := cell_at hfin 0
    simp at d6
    simp [Leaves, settle, results, Try.results17, go_sem, d6]
    exact hB5

set_option maxRecDepth 20000 in
set_option maxHeartbeats 1000000 in
theorem get_no {w : World} {q p bs bw : Nat} {s : DevS} {age : Int} {lost : Bool} (h : IsDev w p bs bw s) (hs : SB w q p age lost) (hr : rdy s age lost = false) :
    Calls Try.prog 17 #[.pointer (some ⟨q, 0, none⟩)] w fun e w' => e = .returned (.string ⟨#[]⟩) ∧ IsDev w' p bs bw s ∧ SB w' q p age true ∧ Only [q] w w' := by
  have hmf : ∀ (fn : Fn) (first cap : Array Value) (w : World), (Instr.makeFunc fn first cap).run Try.prog w = .ok (.func fn first cap) w := fun _ _ _ _ => rfl
  have hap := hs.apart h
  have hA : Below w.heap.size w ((w.alloc (.cells #[.pointer (some ⟨q, 0, none⟩)] 32)).alloc (.cells #[.string ⟨#[]⟩] 9)) := ((Below.refl _ w).alloc (Nat.le_refl _) _).alloc (by simp) _
  have hg := (Below.heap_alloc (w.alloc (.cells #[.pointer (some ⟨q, 0, none⟩)] 32)) (.cells #[.string ⟨#[]⟩] 9) w.heap.size (by simp)).trans (heap_alloc_last w (.cells #[.pointer (some ⟨q, 0, none⟩)] 32))
  have he := heap_alloc_last (w.alloc (.cells #[.pointer (some ⟨q, 0, none⟩)] 32)) (.cells #[.string ⟨#[]⟩] 9)
  rw [World.size_alloc] at he
  have hlt : p < w.heap.size ∧ bs < w.heap.size ∧ bw < w.heap.size := ⟨h.ltp, h.lts, h.ltw⟩
  have hq := heap_lt hs
  have c1 := must_ready (h.below hA) (hs.below hA)
  rw [hr, if_neg (by simp)] at c1
  have d0 := cell_at hg 0
  simp at d0
  unfold thr at c1
  go_enter_defers Try.func17, Try.ntmps17
  go_wp2_with (go_at_call 38; refine c1.mono ?_; rintro e w2 ⟨rfl, hb2⟩)
  have hB2 := chainS hA hb2
  have hg2 := (hb2.block _ (heap_lt hg)).trans hg
  have he2 := (hb2.block (w.heap.size + 1) (by simp)).trans he
  refine leaves_cons (f := 41) (args := #[.pointer (some ⟨w.heap.size, 0, none⟩), .pointer (some ⟨w.heap.size + 1, 0, none⟩)]) (by simp) (by simp [go_sem]) ?_
  refine (get_catch (hs.below hB2) 3 ⟨#[]⟩ he2 hg2 (by omega) []).mono ?_
  rintro e u' w5 ⟨rfl, rfl, hc5, hs5, ho5⟩
  have hF : IsDev w5 p bs bw s ∧ SB w5 q p age true ∧ Only [q] w w5 := by
    simp at hap
    refine ⟨(h.below hB2).kept ho5 (by simp; omega) (by simp; omega) (by simp; omega), by simpa using hs5, ⟨ho5.os.trans hB2.os, ho5.tape.trans hB2.tape, ho5.output.trans hB2.output, Nat.le_trans hB2.size ho5.size, fun i hi hn => ?_⟩⟩
    have s1 := hB2.size
    simp at hn
    rw [ho5.block i (by omega) (by simp; omega)]
    exact hB2.block i hi
  simp [Leaves, settle, results, Try.results17, go_sem, hc5]
  exact hF
end Go.Proofs.Ytkmdjhdininimaa
