/-
  The deferred notes; Read, Stage.
-/
import Derived.Test.YtblhmfkohbdmeaaWalC
import Derived.Defers
namespace Go.Proofs.Ytblhmfkohbdmeaa
open Go.RowKit Go.Maps

set_option maxHeartbeats 400000 in
theorem read_note {w : World} {r p x y : Nat} {age e : Int} {lost : Bool} (hw : IsWal w r p age lost) (h1 : w.cell? ⟨x, 0, none⟩ = some (.pointer (some ⟨r, 0, none⟩))) (h2 : w.cell? ⟨y, 0, none⟩ = some (.int .i64 e)) (u : FrameMode) :
    CallsD Try.prog 46 #[.pointer (some ⟨x, 0, none⟩), .pointer (some ⟨y, 0, none⟩)] u w fun z u' w' => u' = u ∧ z = .returned (.tuple #[]) ∧ IsWal w' r p age (lost || e == 3) ∧ Only [r] w w' := by
  have c := note_any hw e
  clear hw
  go_enter_d Try.func46, Try.ntmps46
  go_wp2_with (first | (go_at_call 42; refine c.mono ?_; rintro e w' ⟨rfl, hw', ho'⟩))
  go_end0
  exact ⟨rfl, hw', ho'⟩

/-- A method's frame: the receiver and the error in boxes of their own. -/
structure Env (w W : World) (r p bs bw : Nat) (age : Int) (lost : Bool) (s : DevS) (e : Int) : Prop where
  wal : IsWal W r p age lost
  dev : IsDev W p bs bw s
  x : W.heap[w.heap.size]? = some (.cells #[.pointer (some ⟨r, 0, none⟩)] 32)
  y : W.heap[w.heap.size + 1]? = some (.cells #[.int .i64 e] 24)
  lr : r < w.heap.size
  ld : p < w.heap.size ∧ bs < w.heap.size ∧ bw < w.heap.size
  only : Only [p, bs, bw] w W

section
variable {w W W' : World} {r p bs bw : Nat} {age : Int} {lost : Bool} {s s' : DevS} {e : Int}
theorem env_start (hw : IsWal w r p age lost) (hd : IsDev w p bs bw s) : Env w ((w.alloc (.cells #[.pointer (some ⟨r, 0, none⟩)] 32)).alloc (.cells #[.int .i64 0] 24)) r p bs bw age lost s 0 := by
  have hA : Only [] w ((w.alloc (.cells #[.pointer (some ⟨r, 0, none⟩)] 32)).alloc (.cells #[.int .i64 0] 24)) := (Only.alloc _ _ _).trans (Only.alloc _ _ _)
  have h2 := heap_alloc_last (w.alloc (.cells #[.pointer (some ⟨r, 0, none⟩)] 32)) (.cells #[.int .i64 0] 24)
  rw [World.size_alloc] at h2
  exact ⟨hw.kept hA (by simp), hd.kept hA (by simp) (by simp) (by simp), only_heap (heap_alloc_last w _) (Only.alloc [] _ _) (by simp), h2, heap_lt hw, ⟨hd.ltp, hd.lts, hd.ltw⟩, hA.mono (by simp)⟩
theorem Env.below (h : Env w W r p bs bw age lost s e) (hb : Below W.heap.size W W') : Env w W' r p bs bw age lost s e :=
  ⟨h.wal.below hb, h.dev.below hb, (hb.block _ (heap_lt h.x)).trans h.x, (hb.block _ (heap_lt h.y)).trans h.y, h.lr, h.ld, h.only.trans (Only.of_below hb)⟩
theorem Env.drewN (h : Env w W r p bs bw age lost s e) (k : Nat) : Env w (W.drewN k) r p bs bw age lost s e := h.below (Only.drewN [] W k).nil_below
theorem Env.drew (h : Env w W r p bs bw age lost s e) : Env w W.drew r p bs bw age lost s e := h.below (Only.drew [] W).nil_below
theorem Env.store (h : Env w W r p bs bw age lost s e) (e' : Int) : Env w (W.setCell ⟨w.heap.size + 1, 0, none⟩ (.int .i64 e')) r p bs bw age lost s e' := by
  have hO : Only [w.heap.size + 1] W (W.setCell ⟨w.heap.size + 1, 0, none⟩ (.int .i64 e')) := Only.setCell _ (by simp) _
  obtain ⟨l1, l2, l3⟩ := h.ld
  have l0 := h.lr
  refine ⟨h.wal.kept hO (by simp; omega), h.dev.kept hO (by simp; omega) (by simp; omega) (by simp; omega), only_heap h.x hO (by simp), heap_setCell h.y 0 _, l0, h.ld, ?_⟩
  exact ⟨h.only.os, h.only.tape, h.only.output, Nat.le_trans h.only.size hO.size, fun k hk hn => (hO.block k (Nat.lt_of_lt_of_le hk h.only.size) (by simp; omega)).trans (h.only.block k hk hn)⟩
theorem Env.moved (h : Env w W r p bs bw age lost s e) (hd : IsDev W' p bs bw s') (ho : Only [p, bs, bw] W W') : Env w W' r p bs bw age lost s' e := by
  obtain ⟨l1, l2, l3⟩ := h.ld
  exact ⟨h.wal.kept ho (h.wal.apart h.dev), hd, only_heap h.x ho (by simp; omega), only_heap h.y ho (by simp; omega), h.lr, h.ld, h.only.trans ho⟩
theorem Env.cells (h : Env w W r p bs bw age lost s e) : W.cell? ⟨w.heap.size, 0, none⟩ = some (.pointer (some ⟨r, 0, none⟩)) ∧ W.cell? ⟨w.heap.size + 1, 0, none⟩ = some (.int .i64 e) ∧ W.frozen? ⟨w.heap.size + 1, 0, none⟩ = false := ⟨cell_at h.x 0, cell_at h.y 0, frozen_at h.y 0⟩
/-- Behind the deferred note. -/
theorem Env.out {lost' : Bool} (h : Env w W r p bs bw age lost s e) (hw : IsWal W' r p age lost') (ho : Only [r] W W') : IsWal W' r p age lost' ∧ IsDev W' p bs bw s ∧ Only [r, p, bs, bw] w W' ∧ W'.cell? ⟨w.heap.size + 1, 0, none⟩ = some (.int .i64 e) := by
  have ha := h.wal.apart h.dev
  simp at ha
  have l0 := h.lr
  exact ⟨hw, h.dev.kept ho (by simp; omega) (by simp; omega) (by simp; omega), (h.only.mono (by intro k hk; simp at hk ⊢; omega)).trans (ho.mono (by simp)), cell_at (only_heap h.y ho (by simp; omega)) 0⟩
end

theorem results_tmp_cell {fn : Func} {p u : Tmp} {ty : TypeId} (h : fn.results = #[.tmp u, .cell p ty]) (tmps : Array Value) (P : Program) (w : World) :
    (results fn tmps).run P w =
      ((asAddr (tmps.getD p undef)).run P w).andThen fun a w₁ => ((loadVar ty a).run P w₁).andThen fun v w₂ => .ok (.tuple #[tmps.getD u undef, v]) w₂ := by
  simp only [results, h]
  simp [Sem.run_bind, Result.andThen]

set_option maxRecDepth 20000 in
set_option maxHeartbeats 2000000 in
theorem wread_down {w : World} {r p bs bw : Nat} {age : Int} {lost : Bool} {s : DevS} (hw : IsWal w r p age lost) (hd : IsDev w p bs bw s) (k : Int) (hr : rdy s age lost = false) :
    Calls Try.prog 21 #[.pointer (some ⟨r, 0, none⟩), .int .i64 k] w fun e w' => e = .returned (.tuple #[.string ⟨#[]⟩, .int .i64 3]) ∧ IsWal w' r p age true ∧ IsDev w' p bs bw s ∧ Only [r, p, bs, bw] w w' := by
  have hmf : ∀ (fn : Fn) (first cap : Array Value) (w : World), (Instr.makeFunc fn first cap).run Try.prog w = .ok (.func fn first cap) w := fun _ _ _ _ => rfl
  have hE := env_start hw hd
  have cR := ready_any hE.wal hE.dev
  have e3 : rdyE s age lost = 3 := by simp [rdyE, hr]
  rw [e3] at cR
  clear hw hd e3 hr
  go_enter_defers Try.func21, Try.ntmps21
  go_wp2_with (first
    | (go_at_call 43; refine cR.mono ?_; rintro e w2 ⟨rfl, j, hw2⟩; rw [hw2]; clear hw2 w2))
  have hE2 := (hE.drewN j).store 3
  clear hE cR
  generalize (((w.alloc (.cells #[.pointer (some ⟨r, 0, none⟩)] 32)).alloc (.cells #[.int .i64 0] 24)).drewN j).setCell ⟨w.heap.size + 1, 0, none⟩ (.int .i64 3) = W at *
  obtain ⟨c1, c2, c3⟩ := hE2.cells
  have hE3 := hE2.drew.store 3
  clear hE2
  refine region_tail 2 Try.mixed (by kernel_rfl) ?_
  simp only [List.take_succ_cons, List.take_zero, List.drop_succ_cons, List.drop_zero]
  iterate 2 still_step
  refine wpStill_nil ?_
  go_wp2_with fail
  refine leaves_cons (f := 46) (args := #[.pointer (some ⟨w.heap.size, 0, none⟩), .pointer (some ⟨w.heap.size + 1, 0, none⟩)]) (by simp) (by simp [go_sem]) ?_
  refine (read_note hE3.wal hE3.cells.1 hE3.cells.2.1 .returning).mono ?_
  rintro e u' w'' ⟨rfl, rfl, hw', ho'⟩
  obtain ⟨f1, f2, f3, f4⟩ := hE3.out hw' ho'
  rw [show (lost || (3 : Int) == 3) = true by simp] at f1
  exact ⟨.tuple #[.string ⟨#[]⟩, .int .i64 3], by rw [results_tmp_cell rfl]; simp [asAddr, go_sem, f4], rfl, f1, f2, f3⟩

theorem rdy_up {s : DevS} {age : Int} {lost : Bool} (h : rdy s age lost = true) : s.up = true ∧ lost = false ∧ s.age = age := by
  unfold rdy at h
  simp at h
  exact ⟨h.1.2, h.1.1, h.2⟩

set_option maxRecDepth 20000 in
set_option maxHeartbeats 2000000 in
theorem wread_arg {w : World} {r p bs bw : Nat} {age : Int} {lost : Bool} {s : DevS} (hw : IsWal w r p age lost) (hd : IsDev w p bs bw s) (k : Int) (hr : rdy s age lost = true) (hk : (decide (0 ≤ k) && decide (k < (s.n : Int) - 25)) = false) :
    Calls Try.prog 21 #[.pointer (some ⟨r, 0, none⟩), .int .i64 k] w fun e w' => e = .returned (.tuple #[.string ⟨#[]⟩, .int .i64 1]) ∧ IsWal w' r p age lost ∧ IsDev w' p bs bw s ∧ Only [r, p, bs, bw] w w' := by
  have hmf : ∀ (fn : Fn) (first cap : Array Value) (w : World), (Instr.makeFunc fn first cap).run Try.prog w = .ok (.func fn first cap) w := fun _ _ _ _ => rfl
  have hE := env_start hw hd
  have cR := ready_any hE.wal hE.dev
  have e3 : rdyE s age lost = 0 := by simp [rdyE, hr]
  have cH := fun W (hW : Env w W r p bs bw age lost s 0) => whas_any hW.wal hW.dev k
  rw [e3] at cR
  rw [hk] at cH
  clear hw hd e3 hr hk
  go_enter_defers Try.func21, Try.ntmps21
  go_wp2_with (first
    | (go_at_call 43; refine cR.mono ?_; rintro e w2 ⟨rfl, j, hw2⟩; rw [hw2]; clear hw2 w2; have hE2 := (hE.drewN j).store 0; obtain ⟨c1, c2, c3⟩ := hE2.cells)
    | (go_at_call 47; refine (cH _ hE2).mono ?_; rintro e w' ⟨rfl, hw⟩; rw [hw]; clear hw w'; have hE3 := hE2.store 1))
  refine leaves_cons (f := 46) (args := #[.pointer (some ⟨w.heap.size, 0, none⟩), .pointer (some ⟨w.heap.size + 1, 0, none⟩)]) (by simp) (by simp [go_sem]) ?_
  refine (read_note hE3.wal hE3.cells.1 hE3.cells.2.1 .returning).mono ?_
  rintro e u' w'' ⟨rfl, rfl, hw', ho'⟩
  obtain ⟨f1, f2, f3, f4⟩ := hE3.out hw' ho'
  rw [show (lost || (1 : Int) == 3) = lost by simp] at f1
  exact ⟨.tuple #[.string ⟨#[]⟩, .int .i64 1], by rw [results_tmp_cell rfl]; simp [asAddr, go_sem, f4], rfl, f1, f2, f3⟩

set_option maxRecDepth 20000 in
set_option maxHeartbeats 2000000 in
theorem wread_ok {w : World} {r p bs bw : Nat} {age : Int} {lost : Bool} {s : DevS} (hw : IsWal w r p age lost) (hd : IsDev w p bs bw s) (i : Nat) (hr : rdy s age lost = true) (hi : i + 25 < s.n) :
    Calls Try.prog 21 #[.pointer (some ⟨r, 0, none⟩), .int .i64 (i : Int)] w fun e w' => e = .returned (.tuple #[.string (mk (s.readAt i)), .int .i64 0]) ∧ IsWal w' r p age lost ∧ IsDev w' p bs bw s ∧ Only [r, p, bs, bw] w w' := by
  have hmf : ∀ (fn : Fn) (first cap : Array Value) (w : World), (Instr.makeFunc fn first cap).run Try.prog w = .ok (.func fn first cap) w := fun _ _ _ _ => rfl
  have hE := env_start hw hd
  have cR := ready_any hE.wal hE.dev
  have e3 : rdyE s age lost = 0 := by simp [rdyE, hr]
  have cH := fun W (hW : Env w W r p bs bw age lost s 0) => whas_any hW.wal hW.dev (i : Int)
  have hk : (decide (0 ≤ (i : Int)) && decide ((i : Int) < (s.n : Int) - 25)) = true := by simp; omega
  have cD := fun W (hW : Env w W r p bs bw age lost s 0) => read_ok hW.dev i (by omega) (rdy_up hr).1
  rw [e3] at cR
  rw [hk] at cH
  clear hw hd e3 hr hk hi
  generalize s.readAt i = t at *
  go_enter_defers Try.func21, Try.ntmps21
  go_wp2_with (first
    | (go_at_call 43; refine cR.mono ?_; rintro e w2 ⟨rfl, j, hw2⟩; rw [hw2]; clear hw2 w2; have hE2 := (hE.drewN j).store 0; obtain ⟨c1, c2, c3⟩ := hE2.cells; obtain ⟨d1, d2, d3⟩ := hE2.wal.cells)
    | (go_at_call 47; refine (cH _ hE2).mono ?_; rintro e w' ⟨rfl, hw⟩; rw [hw]; clear hw w')
    | (go_at_call 48; refine (cD _ hE2).mono ?_; rintro e w3 ⟨rfl, hb3⟩; have hE3 := hE2.below hb3; obtain ⟨a1, a2, a3⟩ := hE3.cells; have hE4 := hE3.store 0))
  refine leaves_cons (f := 46) (args := #[.pointer (some ⟨w.heap.size, 0, none⟩), .pointer (some ⟨w.heap.size + 1, 0, none⟩)]) (by simp) (by simp [go_sem]) ?_
  refine (read_note hE4.wal hE4.cells.1 hE4.cells.2.1 .returning).mono ?_
  rintro e u' w'' ⟨rfl, rfl, hw', ho'⟩
  obtain ⟨f1, f2, f3, f4⟩ := hE4.out hw' ho'
  rw [show (lost || (0 : Int) == 3) = lost by simp] at f1
  exact ⟨.tuple #[.string (mk t), .int .i64 0], by rw [results_tmp_cell rfl]; simp [asAddr, go_sem, f4], rfl, f1, f2, f3⟩
end Go.Proofs.Ytblhmfkohbdmeaa
