/-
  Stage.
-/
import Derived.Test.YtblhmfkohbdmeaaWalD
namespace Go.Proofs.Ytblhmfkohbdmeaa
open Go.RowKit Go.Maps

set_option maxHeartbeats 400000 in
theorem stage_note {w : World} {r p x y : Nat} {age e : Int} {lost : Bool} (hw : IsWal w r p age lost) (h1 : w.cell? ⟨x, 0, none⟩ = some (.pointer (some ⟨r, 0, none⟩))) (h2 : w.cell? ⟨y, 0, none⟩ = some (.int .i64 e)) (u : FrameMode) :
    CallsD Try.prog 80 #[.pointer (some ⟨x, 0, none⟩), .pointer (some ⟨y, 0, none⟩)] u w fun z u' w' => u' = u ∧ z = .returned (.tuple #[]) ∧ IsWal w' r p age (lost || e == 3) ∧ Only [r] w w' := by
  have c := note_any hw e
  clear hw
  go_enter_d Try.func80, Try.ntmps80
  go_wp2_with (first | (go_at_call 42; refine c.mono ?_; rintro e w' ⟨rfl, hw', ho'⟩))
  go_end0
  exact ⟨rfl, hw', ho'⟩

theorem results_cell1 {fn : Func} {p : Tmp} {ty : TypeId} (h : fn.results = #[.cell p ty]) (tmps : Array Value) (P : Program) (w : World) :
    (results fn tmps).run P w = ((asAddr (tmps.getD p undef)).run P w).andThen fun a w₁ => (loadVar ty a).run P w₁ := by
  simp only [results, h]
  simp [Sem.run_bind, Result.andThen]

set_option maxRecDepth 20000 in
set_option maxHeartbeats 2000000 in
theorem stage_down {w : World} {r p bs bw : Nat} {age : Int} {lost : Bool} {s : DevS} (hw : IsWal w r p age lost) (hd : IsDev w p bs bw s) (k : Int) (z : ByteArray) (hr : rdy s age lost = false) :
    Calls Try.prog 67 #[.pointer (some ⟨r, 0, none⟩), .int .i64 k, .string z] w fun e w' => e = .returned (.int .i64 3) ∧ IsWal w' r p age true ∧ IsDev w' p bs bw s ∧ Only [r, p, bs, bw] w w' := by
  have hmf : ∀ (fn : Fn) (first cap : Array Value) (w : World), (Instr.makeFunc fn first cap).run Try.prog w = .ok (.func fn first cap) w := fun _ _ _ _ => rfl
  have hE := env_start hw hd
  have cR := ready_any hE.wal hE.dev
  have e3 : rdyE s age lost = 3 := by simp [rdyE, hr]
  rw [e3] at cR
  clear hw hd e3 hr
  go_enter_defers Try.func67, Try.ntmps67
  go_wp2_with (first
    | (go_at_call 43; refine cR.mono ?_; rintro e w2 ⟨rfl, j, hw2⟩; rw [hw2]; clear hw2 w2; have hE2 := (hE.drewN j).store 3; obtain ⟨c1, c2, c3⟩ := hE2.cells; have hE3 := hE2.store 3))
  refine leaves_cons (f := 80) (args := #[.pointer (some ⟨w.heap.size, 0, none⟩), .pointer (some ⟨w.heap.size + 1, 0, none⟩)]) (by simp) (by simp [go_sem]) ?_
  refine (stage_note hE3.wal hE3.cells.1 hE3.cells.2.1 .returning).mono ?_
  rintro e u' w'' ⟨rfl, rfl, hw', ho'⟩
  obtain ⟨f1, f2, f3, f4⟩ := hE3.out hw' ho'
  rw [show (lost || (3 : Int) == 3) = true by simp] at f1
  exact ⟨.int .i64 3, by rw [results_cell1 rfl]; simp [asAddr, go_sem, f4], rfl, f1, f2, f3⟩

set_option maxRecDepth 20000 in
set_option maxHeartbeats 2000000 in
theorem stage_arg {w : World} {r p bs bw : Nat} {age : Int} {lost : Bool} {s : DevS} (hw : IsWal w r p age lost) (hd : IsDev w p bs bw s) (k : Int) (z : ByteArray) (hr : rdy s age lost = true) (hk : (decide (0 ≤ k) && decide (k < (s.n : Int) - 25)) = false) :
    Calls Try.prog 67 #[.pointer (some ⟨r, 0, none⟩), .int .i64 k, .string z] w fun e w' => e = .returned (.int .i64 1) ∧ IsWal w' r p age lost ∧ IsDev w' p bs bw s ∧ Only [r, p, bs, bw] w w' := by
  have hmf : ∀ (fn : Fn) (first cap : Array Value) (w : World), (Instr.makeFunc fn first cap).run Try.prog w = .ok (.func fn first cap) w := fun _ _ _ _ => rfl
  have hE := env_start hw hd
  have cR := ready_any hE.wal hE.dev
  have e3 : rdyE s age lost = 0 := by simp [rdyE, hr]
  have cH := fun W (hW : Env w W r p bs bw age lost s 0) => whas_any hW.wal hW.dev k
  rw [e3] at cR
  rw [hk] at cH
  clear hw hd e3 hr hk
  go_enter_defers Try.func67, Try.ntmps67
  go_wp2_with (first
    | (go_at_call 43; refine cR.mono ?_; rintro e w2 ⟨rfl, j, hw2⟩; rw [hw2]; clear hw2 w2; have hE2 := (hE.drewN j).store 0; obtain ⟨c1, c2, c3⟩ := hE2.cells)
    | (go_at_call 47; refine (cH _ hE2).mono ?_; rintro e w' ⟨rfl, hw⟩; rw [hw]; clear hw w'; have hE3 := hE2.store 1))
  refine leaves_cons (f := 80) (args := #[.pointer (some ⟨w.heap.size, 0, none⟩), .pointer (some ⟨w.heap.size + 1, 0, none⟩)]) (by simp) (by simp [go_sem]) ?_
  refine (stage_note hE3.wal hE3.cells.1 hE3.cells.2.1 .returning).mono ?_
  rintro e u' w'' ⟨rfl, rfl, hw', ho'⟩
  obtain ⟨f1, f2, f3, f4⟩ := hE3.out hw' ho'
  rw [show (lost || (1 : Int) == 3) = lost by simp] at f1
  exact ⟨.int .i64 1, by rw [results_cell1 rfl]; simp [asAddr, go_sem, f4], rfl, f1, f2, f3⟩

set_option maxRecDepth 20000 in
set_option maxHeartbeats 2000000 in
theorem stage_go {w : World} {r p bs bw : Nat} {age : Int} {lost : Bool} {s : DevS} (hw : IsWal w r p age lost) (hd : IsDev w p bs bw s) (k : Int) (z : ByteArray) (hr : rdy s age lost = true) (hk : (decide (0 ≤ k) && decide (k < (s.n : Int) - 25)) = true) :
    Calls Try.prog 67 #[.pointer (some ⟨r, 0, none⟩), .int .i64 k, .string z] w fun e w' => e = .returned (.int .i64 (s.write k z).1) ∧ IsWal w' r p age (lost || (s.write k z).1 == 3) ∧ IsDev w' p bs bw (s.write k z).2 ∧ Only [r, p, bs, bw] w w' := by
  have hmf : ∀ (fn : Fn) (first cap : Array Value) (w : World), (Instr.makeFunc fn first cap).run Try.prog w = .ok (.func fn first cap) w := fun _ _ _ _ => rfl
  have hE := env_start hw hd
  have cR := ready_any hE.wal hE.dev
  have e3 : rdyE s age lost = 0 := by simp [rdyE, hr]
  have cH := fun W (hW : Env w W r p bs bw age lost s 0) => whas_any hW.wal hW.dev k
  have cD := fun W (hW : Env w W r p bs bw age lost s 0) => write_all hW.dev k z
  rw [e3] at cR
  rw [hk] at cH
  clear hw hd e3 hr hk
  generalize (s.write k z).1 = er at *
  generalize (s.write k z).2 = s' at *
  go_enter_defers Try.func67, Try.ntmps67
  go_wp2_with (first
    | (go_at_call 43; refine cR.mono ?_; rintro e w2 ⟨rfl, j, hw2⟩; rw [hw2]; clear hw2 w2; have hE2 := (hE.drewN j).store 0; obtain ⟨c1, c2, c3⟩ := hE2.cells; obtain ⟨d1, d2, d3⟩ := hE2.wal.cells)
    | (go_at_call 47; refine (cH _ hE2).mono ?_; rintro e w' ⟨rfl, hw⟩; rw [hw]; clear hw w')
    | (go_at_call 12; refine (cD _ hE2).mono ?_; rintro e w3 ⟨rfl, hd3, ho3⟩; have hE3 := hE2.moved hd3 ho3; obtain ⟨a1, a2, a3⟩ := hE3.cells; have hE4 := hE3.store er))
  refine leaves_cons (f := 80) (args := #[.pointer (some ⟨w.heap.size, 0, none⟩), .pointer (some ⟨w.heap.size + 1, 0, none⟩)]) (by simp) (by simp [go_sem]) ?_
  refine (stage_note hE4.wal hE4.cells.1 hE4.cells.2.1 .returning).mono ?_
  rintro e u' w'' ⟨rfl, rfl, hw', ho'⟩
  obtain ⟨f1, f2, f3, f4⟩ := hE4.out hw' ho'
  exact ⟨.int .i64 er, by rw [results_cell1 rfl]; simp [asAddr, go_sem, f4], rfl, f1, f2, f3⟩
end Go.Proofs.Ytblhmfkohbdmeaa
