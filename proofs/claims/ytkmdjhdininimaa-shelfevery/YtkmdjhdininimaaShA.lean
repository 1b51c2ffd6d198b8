/-
  A shelf in the world; its small functions, which answer or panic.
-/
import Derived.Test.YtkmdjhdininimaaDevT
import Derived.BigQuiet
import Derived.Defers
import Derived.Recover
namespace Go.Proofs.Ytkmdjhdininimaa
open Go.ChangeShapes Go.WideShapes Go.ChangeAt Go.RowKit

theorem chainS {w a b : World} (h : Below w.heap.size w a) (k : Below a.heap.size a b) : Below w.heap.size w b := h.trans (k.mono h.size)
/-- A world behind `w`: what lay in `w` lies in it still. -/
structure Beh (w : World) where
  it : World
  h : Below w.heap.size w it
instance (w : World) : Nonempty (Beh w) := ⟨⟨w, Below.refl _ w⟩⟩
theorem Beh.out {w w' : World} (h : ∃ s : Beh w, w' = s.it) : Below w.heap.size w w' := by
  obtain ⟨s, rfl⟩ := h
  exact s.h
theorem Beh.mk' {w w' : World} (h : Below w.heap.size w w') : ∃ s : Beh w, w' = s.it := ⟨⟨w', h⟩, rfl⟩
theorem wp_region_beh {P : Program} {id : Nat} {Q : Exit → Act → World → Prop} {a : Act} {w : World} {l : List Oper} (hm : P.follows .mixedOrders = true) (hB : Region.lexB .any l.toArray = true)
    (h : wpQuiet P l.toArray (fun w' => ∃ s : Beh w, w' = s.it) (fun a' => ∀ w', (∃ s : Beh w, w' = s.it) → Q .normal a' w') l a) : (Code.region id l.toArray true).wp P Q a w :=
  wp_region_quiet (C := fun w' => ∃ s : Beh w, w' = s.it) hm hB (Beh.mk' (Below.drew (Below.refl _ w))) (by simpa using h)
theorem Beh.call {P : Program} {f : FuncId} {args : Array Value} {w : World} {s : Beh w} {v : Value}
    (h : Calls P f args s.it fun e w' => e = .returned v ∧ Below s.it.heap.size s.it w') : Calls P f args s.it fun e w'' => e = .returned v ∧ ∃ s' : Beh w, w'' = s'.it :=
  h.mono fun _ _ ⟨he, hb⟩ => ⟨he, Beh.mk' (chainS s.h hb)⟩

/-- What is thrown: an error. -/
def thr (e : Int) : Ending := .panicked [{ v := .iface 24 (.int .i64 e), recovered := false }]

theorem must_ok (w : World) : Calls Try.prog 54 #[.int .i64 0] w fun e w' => e = .returned (.tuple #[]) ∧ w' = w := by
  go_enter Try.func54, Try.ntmps54
  go_wp2
  first | go_end0 | skip
  exact ⟨rfl, rfl⟩
theorem must_bad (x : Int) (hx : x ≠ 0) (w : World) : Calls Try.prog 54 #[.int .i64 x] w fun e w' => e = thr x ∧ w' = w := by
  have hx' : (x != 0) = true := by simpa using hx
  go_enter Try.func54, Try.ntmps54
  go_wp2
  exact ⟨rfl, rfl, rfl⟩

/-- A shelf's box. -/
def SB (W : World) (q p : Nat) (age : Int) (lost : Bool) : Prop := W.heap[q]? = some (.cells #[.pointer (some ⟨p, 0, none⟩), .int .i64 age, .bool lost] 79)
theorem SB.below {W W' : World} {q p : Nat} {age : Int} {lost : Bool} (h : SB W q p age lost) (hb : Below W.heap.size W W') : SB W' q p age lost := (hb.block q (heap_lt h)).trans h
theorem SB.cells {W : World} {q p : Nat} {age : Int} {lost : Bool} (h : SB W q p age lost) : W.cell? ⟨q, 0, none⟩ = some (.pointer (some ⟨p, 0, none⟩)) ∧ W.cell? ⟨q, 1, none⟩ = some (.int .i64 age) ∧ W.cell? ⟨q, 2, none⟩ = some (.bool lost) ∧ W.frozen? ⟨q, 2, none⟩ = false :=
  ⟨cell_at h 0, cell_at h 1, cell_at h 2, frozen_at h 2⟩
/-- May a call go on? -/
def rdy (s : DevS) (age : Int) (lost : Bool) : Bool := !lost && s.up && decide (s.age = age)

set_option maxRecDepth 20000 in
set_option maxHeartbeats 1000000 in
theorem ready_any {w : World} {q p bs bw : Nat} {s : DevS} {age : Int} {lost : Bool} (h : IsDev w p bs bw s) (hs : SB w q p age lost) :
    Calls Try.prog 45 #[.pointer (some ⟨q, 0, none⟩)] w fun e w' => e = .returned (.bool (rdy s age lost)) ∧ Below w.heap.size w w' := by
  have e0 : ∀ t : Beh w, t.it.cell? ⟨q, 0, none⟩ = some (.pointer (some ⟨p, 0, none⟩)) := fun t => (hs.below t.h).cells.1
  have e1 : ∀ t : Beh w, t.it.cell? ⟨q, 1, none⟩ = some (.int .i64 age) := fun t => (hs.below t.h).cells.2.1
  have e2 : ∀ t : Beh w, t.it.cell? ⟨q, 2, none⟩ = some (.bool lost) := fun t => (hs.below t.h).cells.2.2.1
  have cU : ∀ t : Beh w, Calls Try.prog 28 #[.pointer (some ⟨p, 0, none⟩)] t.it fun e w' => e = .returned (.bool s.up) ∧ Below t.it.heap.size t.it w' := fun t =>
    (up_any (h.below t.h)).mono fun _ _ ⟨h1, h2⟩ => ⟨h1, by rw [h2]; exact Below.refl _ _⟩
  have cA : ∀ t : Beh w, Calls Try.prog 51 #[.pointer (some ⟨p, 0, none⟩)] t.it fun e w' => e = .returned (.int .i64 s.age) ∧ Below t.it.heap.size t.it w' := fun t =>
    (age_any (h.below t.h)).mono fun _ _ ⟨h1, h2⟩ => ⟨h1, by rw [h2]; exact Below.refl _ _⟩
  clear h hs
  unfold rdy
  cases lost with
  | true =>
    go_enter Try.func45, Try.ntmps45
    go_wp2_with fail
    refine wp_region_beh (by kernel_rfl) (by kernel_rfl) ?_
    repeat (go_big_quiet_step (fail))
    refine wpQuiet_nil ?_
    intro wq hw'
    have hwq := Beh.out hw'
    clear hw'
    go_wp2_with fail
    go_ret
    exact ⟨rfl, hwq⟩
  | false =>
    generalize s.up = up at *
    cases up with
    | false =>
      go_enter Try.func45, Try.ntmps45
      go_wp2_with fail
      refine wp_region_beh (by kernel_rfl) (by kernel_rfl) ?_
      repeat (go_big_quiet_step ((go_at_call 28; exact Beh.call (cU _))))
      refine wpQuiet_nil ?_
      intro wq hw'
      have hwq := Beh.out hw'
      clear hw'
      go_wp2_with fail
      go_ret
      exact ⟨rfl, hwq⟩
    | true =>
      generalize s.age = a at *
      go_enter Try.func45, Try.ntmps45
      go_wp2_with fail
      refine wp_region_beh (by kernel_rfl) (by kernel_rfl) ?_
      repeat (go_big_quiet_step ((first | (go_at_call 28; exact Beh.call (cU _)) | (go_at_call 51; exact Beh.call (cA _)))))
      refine wpQuiet_nil ?_
      intro wq hw'
      have hwq := Beh.out hw'
      clear hw'
      go_wp2_with fail
      go_ret
      exact ⟨by simp; rfl, hwq⟩
theorem must_ready {w : World} {q p bs bw : Nat} {s : DevS} {age : Int} {lost : Bool} (h : IsDev w p bs bw s) (hs : SB w q p age lost) :
    Calls Try.prog 38 #[.pointer (some ⟨q, 0, none⟩)] w fun e w' => e = (if rdy s age lost = true then .returned (.tuple #[]) else thr 3) ∧ Below w.heap.size w w' := by
  have c := ready_any h hs
  cases hr : rdy s age lost with
  | true =>
    rw [hr] at c
    clear hr
    go_enter Try.func38, Try.ntmps38
    go_wp2_with fail
    refine c.mono ?_
    rintro e w1 ⟨rfl, q1⟩
    go_wp2_with fail
    go_end0
    exact ⟨rfl, q1⟩
  | false =>
    rw [hr] at c
    clear hr
    go_enter Try.func38, Try.ntmps38
    go_wp2_with fail
    refine c.mono ?_
    rintro e w1 ⟨rfl, q1⟩
    go_wp2_with fail
    exact ⟨rfl, rfl, q1⟩
set_option maxRecDepth 20000 in
theorem note_any {w : World} {q p : Nat} {age : Int} {lost : Bool} (hs : SB w q p age lost) (x : Int) :
    Calls Try.prog 42 #[.pointer (some ⟨q, 0, none⟩), .int .i64 x] w fun e w' => e = .returned (.tuple #[]) ∧ SB w' q p age (lost || decide (x = 3)) ∧ Only [q] w w' := by
  obtain ⟨-, -, c2, z2⟩ := hs.cells
  by_cases hx : x = 3
  · subst hx
    go_enter Try.func42, Try.ntmps42
    go_wp2
    go_end0
    refine ⟨rfl, ?_, Only.setCell w (by simp) _⟩
    have := heap_setCell hs 2 (.bool true)
    simpa [SB] using this
  · have hx' : (x == 3) = false := by simpa using hx
    go_enter Try.func42, Try.ntmps42
    go_wp2
    go_end0
    exact ⟨rfl, by simpa [hx] using hs, Only.refl _ _⟩

/-- How many sectors a place has; how many bytes it takes. -/
def DevS.each (s : DevS) : Nat := (s.n - 1) / 2
def DevS.room (s : DevS) : Nat := min (s.each * 64) 40000
theorem each_any {w : World} {q p bs bw : Nat} {s : DevS} {age : Int} {lost : Bool} (h : IsDev w p bs bw s) (hs : SB w q p age lost) :
    Calls Try.prog 64 #[.pointer (some ⟨q, 0, none⟩)] w fun e w' => e = .returned (.int .i64 (s.each : Int)) ∧ w' = w := by
  obtain ⟨c0, -, -, -⟩ := hs.cells
  have c := sectors_any h
  have hn := h.lo
  have hn2 := h.hi
  obtain ⟨m, hm⟩ : ∃ m, s.n = m + 1 := ⟨s.n - 1, by omega⟩
  have hq : (m : Int).tdiv 2 = ((m / 2 : Nat) : Int) := rfl
  have HE : (s.each : Int) = ((m / 2 : Nat) : Int) := by unfold DevS.each; rw [hm]; rfl
  rw [hm] at c
  have e1 : ((m + 1 : Nat) : Int) - 1 = (m : Int) := by omega
  have e2 : ((m + 1 : Nat) : Int) = (m : Int) + 1 := by omega
  rw [e2] at c
  go_enter Try.func64, Try.ntmps64
  go_wp2_with fail
  refine c.mono ?_
  rintro e w1 ⟨rfl, rfl⟩
  go_wp2_with fail
  go_ret
  rw [HE]
  exact ⟨by go_num, rfl⟩
theorem each_le {w : World} {p bs bw : Nat} {s : DevS} (h : IsDev w p bs bw s) : s.each ≤ 4095 := by
  have := h.hi
  unfold DevS.each
  omega
set_option maxRecDepth 20000 in
theorem room_any {w : World} {q p bs bw : Nat} {s : DevS} {age : Int} {lost : Bool} (h : IsDev w p bs bw s) (hs : SB w q p age lost) :
    Calls Try.prog 46 #[.pointer (some ⟨q, 0, none⟩)] w fun e w' => e = .returned (.int .i64 (s.room : Int)) ∧ w' = w := by
  have c := each_any h hs
  have hl := each_le h
  have HE : (s.room : Int) = (if (s.each : Int) * 64 ≤ 40000 then (s.each : Int) * 64 else 40000) := by unfold DevS.room; split <;> omega
  generalize s.each = m at *
  have hm : (m : Int) ≤ 4095 := by omega
  by_cases hc : (m : Int) * 64 ≤ 40000
  · rw [if_pos hc] at HE
    rw [HE]
    clear HE
    go_enter Try.func46, Try.ntmps46
    go_wp2_with fail
    refine c.mono ?_
    rintro e w1 ⟨rfl, rfl⟩
    go_wp2_with fail
    go_ret
    exact ⟨by go_num, rfl⟩
  · rw [if_neg hc] at HE
    rw [HE]
    clear HE
    go_enter Try.func46, Try.ntmps46
    go_wp2_with fail
    refine c.mono ?_
    rintro e w1 ⟨rfl, rfl⟩
    go_wp2_with fail
    go_ret
    exact ⟨by go_num, rfl⟩
end Go.Proofs.Ytkmdjhdininimaa
