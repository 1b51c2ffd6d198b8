/-
  What is thrown is caught: errnoOf, the closures; Put.
-/
import Derived.Test.YtkmdjhdininimaaShH
namespace Go.Proofs.Ytkmdjhdininimaa
open Go.RowKit Go.Maps

theorem only_cell' {S : List Nat} {w w' : World} {b j : Nat} {v : Value} (ho : Only S w w') (hb : b ∉ S) (h : w.cell? ⟨b, j, none⟩ = some v) : w'.cell? ⟨b, j, none⟩ = some v := by
  have hl := World.block_lt_of_cell? w _ h
  rw [World.cell?_of_block (w := w) (w' := w') (a := ⟨b, j, none⟩) (ho.block b hl hb)]
  exact h
/-- Is there room? -/
def DevS.rmE (s : DevS) (n : Nat) : Int := if 40000 < n then 2 else if s.room < n then 4 else 0
set_option maxRecDepth 20000 in
theorem haveRoom_any {w : World} {q p bs bw : Nat} {s : DevS} {age : Int} {lost : Bool} (h : IsDev w p bs bw s) (hs : SB w q p age lost) (x : ByteArray) :
    Calls Try.prog 48 #[.pointer (some ⟨q, 0, none⟩), .string x] w fun e w' => e = rt (s.rmE x.size) ∧ w' = w := by
  have c := room_any h hs
  by_cases h1 : 40000 < x.size
  · have e1 : s.rmE x.size = 2 := by unfold DevS.rmE; rw [if_pos h1]
    have h1' : (40000 : Int) < (x.size : Int) := by omega
    rw [e1, rt_no (by decide)]
    unfold thr
    go_enter Try.func48, Try.ntmps48
    go_wp2_with fail
    exact ⟨rfl, rfl, rfl⟩
  · have h1' : ¬ (40000 : Int) < (x.size : Int) := by omega
    by_cases h2 : s.room < x.size
    · have e1 : s.rmE x.size = 4 := by unfold DevS.rmE; rw [if_neg h1, if_pos h2]
      have h2' : (s.room : Int) < (x.size : Int) := by omega
      rw [e1, rt_no (by decide)]
      generalize s.room = rm at *
      unfold thr
      go_enter Try.func48, Try.ntmps48
      go_wp2_with fail
      refine c.mono ?_
      rintro e w1 ⟨rfl, rfl⟩
      go_wp2_with fail
      exact ⟨rfl, rfl, rfl⟩
    · have e1 : s.rmE x.size = 0 := by unfold DevS.rmE; rw [if_neg h1, if_neg h2]
      have h2' : ¬ (s.room : Int) < (x.size : Int) := by omega
      rw [e1, rt_ok rfl]
      generalize s.room = rm at *
      go_enter Try.func48, Try.ntmps48
      go_wp2_with fail
      refine c.mono ?_
      rintro e w1 ⟨rfl, rfl⟩
      go_wp2_with fail
      go_end0
      exact ⟨rfl, rfl⟩
set_option maxRecDepth 20000 in
theorem errnoOf_any (x : Int) (w : World) : Calls Try.prog 33 #[.iface 24 (.int .i64 x)] w fun e w' => e = .returned (.int .i64 x) ∧ w' = w := by
  have hta : ∀ W : World, (Instr.typeAssert (.iface 24 (.int .i64 x)) 20 24 true).run Try.prog W = .ok (.tuple #[.int .i64 x, .bool true]) W := fun W => by
    simp [Instr.typeAssert, run_underlying Try.underlying24]
  go_enter Try.func33, Try.ntmps33
  go_wp2_with fail
  go_ret
  exact ⟨rfl, rfl⟩

set_option maxRecDepth 20000 in
set_option maxHeartbeats 1000000 in
/-- Put's closure, where something was thrown. -/
theorem put_catch {w : World} {q p ge gs : Nat} {age : Int} {lost : Bool} (hs : SB w q p age lost) (x y : Int) (he : w.heap[ge]? = some (.cells #[.int .i64 y] 24)) (hg : w.heap[gs]? = some (.cells #[.pointer (some ⟨q, 0, none⟩)] 32)) (hne : ge ≠ q) (older : List PanicEntry) :
    CallsD Try.prog 47 #[.pointer (some ⟨ge, 0, none⟩), .pointer (some ⟨gs, 0, none⟩)] (.panicking ({ v := .iface 24 (.int .i64 x), recovered := false } :: older)) w fun e u' w' =>
      e = .returned (.tuple #[]) ∧ u' = .panicking ({ v := .iface 24 (.int .i64 x), recovered := true } :: older) ∧ w'.cell? ⟨ge, 0, none⟩ = some (.int .i64 x) ∧ SB w' q p age (lost || decide (x = 3)) ∧ Only [ge, q] w w' := by
  refine callsD_of_wpS Try.func47 rfl fun c₀ cs hu => ?_
  apply wpS_seq
  apply wpS_region
  simp [wpOpsS, go_sem, recoverD, hu, Try.ntmps47, Exit.thenS]
  refine wpS_of_wp ?_
  have ce := fun W => errnoOf_any x W
  have e0 := cell_at he 0
  have z0 := frozen_at he 0
  simp at e0
  have hgs : gs ≠ ge := fun e => by rw [e, he] at hg; cases hg
  have hS1 : SB (w.setCell ⟨ge, 0, none⟩ (.int .i64 x)) q p age lost := hs.only (Only.setCell (S := [ge]) w (p := ⟨ge, 0, none⟩) (by simp) _) (by simpa using hne.symm)
  have hE1 := heap_setCell he 0 (.int .i64 x)
  have hG1 := only_heap hg (Only.setCell (S := [ge]) w (p := ⟨ge, 0, none⟩) (by simp) (.int .i64 x)) (by simpa using hgs)
  have d0 := cell_at hG1 0
  have d1 := cell_at hE1 0
  simp at d0 d1
  have cN := note_any hS1 x
  have hO1 : Only [ge, q] w (w.setCell ⟨ge, 0, none⟩ (.int .i64 x)) := Only.setCell w (p := ⟨ge, 0, none⟩) (by simp) _
  clear hs he hg hE1 hG1 hS1
  go_wp2_with (first
    | (go_at_call 33; refine (ce _).mono ?_; rintro e w2 ⟨rfl, rfl⟩)
    | (go_at_call 42; refine cN.mono ?_; rintro e w3 ⟨rfl, hS3, hO3⟩))
  have hcl := only_cell' hO3 (by simpa using hne) d1
  simp [bodyPostS, results, Try.results47]
  exact ⟨hcl, hS3, hO1.trans (hO3.mono (by simp))⟩

set_option maxRecDepth 20000 in
/-- .. and where nothing was. -/
theorem put_idle (a b : Addr) (w : World) :
    CallsD Try.prog 47 #[.pointer (some a), .pointer (some b)] .returning w fun e u' w' => e = .returned (.tuple #[]) ∧ u' = .returning ∧ w' = w := by
  refine callsD_of_wpS Try.func47 rfl fun c₀ cs hu => ?_
  apply wpS_seq
  apply wpS_region
  simp [wpOpsS, go_sem, recoverD, hu, Try.ntmps47, Exit.thenS]
  refine wpS_of_wp ?_
  go_wp2_with fail
  cases c₀
  simp_all [bodyPostS, results, Try.results47]

/-- What Put does. -/
def putE (s : DevS) (age : Int) (lost : Bool) (l : List UInt8) : Int × DevS :=
  if rdy s age lost = true then (if s.rmE l.length = 0 then repS s l else (s.rmE l.length, s)) else (3, s)
set_option maxRecDepth 20000 in
set_option maxHeartbeats 1000000 in
theorem put_ok {w : World} {q p bs bw : Nat} {s : DevS} {age : Int} {lost : Bool} (h : IsDev w p bs bw s) (hs : SB w q p age lost) (hk : HdOk s (s.readAt 0)) (l : List UInt8) (hE : (putE s age lost l).1 = 0) :
    Calls Try.prog 24 #[.pointer (some ⟨q, 0, none⟩), .string (mk l)] w fun e w' => e = .returned (.int .i64 0) ∧ IsDev w' p bs bw (putE s age lost l).2 ∧ SB w' q p age lost ∧ Only [p, bs, bw] w w' := by
  have hmf : ∀ (fn : Fn) (first cap : Array Value) (w : World), (Instr.makeFunc fn first cap).run Try.prog w = .ok (.func fn first cap) w := fun _ _ _ _ => rfl
  have hap := hs.apart h
  obtain ⟨hr, hm, hrep⟩ : rdy s age lost = true ∧ s.rmE l.length = 0 ∧ putE s age lost l = repS s l := by
    unfold putE at hE ⊢
    split at hE
    · rename_i h1
      split at hE
      · rename_i h2
        exact ⟨h1, h2, by rw [if_pos h1, if_pos h2]⟩
      · rename_i h2
        exact absurd hE h2
    · cases hE
  rw [hrep] at hE ⊢
  have hu : s.up = true := by unfold rdy at hr; simp at hr; exact hr.1.2
  have hl : l.length ≤ 40000 := by
    unfold DevS.rmE at hm
    split at hm
    · cases hm
    · omega
  have hA : Below w.heap.size w ((w.alloc (.cells #[.pointer (some ⟨q, 0, none⟩)] 32)).alloc (.cells #[.int .i64 0] 24)) := ((Below.refl _ w).alloc (Nat.le_refl _) _).alloc (by simp) _
  have hg := (Below.heap_alloc (w.alloc (.cells #[.pointer (some ⟨q, 0, none⟩)] 32)) (.cells #[.int .i64 0] 24) w.heap.size (by simp)).trans (heap_alloc_last w (.cells #[.pointer (some ⟨q, 0, none⟩)] 32))
  have he := heap_alloc_last (w.alloc (.cells #[.pointer (some ⟨q, 0, none⟩)] 32)) (.cells #[.int .i64 0] 24)
  rw [World.size_alloc] at he
  have hlt : p < w.heap.size ∧ bs < w.heap.size ∧ bw < w.heap.size := ⟨h.ltp, h.lts, h.ltw⟩
  have c1 := must_ready (h.below hA) (hs.below hA)
  rw [if_pos hr] at c1
  have c2 := fun W (hW : Below w.heap.size w W) => haveRoom_any (h.below hW) (hs.below hW) (mk l)
  rw [mks, hm, rt_ok rfl] at c2
  have c3 := fun W (hW : Below w.heap.size w W) => replace_any (h.below hW) (hs.below hW) hu hk l hl
  rw [hE, rt_ok rfl] at c3
  have d0 := cell_at hg 0
  simp at d0
  clear h hm hr hrep hE hk
  go_enter_defers Try.func24, Try.ntmps24
  go_wp2_with fail
  refine c1.mono ?_
  rintro e w2 ⟨rfl, hb2⟩
  have hB2 := chainS hA hb2
  have hg2 := (hb2.block _ (heap_lt hg)).trans hg
  have he2 := (hb2.block (w.heap.size + 1) (by simp)).trans he
  have d2 := cell_at hg2 0
  simp at d2
  clear c1 d0
  go_wp2_with fail
  refine (c2 _ hB2).mono ?_
  rintro e w3 ⟨rfl, rfl⟩
  clear c2
  go_wp2_with fail
  refine (c3 _ hB2).mono ?_
  rintro e w4 ⟨rfl, hd4, ho4⟩
  have he4 := only_heap he2 ho4 (by simp; omega)
  have d4 := cell_at he4 0
  have z4 := frozen_at he4 0
  simp at d4
  have hfin := heap_setCell he4 0 (.int .i64 0)
  have hoS : Only [w.heap.size + 1] w4 (w4.setCell ⟨w.heap.size + 1, 0, none⟩ (.int .i64 0)) := Only.setCell w4 (p := ⟨w.heap.size + 1, 0, none⟩) (by simp) _
  have hd5 := hd4.kept hoS (by simp; omega) (by simp; omega) (by simp; omega)
  have hs5 := ((hs.below hB2).only ho4 hap).only hoS (by have := heap_lt hs; simp; omega)
  have ho5 : Only [p, bs, bw] w (w4.setCell ⟨w.heap.size + 1, 0, none⟩ (.int .i64 0)) := by
    have s1 := hB2.size
    have s2 := ho4.size
    exact ⟨hoS.os.trans (ho4.os.trans hB2.os), hoS.tape.trans (ho4.tape.trans hB2.tape), hoS.output.trans (ho4.output.trans hB2.output), Nat.le_trans s1 (Nat.le_trans s2 hoS.size), fun i hi hn => by
      rw [hoS.block i (by omega) (by simp; omega), ho4.block i (by omega) hn]
      exact hB2.block i hi⟩
  clear c3 d2 hg2 he2
  go_wp2_with fail
  refine leaves_cons (f := 47) (args := #[.pointer (some ⟨w.heap.size + 1, 0, none⟩), .pointer (some ⟨w.heap.size, 0, none⟩)]) (by simp) (by simp [go_sem]) ?_
  refine (put_idle _ _ _).mono ?_
  rintro e u' w5 ⟨rfl, rfl, rfl⟩
  have d6 := cell_at hfin 0
  simp at d6
  simp [Leaves, settle, results, Try.results24, go_sem, d6]
  exact ⟨hd5, hs5, ho5⟩
end Go.Proofs.Ytkmdjhdininimaa
