/-
  Put, where it is given up.
-/
import Derived.Test.YtkmdjhdininimaaShI
namespace Go.Proofs.Ytkmdjhdininimaa
open Go.RowKit Go.Maps

set_option maxRecDepth 20000 in
set_option maxHeartbeats 1000000 in
theorem put_no {w : World} {q p bs bw : Nat} {s : DevS} {age : Int} {lost : Bool} (h : IsDev w p bs bw s) (hs : SB w q p age lost) (hk : HdOk s (s.readAt 0)) (l : List UInt8) (hE : (putE s age lost l).1 ≠ 0) :
    Calls Try.prog 24 #[.pointer (some ⟨q, 0, none⟩), .string (mk l)] w fun e w' => e = .returned (.int .i64 (putE s age lost l).1) ∧ IsDev w' p bs bw (putE s age lost l).2 ∧ SB w' q p age (lost || decide ((putE s age lost l).1 = 3)) ∧ Only [p, bs, bw, q] w w' := by
  have hmf : ∀ (fn : Fn) (first cap : Array Value) (w : World), (Instr.makeFunc fn first cap).run Try.prog w = .ok (.func fn first cap) w := fun _ _ _ _ => rfl
  have hap := hs.apart h
  have hA : Below w.heap.size w ((w.alloc (.cells #[.pointer (some ⟨q, 0, none⟩)] 32)).alloc (.cells #[.int .i64 0] 24)) := ((Below.refl _ w).alloc (Nat.le_refl _) _).alloc (by simp) _
  have hg := (Below.heap_alloc (w.alloc (.cells #[.pointer (some ⟨q, 0, none⟩)] 32)) (.cells #[.int .i64 0] 24) w.heap.size (by simp)).trans (heap_alloc_last w (.cells #[.pointer (some ⟨q, 0, none⟩)] 32))
  have he := heap_alloc_last (w.alloc (.cells #[.pointer (some ⟨q, 0, none⟩)] 32)) (.cells #[.int .i64 0] 24)
  rw [World.size_alloc] at he
  have hlt : p < w.heap.size ∧ bs < w.heap.size ∧ bw < w.heap.size := ⟨h.ltp, h.lts, h.ltw⟩
  have hq := heap_lt hs
  have d0 := cell_at hg 0
  simp at d0
  -- what the closure makes of it
  have fin : ∀ (W W5 : World) (s' : DevS) (x : Int), Below w.heap.size w W → IsDev W p bs bw s' → SB W5 q p age (lost || decide (x = 3)) → Only [w.heap.size + 1, q] W W5 → IsDev W5 p bs bw s' ∧ SB W5 q p age (lost || decide (x = 3)) ∧ Only [p, bs, bw, q] w W5 := fun W W5 s' x hW hd hs5 ho => by
    simp at hap
    refine ⟨hd.kept ho (by simp; omega) (by simp; omega) (by simp; omega), hs5, ⟨ho.os.trans hW.os, ho.tape.trans hW.tape, ho.output.trans hW.output, Nat.le_trans hW.size ho.size, fun i hi hn => ?_⟩⟩
    have s1 := hW.size
    simp at hn
    rw [ho.block i (by omega) (by simp; omega)]
    exact hW.block i hi
  have fin2 : ∀ (W W4 W5 : World) (s' : DevS) (x : Int), Below w.heap.size w W → IsDev W4 p bs bw s' → Only [p, bs, bw] W W4 → SB W5 q p age (lost || decide (x = 3)) → Only [w.heap.size + 1, q] W4 W5 → IsDev W5 p bs bw s' ∧ SB W5 q p age (lost || decide (x = 3)) ∧ Only [p, bs, bw, q] w W5 := fun W W4 W5 s' x hW hd ho4 hs5 ho => by
    simp at hap
    refine ⟨hd.kept ho (by simp; omega) (by simp; omega) (by simp; omega), hs5, ⟨ho.os.trans (ho4.os.trans hW.os), ho.tape.trans (ho4.tape.trans hW.tape), ho.output.trans (ho4.output.trans hW.output), Nat.le_trans hW.size (Nat.le_trans ho4.size ho.size), fun i hi hn => ?_⟩⟩
    have s1 := hW.size
    have s2 := ho4.size
    simp at hn
    rw [ho.block i (by omega) (by simp; omega), ho4.block i (by omega) (by simp; omega)]
    exact hW.block i hi
  have c1 := must_ready (h.below hA) (hs.below hA)
  by_cases hr : rdy s age lost = true
  · rw [if_pos hr] at c1
    have hu : s.up = true := by unfold rdy at hr; simp at hr; exact hr.1.2
    by_cases hm : s.rmE l.length = 0
    · have hP : putE s age lost l = repS s l := by unfold putE; rw [if_pos hr, if_pos hm]
      rw [hP] at hE ⊢
      have hl : l.length ≤ 40000 := by
        unfold DevS.rmE at hm
        split at hm
        · cases hm
        · omega
      have c2 := fun W (hW : Below w.heap.size w W) => haveRoom_any (h.below hW) (hs.below hW) (mk l)
      rw [mks, hm, rt_ok rfl] at c2
      have c3 := fun W (hW : Below w.heap.size w W) => replace_any (h.below hW) (hs.below hW) hu hk l hl
      rw [rt_no hE] at c3
      unfold thr at c3
      generalize repS s l = R at *
      obtain ⟨x, d⟩ := R
      simp only at *
      go_enter_defers Try.func24, Try.ntmps24
      go_wp2_with fail
      refine c1.mono ?_
      rintro e w2 ⟨rfl, hb2⟩
      have hB2 := chainS hA hb2
      have hg2 := (hb2.block _ (heap_lt hg)).trans hg
      have he2 := (hb2.block (w.heap.size + 1) (by simp)).trans he
      have d2 := cell_at hg2 0
      simp at d2
      clear c1 d0
      go_wp2_with fail
      refine (c2 _ hB2).mono ?_
      rintro e w3 ⟨rfl, rfl⟩
      clear c2
      go_wp2_with (go_at_call 49; refine (c3 _ hB2).mono ?_; rintro e w4 ⟨rfl, hd4, ho4⟩)
      have he4 := only_heap he2 ho4 (by simp; omega)
      have hg4 := only_heap hg2 ho4 (by simp; omega)
      have hs4 := (hs.below hB2).only ho4 hap
      refine leaves_cons (f := 47) (args := #[.pointer (some ⟨w.heap.size + 1, 0, none⟩), .pointer (some ⟨w.heap.size, 0, none⟩)]) (by simp) (by simp [go_sem]) ?_
      refine (put_catch hs4 x 0 he4 hg4 (by omega) []).mono ?_
      rintro e u' w5 ⟨rfl, rfl, hc5, hs5, ho5⟩
      have hF := fin2 w3 w4 w5 d x hB2 hd4 ho4 hs5 ho5
      simp [Leaves, settle, results, Try.results24, go_sem, hc5]
      exact hF
    · have hP : putE s age lost l = (s.rmE l.length, s) := by unfold putE; rw [if_pos hr, if_neg hm]
      rw [hP] at hE ⊢
      simp only at hE ⊢
      have c2 := fun W (hW : Below w.heap.size w W) => haveRoom_any (h.below hW) (hs.below hW) (mk l)
      rw [mks, rt_no hm] at c2
      unfold thr at c2
      generalize s.rmE l.length = x at *
      go_enter_defers Try.func24, Try.ntmps24
      go_wp2_with fail
      refine c1.mono ?_
      rintro e w2 ⟨rfl, hb2⟩
      have hB2 := chainS hA hb2
      have hg2 := (hb2.block _ (heap_lt hg)).trans hg
      have he2 := (hb2.block (w.heap.size + 1) (by simp)).trans he
      have d2 := cell_at hg2 0
      simp at d2
      clear c1 d0
      go_wp2_with (go_at_call 48; refine (c2 _ hB2).mono ?_; rintro e w3 ⟨rfl, rfl⟩)
      refine leaves_cons (f := 47) (args := #[.pointer (some ⟨w.heap.size + 1, 0, none⟩), .pointer (some ⟨w.heap.size, 0, none⟩)]) (by simp) (by simp [go_sem]) ?_
      refine (put_catch (hs.below hB2) x 0 he2 hg2 (by omega) []).mono ?_
      rintro e u' w5 ⟨rfl, rfl, hc5, hs5, ho5⟩
      have hF := fin _ w5 s x hB2 (h.below hB2) hs5 ho5
      simp [Leaves, settle, results, Try.results24, go_sem, hc5]
      exact hF
  · have hP : putE s age lost l = (3, s) := by unfold putE; rw [if_neg hr]
    rw [hP]
    simp only
    rw [if_neg hr] at c1
    unfold thr at c1
    go_enter_defers Try.func24, Try.ntmps24
    go_wp2_with (go_at_call 38; refine c1.mono ?_; rintro e w2 ⟨rfl, hb2⟩)
    have hB2 := chainS hA hb2
    have hg2 := (hb2.block _ (heap_lt hg)).trans hg
    have he2 := (hb2.block (w.heap.size + 1) (by simp)).trans he
    refine leaves_cons (f := 47) (args := #[.pointer (some ⟨w.heap.size + 1, 0, none⟩), .pointer (some ⟨w.heap.size, 0, none⟩)]) (by simp) (by simp [go_sem]) ?_
    refine (put_catch (hs.below hB2) 3 0 he2 hg2 (by omega) []).mono ?_
    rintro e u' w5 ⟨rfl, rfl, hc5, hs5, ho5⟩
    have hF := fin _ w5 s 3 hB2 (h.below hB2) hs5 ho5
    simp [Leaves, settle, results, Try.results24, go_sem, hc5]
    simpa using hF
end Go.Proofs.Ytkmdjhdininimaa
