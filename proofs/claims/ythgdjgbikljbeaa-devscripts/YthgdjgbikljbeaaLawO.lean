/-
  Op.Bytes: 64 bytes made of some, or these themselves.
-/
import Derived.Test.YthgdjgbikljbeaaLawB
import Derived.Laws.BitsAllLaws
namespace Go.Proofs.Ythgdjgbikljbeaa
open Go.RowKit Go.Maps

/-- 64 bytes with the first k of x laid over them. -/
def fillTo (x : ByteArray) : Nat → Sec
  | 0 => zeroS
  | k + 1 => (fillTo x k).set (k % 64) ((fillTo x k).getD (k % 64) 0 ^^^ x.data.toList.getD k 0)

theorem fillTo_len (x : ByteArray) : ∀ k, (fillTo x k).length = 64
  | 0 => zeroS_len
  | k + 1 => by rw [fillTo, List.length_set]; exact fillTo_len x k

/-- What a step writes. -/
def opBytes (x : ByteArray) (fill : Bool) : ByteArray := if fill then mk (fillTo x x.size) else x

set_option maxHeartbeats 400000 in
theorem opBytes_raw (d k : Int) (x : ByteArray) (w : World) :
    Calls Try.prog 27 #[.agg #[.int .i64 d, .int .i64 k, .string x, .bool false]] w fun e w' => e = .returned (.string x) ∧ Below w.heap.size w w' := by
  go_enter Try.func27, Try.ntmps27
  go_wp2
  go_ret
  exact ⟨rfl, (Below.refl _ _).alloc (Nat.le_refl _) _⟩

set_option maxRecDepth 20000 in
set_option maxHeartbeats 2000000 in
theorem opBytes_fill (d k : Int) (x : ByteArray) (w : World) (hx : x.size ≤ maxLen) :
    Calls Try.prog 27 #[.agg #[.int .i64 d, .int .i64 k, .string x, .bool true]] w fun e w' => e = .returned (.string (mk (fillTo x x.size))) ∧ Below w.heap.size w w' := by
  obtain ⟨i0, hi, hz0, hz1, hz2⟩ := info_parts Try.infoU8
  have hb1 : i0.bytes * 64 ≤ 281474976710656 := by rw [hz2]; decide
  unfold maxLen at hx
  go_enter Try.func27, Try.ntmps27
  go_wp2_with (first | (at_make; refine wpList_make_full _ rfl _ _ 66 rfl w.heap.size 5 i0 (.int .u8 0) 1 Try.underlying66 hi hz0 hz1 _ _ _ _ 64 rfl rfl rfl rfl hb1 (by unfold maxLen; omega) (by simp) ?_; rw [made64]; intro w1 hown hg1; have hrow := row_all hown; clear hown; go_frame))
  have hbox : w1.heap[w.heap.size]? = some (.cells #[.int .i64 d, .int .i64 k, .string x, .bool true] 35) := (hg1.block w.heap.size (by simp) (by simp)).trans (heap_alloc_last w _)
  have hO1 : Only [w.heap.size + 1] (w.alloc (.cells #[.int .i64 d, .int .i64 k, .string x, .bool true] 35)) w1 := Only.of_grown hg1 (by simp)
  simp only [World.size_alloc] at hrow ⊢
  have hr0 : w1.heap[w.heap.size + 1]? = some (.cells (bv (fillTo x 0)).toArray 5) := hrow
  clear hg1 hrow hb1 hi hz0 hz1 hz2
  go_loopw [4] (fun i wr => ∃ n : Nat, n ≤ x.size ∧ i = .int .i64 (n : Int) ∧ wr.heap[w.heap.size + 1]? = some (.cells (bv (fillTo x n)).toArray 5) ∧ Only [w.heap.size + 1] w1 wr)
    (fun i _ => x.size - (intOf i).toNat)
  case atStart => exact ⟨0, by omega, rfl, hr0, Only.refl _ _⟩
  case round =>
    obtain ⟨n, hn, rfl, hr, hO⟩ := hrel
    have hbx := only_heap hbox hO (by simp)
    have hc2 : wr.cell? ⟨w.heap.size, 2, none⟩ = some (.string x) := by rw [cell_at hbx]; rfl
    by_cases hlt : n < x.size
    · have hlt' : (n : Int) < (x.size : Int) := by omega
      obtain ⟨q, hq⟩ : ∃ q, q = n % 64 := ⟨_, rfl⟩
      have hq1 : q < 64 := by omega
      have hq2 : (q : Int) < 64 := by omega
      have htm : (n : Int).tmod 64 = (q : Int) := by rw [hq]; rfl
      have hc : wr.cell? ⟨w.heap.size + 1, q, none⟩ = some (.int .u8 (((fillTo x n).getD q 0).toNat : Int)) := by
        rw [cell_at hr]
        simp [bv, List.getD, fillTo_len, hq1]
      have hf := frozen_at hr q
      have hxn : x.data.toList.getD n 0 = x[n] := by
        have hk : n < x.data.toList.length := by rw [Array.length_toList]; exact hlt
        rw [List.getD, List.getElem?_eq_getElem hk]
        rfl
      have hxo : bits .xor .u8 (((fillTo x n).getD q 0).toNat : Int) (x[n].toNat : Int) = ((((fillTo x n).getD q 0) ^^^ x[n]).toNat : Int) := by
        rw [u8_xor_nat _ _ (UInt8.toNat_lt _) (UInt8.toNat_lt _), UInt8.toNat_xor]
      have hnew := heap_setCell hr q (.int .u8 ((((fillTo x n).getD q 0) ^^^ x[n]).toNat : Int))
      have hstep : (bv (fillTo x n)).toArray.setIfInBounds q (.int .u8 ((((fillTo x n).getD q 0) ^^^ x[n]).toNat : Int)) = (bv (fillTo x (n + 1))).toArray := by
        apply Array.toList_inj.1
        simp only [Array.toList_setIfInBounds]
        rw [fillTo, ← hq, hxn]
        simp [bv, List.map_set]
      rw [hstep] at hnew
      clear hr hr0 hstep hxn hq
      generalize ((fillTo x n).getD q 0) = fb at *
      go_wp2_with fail
      refine region_tail 14 Try.mixed (by kernel_rfl) ?_
      simp only [List.take_succ_cons, List.take_zero, List.drop_succ_cons, List.drop_zero]
      iterate 14 still_step
      refine wpStill_nil ?_
      go_wp2
      go_roundw
      case rel => exact ⟨n + 1, by omega, by go_num, hnew, (hO.trans (Only.drew _ _)).trans (Only.setCell _ (by simp) _)⟩
      case measure => simp [intOf]; omega
    · obtain rfl : n = x.size := by omega
      have hlt' : ¬ (x.size : Int) < (x.size : Int) := by omega
      have hcv := conv_row (fillTo x x.size) (fillTo_len _ _) hr
      clear hr hr0
      go_wp2
      go_ret
      refine ⟨rfl, ?_⟩
      have s1 := hO1.size
      simp only [World.size_alloc] at s1
      exact (((Below.refl w.heap.size w).alloc (Nat.le_refl _) _).trans (hO1.below (by simp) (by simp))).trans (hO.below (by omega) (by simp))

theorem opBytes_any (d k : Int) (x : ByteArray) (fill : Bool) (w : World) (hx : x.size ≤ maxLen) :
    Calls Try.prog 27 #[.agg #[.int .i64 d, .int .i64 k, .string x, .bool fill]] w fun e w' => e = .returned (.string (opBytes x fill)) ∧ Below w.heap.size w w' := by
  cases fill with
  | false => exact opBytes_raw d k x w
  | true => exact opBytes_fill d k x w hx

theorem opBytes_size (x : ByteArray) : (opBytes x true).size = 64 := by
  show (mk (fillTo x x.size)).size = 64
  rw [mk_size, fillTo_len]
end Go.Proofs.Ythgdjgbikljbeaa
