/-
  Contracts of the law's helpers: bytes, pick.
-/
import Derived.Test.YthgdjgbikljbeaaDevC
import Derived.Laws.MakeOwn
namespace Go.Proofs.Ythgdjgbikljbeaa
open Go.RowKit Go.Maps

theorem Try.infoU8 : (Try.prog.info? 5).map (fun i => (i.zero, i.size, i.bytes)) = some (some (.int .u8 0), 1, 1) := by kernel_rfl

theorem conv_row {w : World} {g : Nat} {t : TypeId} (s : Sec) (h : s.length = 64) (hg : w.heap[g]? = some (.cells (bv s).toArray t)) :
    (convert 66 9 (.slice (some ⟨g, 0, none⟩) 64 64)).run Try.prog w = .ok (.string (mk s)) w := by
  have := run_convert_bytes_back (P := Try.prog) w 66 9 5 ⟨g, 0, none⟩ 64 s Try.underlying66 Try.underlying5 Try.underlying9 (fun j hj => by
    have hadd : (⟨g, 0, none⟩ : Addr).add j = ⟨g, j, none⟩ := by unfold Addr.add; split <;> simp_all
    rw [hadd, cell_at hg]
    simp [bv, hj])
  rw [h] at this
  exact this

theorem made64 : (madeCells (Value.cells (.int .u8 0)) (64 * 1)).toList = zeroC := by kernel_rfl

theorem row_all {w : World} {base g : Nat} {e : TypeId} {L : List Value} {n : Nat} (h : w.ownsRow base e 1 (.slice (some ⟨g, 0, none⟩) n n) n L) : w.heap[g]? = some (.cells L.toArray e) := by
  have hl := h.1
  rcases h.2 with ⟨h1, _⟩ | ⟨g', cap, cur, hv, _, hg, hn, _, hs, ht⟩
  · cases h1
  · cases hv
    rw [hg, ← ht, List.take_of_length_le (by simp; omega)]

/-- 64 bytes, the first k of them b. -/
def rowB (b : UInt8) (k : Nat) : Sec := (List.range 64).map fun i => if i < k then b else 0
theorem rowB_len (b : UInt8) (k : Nat) : (rowB b k).length = 64 := by simp [rowB]
theorem rowB_0 (b : UInt8) : rowB b 0 = zeroS := by
  apply List.ext_getElem
  · rw [rowB_len, zeroS_len]
  · intro i h1 h2
    simp only [rowB, zeroS, List.getElem_map, List.getElem_replicate, Nat.not_lt_zero, if_false]
theorem rowB_64 (b : UInt8) : rowB b 64 = List.replicate 64 b := by
  apply List.ext_getElem
  · simp [rowB]
  · intro i h1 h2
    rw [rowB_len] at h1
    simp only [rowB, List.getElem_map, List.getElem_replicate, List.getElem_range, h1, if_true]
theorem rowB_set (b : UInt8) (k : Nat) : (bv (rowB b k)).toArray.setIfInBounds k (.int .u8 (b.toNat : Int)) = (bv (rowB b (k + 1))).toArray := by
  apply Array.toList_inj.1
  simp only [Array.toList_setIfInBounds]
  apply List.ext_getElem
  · simp [bv, rowB]
  · intro i h1 h2
    simp only [bv, rowB, List.getElem_set, List.getElem_map, List.getElem_range]
    by_cases e : k = i
    · subst e; simp
    · by_cases h : i < k
      · simp [e, h, show i < k + 1 by omega]
      · simp [e, h, show ¬ i < k + 1 by omega]

set_option maxHeartbeats 1000000 in
theorem bytes_any (b : UInt8) (w : World) :
    Calls Try.prog 18 #[.int .u8 (b.toNat : Int)] w fun e w' => e = .returned (.string (mk (List.replicate 64 b))) ∧ Below w.heap.size w w' := by
  obtain ⟨i0, hi, hz0, hz1, hz2⟩ := info_parts Try.infoU8
  have hb1 : i0.bytes * 64 ≤ 281474976710656 := by rw [hz2]; decide
  go_enter Try.func18, Try.ntmps18
  go_wp2_with (first | (at_make; refine wpList_make_full _ rfl _ _ 66 rfl w.heap.size 5 i0 (.int .u8 0) 1 Try.underlying66 hi hz0 hz1 _ _ _ _ 64 rfl rfl rfl rfl hb1 (by unfold maxLen; omega) (Nat.le_refl _) ?_; rw [made64]; intro w1 hown hg1; have hrow := row_all hown; clear hown; go_frame))
  have hO1 : Only [w.heap.size] w w1 := Only.of_grown hg1 (by simp)
  have hr0 : w1.heap[w.heap.size]? = some (.cells (bv (rowB b 0)).toArray 5) := by rw [rowB_0]; exact hrow
  clear hg1 hrow hb1 hi hz0 hz1 hz2
  go_loopw [4] (fun i wr => ∃ k : Nat, k ≤ 64 ∧ i = .int .i64 (k : Int) ∧ wr.heap[w.heap.size]? = some (.cells (bv (rowB b k)).toArray 5) ∧ Only [w.heap.size] w wr)
    (fun i _ => 64 - (intOf i).toNat)
  case atStart => exact ⟨0, by omega, rfl, hr0, hO1⟩
  case round =>
    obtain ⟨k, hk, rfl, hr, hO⟩ := hrel
    by_cases hlt : k < 64
    · have hlt' : (k : Int) < 64 := by omega
      have hc : ∃ v, wr.cell? ⟨w.heap.size, k, none⟩ = some v := by
        rw [cell_at hr]
        exact ⟨_, Array.getElem?_eq_getElem (by simp [bv_len, rowB_len, hlt])⟩
      obtain ⟨v, hc⟩ := hc
      have hf := frozen_at hr k
      have hn := heap_setCell hr k (.int .u8 (b.toNat : Int))
      rw [rowB_set] at hn
      clear hr hr0
      go_wp2
      go_roundw
      case rel => exact ⟨k + 1, by omega, by go_num, hn, hO.trans (Only.setCell wr (by simp) _)⟩
      case measure => simp [intOf]; omega
    · have hk64 : k = 64 := by omega
      subst hk64
      rw [rowB_64] at hr
      have hcv := conv_row (List.replicate 64 b) (by simp) hr
      clear hr hr0
      go_wp2
      go_ret
      exact ⟨rfl, hO.below (Nat.le_refl _) (by simp)⟩

theorem ret_int {k : IntKind} {a b : Int} (h : a = b) : Ending.returned (.int k a) = .returned (.int k b) := by rw [h]

/-- pick: a number below n. -/
def pickI (c n : Int) : Int := (if c < 0 then -(c + 1) else c) % n

theorem pickI_bd (c n : Int) (hn : 0 < n) : 0 ≤ pickI c n ∧ pickI c n < n := by
  unfold pickI
  exact ⟨Int.emod_nonneg _ (by omega), Int.emod_lt_of_pos _ hn⟩

set_option maxHeartbeats 400000 in
theorem pick_any (c n : Int) (w : World) (h0 : -9223372036854775808 ≤ c) (h1 : c ≤ 9223372036854775807) (hn : 0 < n) (hn1 : n ≤ 9223372036854775807) :
    Calls Try.prog 12 #[.int .i64 c, .int .i64 n] w fun e w' => e = .returned (.int .i64 (pickI c n)) ∧ w' = w := by
  by_cases hc : c < 0
  · have e : pickI c n = -(c + 1) % n := by simp [pickI, hc]
    rw [e]
    clear e
    have h2 : 0 ≤ -(c + 1) := by omega
    go_enter Try.func12, Try.ntmps12
    go_wp2
    go_ret
    exact ⟨ret_int (by rw [← Int.neg_tmod, Int.tmod_eq_emod_of_nonneg h2]), rfl⟩
  · have e : pickI c n = c % n := by simp [pickI, hc]
    rw [e]
    clear e
    have h2 : 0 ≤ c := by omega
    go_enter Try.func12, Try.ntmps12
    go_wp2
    go_ret
    exact ⟨rfl, rfl⟩
end Go.Proofs.Ythgdjgbikljbeaa
