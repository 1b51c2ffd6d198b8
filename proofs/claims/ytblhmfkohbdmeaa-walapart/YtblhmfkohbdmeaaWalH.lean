/-
  headingOf.
-/
import Derived.Test.YtblhmfkohbdmeaaWalG
namespace Go.Proofs.Ytblhmfkohbdmeaa
open Go.RowKit Go.Maps

/-- Byte i of the heading of l, of which the first k are in. -/
def hdB (l : List Nat) (k i : Nat) : UInt8 :=
  if i = 0 then UInt8.ofNat l.length else if (i - 1) / 2 < k then (if (i - 1) % 2 = 0 then UInt8.ofNat (l.getD ((i - 1) / 2) 0 / 256) else UInt8.ofNat (l.getD ((i - 1) / 2) 0)) else 0
def hdL (l : List Nat) (k : Nat) : Sec := (List.range 64).map (hdB l k)
theorem hdL_len (l : List Nat) (k : Nat) : (hdL l k).length = 64 := by simp [hdL]

theorem hd_start (l : List Nat) (hl : l.length ≤ 24) : zeroC.set 0 (.int .u8 (l.length : Int)) = bv (hdL l 0) := by
  apply List.ext_getElem
  · simp [zeroC_len, bv_len, hdL_len]
  · intro i h1 h2
    have hi : i < 64 := by simpa [zeroC_len] using h1
    by_cases e : i = 0
    · subst e
      simp [bv, hdL, hdB]
      omega
    · have : ¬ (0 = i) := fun h => e h.symm
      rw [List.getElem_set_ne this]
      simp only [zeroC, bv, zeroS, List.getElem_map, List.getElem_replicate, hdL, List.getElem_range, hdB, if_neg e]
      simp

theorem hd_step (l : List Nat) (k q : Nat) (hq : l.getD k 0 = q) (hq' : q < 8192) :
    ((bv (hdL l k)).toArray.setIfInBounds (1 + 2 * k) (.int .u8 ((q : Int) / 256))).setIfInBounds (2 + 2 * k) (.int .u8 ((q : Int) % 256)) = (bv (hdL l (k + 1))).toArray := by
  apply Array.toList_inj.1
  simp only [Array.toList_setIfInBounds]
  apply List.ext_getElem
  · simp [bv_len, hdL_len]
  · intro i h1 h2
    have hi : i < 64 := by simpa [bv_len, hdL_len] using h1
    simp only [List.getElem_set, bv, hdL, List.getElem_map, List.getElem_range]
    by_cases e2 : 2 + 2 * k = i
    · subst e2
      have a1 : ¬ (2 + 2 * k = 0) := by omega
      have a2 : (2 + 2 * k - 1) / 2 = k := by omega
      have a3 : ¬ ((2 + 2 * k - 1) % 2 = 0) := by omega
      have a4 : k < k + 1 := by omega
      rw [if_pos rfl, hdB, if_neg a1, a2, if_pos a4, if_neg a3, hq]
      congr 1
    · rw [if_neg e2]
      by_cases e1 : 1 + 2 * k = i
      · subst e1
        have a1 : ¬ (1 + 2 * k = 0) := by omega
        have a2 : (1 + 2 * k - 1) / 2 = k := by omega
        have a3 : (1 + 2 * k - 1) % 2 = 0 := by omega
        have a4 : k < k + 1 := by omega
        rw [if_pos rfl, hdB, if_neg a1, a2, if_pos a4, if_pos a3, hq]
        congr 1
        simp
        omega
      · rw [if_neg e1]
        have : hdB l k i = hdB l (k + 1) i := by
          unfold hdB
          by_cases a0 : i = 0
          · simp [a0]
          · have : (i - 1) / 2 < k ↔ (i - 1) / 2 < k + 1 := by omega
            simp only [if_neg a0, this]
        rw [this]

set_option maxRecDepth 20000 in
set_option maxHeartbeats 2000000 in
theorem headingOf_any (ao : Option Addr) (cp : Nat) (l : List Nat) (w : World) (hl : l.length ≤ 24) (hb : ∀ x ∈ l, x < 8192) (hrd : ∀ (i x : Nat), l[i]? = some x → ∃ g, ao = some ⟨g, 0, none⟩ ∧ g < w.heap.size ∧ l.length ≤ cp ∧ w.cell? ⟨g, i, none⟩ = some (.int .i64 (x : Int))) :
    Calls Try.prog 73 #[.slice ao l.length cp] w fun e w' => e = .returned (.agg (bv (hdL l l.length)).toArray) ∧ Below w.heap.size w w' := by
  have hz0 := heap_alloc_last (w.alloc (.cells zeroC.toArray 97)) (.cells zeroC.toArray 97)
  rw [World.size_alloc] at hz0
  have hc0 : ((w.alloc (.cells zeroC.toArray 97)).alloc (.cells zeroC.toArray 97)).cell? ⟨w.heap.size + 1, 0, none⟩ = some (.int .u8 0) := by
    rw [cell_at hz0]
    rfl
  have hf0 := frozen_at hz0 0
  have hl' : (l.length : Int) ≤ 24 := by omega
  go_enter Try.func73, Try.ntmps73
  go_wp2_with (first
    | (with_reducible refine at_alloc 97 rfl ?_; refine wpList_alloc_arr rfl 97 rfl zeroC.toArray Try.zeroW ?_))
  have hC : ((w.alloc (.cells zeroC.toArray 97)).alloc (.cells (zeroC.set 0 (.int .u8 (l.length : Int))).toArray 97)).heap[w.heap.size + 1]? = some (.cells (bv (hdL l 0)).toArray 97) := by
    have := heap_alloc_last (w.alloc (.cells zeroC.toArray 97)) (.cells (zeroC.set 0 (.int .u8 (l.length : Int))).toArray 97)
    rw [World.size_alloc, hd_start l hl] at this
    rw [hd_start l hl]
    exact this
  have hA : ((w.alloc (.cells zeroC.toArray 97)).alloc (.cells (zeroC.set 0 (.int .u8 (l.length : Int))).toArray 97)).heap[w.heap.size]? = some (.cells zeroC.toArray 97) := only_heap (heap_alloc_last w _) (Only.alloc [] _ _) (by simp)
  have hO : Only [] w ((w.alloc (.cells zeroC.toArray 97)).alloc (.cells (zeroC.set 0 (.int .u8 (l.length : Int))).toArray 97)) := (Only.alloc _ _ _).trans (Only.alloc _ _ _)
  clear hz0 hc0 hf0
  go_loopw [12] (fun i wr => ∃ k : Nat, k ≤ l.length ∧ i = .int .i64 (k : Int) ∧ wr.heap[w.heap.size + 1]? = some (.cells (bv (hdL l k)).toArray 97) ∧ wr.heap[w.heap.size]? = some (.cells zeroC.toArray 97) ∧ Only [] w wr)
    (fun i _ => l.length - (intOf i).toNat)
  case atStart => exact ⟨0, Nat.zero_le _, rfl, hC, hA, hO⟩
  case round =>
    obtain ⟨k, hk, rfl, hCk, hAk, hOk⟩ := hrel
    clear hC hA hO
    by_cases hlt : k < l.length
    · have hlt' : (k : Int) < (l.length : Int) := by omega
      obtain ⟨g, rfl, hg, hcp, hc⟩ := hrd k l[k] (by simp [hlt])
      have hq := hb l[k] (List.getElem_mem hlt)
      have hck : wr.cell? ⟨g, k, none⟩ = some (.int .i64 (l[k] : Int)) := (World.cell?_of_block (a := ⟨g, k, none⟩) (hOk.block g hg (by simp))).trans hc
      clear hc hrd
      have hgd : l.getD k 0 = l[k] := by simp [List.getD, hlt]
      have Hgd : Hid (l.getD k 0 = l[k]) := hgd
      clear hgd
      generalize l[k] = q at hck hq Hgd
      have hq' : (q : Int) < 8192 := by omega
      have hk24 : (k : Int) < 24 := by omega
      have hcs : ∀ j, j < 64 → ∃ v, wr.cell? ⟨w.heap.size + 1, j, none⟩ = some v := fun j hj => by
        rw [cell_at hCk]
        exact ⟨_, Array.getElem?_eq_getElem (by simp [bv_len, hdL_len, hj])⟩
      obtain ⟨v1, hv1⟩ := hcs (1 + 2 * k) (by omega)
      obtain ⟨v2, hv2⟩ := hcs (2 + 2 * k) (by omega)
      have hz1 := frozen_at hCk (1 + 2 * k)
      have hz2 := frozen_at hCk (2 + 2 * k)
      have HC : Hid _ := hCk
      have HA : Hid _ := hAk
      clear hcs hCk hAk hb
      have hn := heap_setCell (heap_setCell HC.out (1 + 2 * k) (.int .u8 ((q : Int) / 256))) (2 + 2 * k) (.int .u8 ((q : Int) % 256))
      rw [hd_step l k q Hgd.out hq] at hn
      have HN : Hid _ := hn
      have hO2 : Only [w.heap.size + 1] wr ((wr.setCell ⟨w.heap.size + 1, 1 + 2 * k, none⟩ (.int .u8 ((q : Int) / 256))).setCell ⟨w.heap.size + 1, 2 + 2 * k, none⟩ (.int .u8 ((q : Int) % 256))) := (Only.setCell (p := ⟨w.heap.size + 1, 1 + 2 * k, none⟩) _ (by simp) _).trans (Only.setCell (p := ⟨w.heap.size + 1, 2 + 2 * k, none⟩) _ (by simp) _)
      have HA2 : Hid _ := only_heap HA.out hO2 (by simp)
      have HO3 : Only [] w ((wr.setCell ⟨w.heap.size + 1, 1 + 2 * k, none⟩ (.int .u8 ((q : Int) / 256))).setCell ⟨w.heap.size + 1, 2 + 2 * k, none⟩ (.int .u8 ((q : Int) % 256))) :=
        ⟨hOk.os, hOk.tape, hOk.output, Nat.le_trans hOk.size hO2.size, fun j hj _ => (hO2.block j (Nat.lt_of_lt_of_le hj hOk.size) (by simp; omega)).trans (hOk.block j hj (by simp))⟩
      clear hn hO2 HC HA
      go_wp2_with fail
      go_roundw
      case rel => exact ⟨k + 1, by omega, by go_num, HN.out, HA2.out, HO3⟩
      case measure => simp [intOf]; omega
    · obtain rfl : k = l.length := by omega
      have hlt' : ¬ (l.length : Int) < (l.length : Int) := by omega
      have hsz : (bv (hdL l l.length)).length = 64 := by rw [bv_len, hdL_len]
      have HC : Hid _ := hCk
      have HA : Hid _ := hAk
      clear hCk hAk hb hrd
      generalize Ht : hdL l l.length = t at *
      have HT : Hid (hdL l l.length = t) := Ht
      clear Ht
      go_wp2_with (first
        | (with_reducible refine at_load 97 _ rfl ?_; refine wpList_load_row rfl 97 _ rfl (w.heap.size + 1) 97 _ _ _ HC.out rfl Try.underlying97 rfl (by simpa [hsz] using Try.sizeW) ?_)
        | (with_reducible refine at_store 97 _ _ rfl ?_; refine wpList_store_row rfl 97 _ _ rfl w.heap.size (bv t).toArray rfl rfl 97 _ HA.out (by simpa [hsz] using Try.sizeW) (by simp [zeroC_len, hsz]) (bv_one t) ?_))
      have hfin := setRow_heap _ _ _ (bv t).toArray _ _ HA.out
      have hB : Below w.heap.size w (wr.setRow w.heap.size (bv t).toArray) := (hOk.below (Nat.le_refl _) (by simp)).trans ((Only.setRow (S := [w.heap.size]) wr (by simp) _).below hOk.size (by simp))
      refine bodyPost_ret (results_cell_row rfl _ _ w.heap.size 97 (bv t).toArray (0, 0) _ rfl hfin Try.underlying97 rfl (by simpa [hsz] using Try.sizeW)) rfl ?_
      exact ⟨by rw [HT.out], hB⟩
end Go.Proofs.Ytblhmfkohbdmeaa
