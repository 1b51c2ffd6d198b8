/-
  The contract of All.
-/
import Derived.Test.YtdkhfehoohiflaaNtJ
namespace Go.Proofs.Ytdkhfehoohiflaa.nt
open Go.Maps Go.WideShapes Go.RowKit Go.ChangeShapes Go.ChangeAt Go.PlainAid

theorem make_lt (n : Nat) (hn : n ≤ 3000) : ∃ Z : Array Value, Z.size = n * 2 ∧ ∀ W : World, (Instr.makeSlice 31 (.int .i64 (n : Int)) (.int .i64 (n : Int))).run Try.prog W = .ok (.slice (some ⟨W.heap.size, 0, none⟩) n n) (W.alloc (.cells Z 37)) := by
  obtain ⟨i0, hi, hz0, hz1, hz2⟩ := info_parts Try.infoLt
  refine ⟨madeCells (Value.agg #[.int .i64 0, .string ⟨#[]⟩]).cells (n * i0.size), ?_, fun W => ?_⟩
  rotate_left
  · have h := run_make (P := Try.prog) W 31 37 i0 _ Try.underlying31 hi hz0 .i64 .i64 (n : Int) (n : Int) (by omega) (by omega) (by rw [hz2]; omega) (by omega)
    simpa using h
  · simp [size_madeCells, hz1]
/-- The first k letters of L lie in the cells. -/
def Filled (C : Array Value) (L : List LtD) (k : Nat) : Prop := ∀ j x, j < k → L[j]? = some x → C[j * 2]? = some (.int .i64 x.to) ∧ C[j * 2 + 1]? = some (.string x.t)
theorem Filled.put {C : Array Value} {L : List LtD} {k : Nat} {x : LtD} (h : Filled C L k) (hx : L[k]? = some x) (hs : k * 2 + 2 ≤ C.size) : Filled ((C.setIfInBounds (k * 2) (.int .i64 x.to)).setIfInBounds (k * 2 + 1) (.string x.t)) L (k + 1) := by
  intro j y hj hy
  by_cases e : j = k
  · subst e
    rw [hx] at hy
    cases hy
    constructor
    · rw [Array.getElem?_setIfInBounds_ne (by omega), Array.getElem?_setIfInBounds_self_of_lt (by omega)]
    · rw [Array.getElem?_setIfInBounds_self_of_lt (by simp; omega)]
  · obtain ⟨h1, h2⟩ := h j y (by omega) hy
    exact ⟨by rw [Array.getElem?_setIfInBounds_ne (by omega), Array.getElem?_setIfInBounds_ne (by omega)]; exact h1, by rw [Array.getElem?_setIfInBounds_ne (by omega), Array.getElem?_setIfInBounds_ne (by omega)]; exact h2⟩
theorem Filled.all {C : Array Value} {L : List LtD} (h : Filled C L L.length) (hs : C.size = L.length * 2) : C.toList.take (L.length * 2) = lcs L := by
  rw [List.take_of_length_le (by rw [Array.length_toList]; omega)]
  apply List.ext_getElem?
  intro i
  rw [Array.getElem?_toList]
  by_cases hi : i < L.length * 2
  · have hj : i / 2 < L.length := by omega
    have hx : L[i / 2]? = some L[i / 2] := by simp [hj]
    obtain ⟨h1, h2⟩ := h (i / 2) L[i / 2] hj hx
    obtain ⟨g1, g2⟩ := lcs_at L (i / 2) L[i / 2] hx
    rcases Nat.mod_two_eq_zero_or_one i with e | e
    · rw [show i / 2 * 2 = i by omega] at h1 g1
      rw [h1, g1]
    · rw [show i / 2 * 2 + 1 = i by omega] at h2 g2
      rw [h2, g2]
  · rw [Array.getElem?_eq_none (by omega), List.getElem?_eq_none (by rw [lcs_length]; omega)]

theorem row_facts {W : World} {g n k : Nat} {C : Array Value} (h : W.heap[g]? = some (.cells C 37 (0, 0))) (hs : C.size = n * 2) (hk : k < n) :
    (∃ v, W.cell? ⟨g, k * 2, none⟩ = some v) ∧ (∃ v, W.cell? ⟨g, k * 2 + 1, none⟩ = some v) ∧ W.frozen? ⟨g, k * 2, none⟩ = false ∧ W.frozen? ⟨g, k * 2 + 1, none⟩ = false := by
  have h1 := cell_of_row W g (k * 2) C 37 (0, 0) h
  have h2 := cell_of_row W g (k * 2 + 1) C 37 (0, 0) h
  refine ⟨⟨C[k * 2]'(by omega), by rw [h1]; simp [show k * 2 < C.size by omega]⟩, ⟨C[k * 2 + 1]'(by omega), by rw [h2]; simp [show k * 2 + 1 < C.size by omega]⟩, by simp [World.frozen?, h], by simp [World.frozen?, h]⟩

set_option maxRecDepth 20000 in
set_option maxHeartbeats 1000000 in
theorem all_any (N : NtS) (w : World) (h : IsNet w N) :
    Calls Try.prog 11 #[.pointer (some ⟨N.p, 0, none⟩)] w fun e w' => ∃ u, e = .returned u ∧ w'.ownsRow w.heap.size 37 2 u N.L.length (lcs N.L) ∧ Below w.heap.size w w' := by
  have hlen : N.L.length ≤ 3000 := by have := h.len; have := h.rm; omega
  obtain ⟨Z, hZ, hmk⟩ := make_lt N.L.length hlen
  have hnew : (w.alloc (.cells Z 37)).heap[w.heap.size]? = some (.cells Z 37 (0, 0)) := heap_alloc_new w _
  have hb : Below w.heap.size w (w.alloc (.cells Z 37)) := (Below.refl _ w).alloc (Nat.le_refl _) _
  obtain ⟨-, c1, -, -⟩ := h.cells
  obtain ⟨-, c2, -, -⟩ := (h.below hb).cells
  obtain ⟨ao, cp, hu⟩ := own_form h.row
  have hrd := fun k x hx => rdl_cells hu (rdl_own h.row) (k := k) (x := x) hx
  rw [hu] at c1 c2
  have hok := h.ok
  clear hu
  go_enter Try.func11, Try.ntmps11
  go_wp2_with fail
  generalize w.alloc (.cells Z 37) = w1 at *
  go_loopw [17] (fun i wr => ∃ (k : Nat) (C : Array Value), k ≤ N.L.length ∧ i = .int .i64 (k : Int) ∧ wr.heap[w.heap.size]? = some (.cells C 37 (0, 0)) ∧ C.size = N.L.length * 2 ∧ Filled C N.L k ∧ Below w.heap.size w wr) (fun i _ => N.L.length - (Go.RowKit.intOf i).toNat)
  case atStart => exact ⟨0, Z, Nat.zero_le _, rfl, hnew, hZ, fun j x hj => by omega, hb⟩
  case round =>
    obtain ⟨k, C, hk, rfl, hC, hCs, hF, hB⟩ := hrel
    clear hnew hb c1 c2 hmk hZ
    by_cases hlt : k < N.L.length
    · have hlt' : (k : Int) < (N.L.length : Int) := by omega
      have hx : N.L[k]? = some N.L[k] := by simp [hlt]
      obtain ⟨b, off, rfl, hbw, d0, d1⟩ := hrd k _ hx
      replace d0 := hB.cell (p := ⟨b, off + k * 2, none⟩) hbw |>.trans d0
      replace d1 := hB.cell (p := ⟨b, off + k * 2 + 1, none⟩) hbw |>.trans d1
      have hSm := hok N.L[k] (by simp)
      have hF2 := hF.put hx (by omega)
      have hcp := fun W => copyOf_any N.L[k] W (by have := hSm.2; omega)
      have hb2 := (Below.refl wr.heap.size wr).alloc (Nat.le_refl _) (.cells #[.int .i64 N.L[k].to, .string N.L[k].t] 37)
      obtain ⟨y0, y1, -, -⟩ := (lb_new wr N.L[k]).facts
      unfold LtD.v at hcp
      generalize N.L[k] = x at *
      clear hrd hF hok hx
      go_wp2_with (go_at_call 27; refine (hcp _).mono ?_; rintro e w3 ⟨rfl, hb3⟩; have hb4 := chain hb2 hb3; have hC3 := (hb4.block w.heap.size (heap_lt hC)).trans hC; have hs3 := hb4.size; obtain ⟨⟨v0, z0⟩, ⟨v1, z1⟩, z2, z3⟩ := row_facts hC3 hCs hlt)
      exact ⟨⟨k + 1, _, by omega, by go_num, heap_setCell (heap_setCell hC3 (k * 2) _) (k * 2 + 1) _, by simp [hCs], hF2, below_set (below_set (chain hB hb4) (Nat.le_refl _)) (Nat.le_refl _)⟩, by simp [Go.RowKit.intOf]; omega⟩
    · obtain rfl : k = N.L.length := by omega
      clear hrd hok
      go_wp2_with fail
      go_ret
      exact ⟨_, rfl, ⟨by rw [lcs_length], .inr ⟨w.heap.size, N.L.length, C, rfl, Nat.le_refl _, hC, Nat.le_refl _, by unfold maxLen; omega, hCs, hF.all hCs⟩⟩, hB⟩
end Go.Proofs.Ytdkhfehoohiflaa.nt
