/-
  slices.Repeat of one operation.
-/
import Derived.Test.YtgabanndjiegdabOtB
namespace Go.Proofs.Ytgabanndjiegdab
open Go.ChangeShapes Go.WideShapes Go.ChangeAt Go.RowKit Go.PlainAid

set_option maxRecDepth 20000 in
set_option maxHeartbeats 1000000 in
theorem mul_one' (N : Nat) (w : World) (hN : N ≤ 1000000) :
    Calls Try.prog 68 #[.int .u64 1, .int .u64 (N : Int)] w fun e w' => e = .returned (.tuple #[.int .u64 0, .int .u64 (N : Int)]) ∧ w = w' := by
  have hC := mul64_one N w hN
  go_enter Try.func68, Try.ntmps68
  go_wp2_with (go_at_call 70; refine hC.mono ?_; rintro e w1 ⟨rfl, rfl⟩)
  go_ret2
  exact ⟨rfl, rfl⟩

theorem make_op (n : Nat) (hn : n ≤ 1000000) : ∃ Z : Array Value, Z.size = n * 3 ∧ ∀ W : World, (Instr.makeSlice 22 (.int .i64 (n : Int)) (.int .i64 (n : Int))).run Try.prog W = .ok (.slice (some ⟨W.heap.size, 0, none⟩) n n) (W.alloc (.cells Z 35)) := by
  obtain ⟨i0, hi, hz0, hz1, hz2⟩ := info_parts Try.infoOp
  refine ⟨madeCells (Value.agg #[.int .i64 0, .int .i64 0, .string ⟨#[]⟩]).cells (n * i0.size), ?_, fun W => ?_⟩
  rotate_left
  · have h := run_make (P := Try.prog) W 22 35 i0 _ Try.underlying22 hi hz0 .i64 .i64 (n : Int) (n : Int) (by omega) (by omega) (by rw [hz2]; omega) (by omega)
    simpa using h
  · simp [size_madeCells, hz1]

theorem sizeOp (W : World) : (sizeOf 35).run Try.prog W = .ok 3 W := by
  obtain ⟨i0, hi, hz0, hz1, hz2⟩ := info_parts Try.infoOp
  simp [sizeOf, typeInfo, hi, hz1]
theorem addr3 (b o j : Nat) : (⟨b, o, none⟩ : Addr).add j = ⟨b, o + j, none⟩ := by unfold Addr.add; split <;> simp_all
set_option maxRecDepth 20000 in
theorem sliceO_head (b o len cp n : Nat) (hn : n ≤ len) (hc : len ≤ cp) (h0 : 0 < n) (W : World) :
    (Instr.slice 22 (.slice (some ⟨b, o, none⟩) len cp) none (some (.int .i64 (n : Int))) none).run Try.prog W = .ok (.slice (some ⟨b, o, none⟩) n cp) W := by
  rw [run_slice_h (P := Try.prog) W 22 (some ⟨b, o, none⟩) len cp Try.underlying22 .i64 (n : Int) (by omega) (by omega)]
  have e : Try.prog.elem 22 = 35 := by kernel_rfl
  rw [e, sizeOp]
  simp only [Result.andThen, sliced, Int.toNat_natCast, Option.map_some, Nat.zero_mul, addr3]
  rw [if_neg (by omega)]
  simp
set_option maxRecDepth 20000 in
theorem sliceO_tail (b o len cp n : Nat) (hn : n ≤ len) (h0 : n < cp) (W : World) :
    (Instr.slice 22 (.slice (some ⟨b, o, none⟩) len cp) (some (.int .i64 (n : Int))) none none).run Try.prog W = .ok (.slice (some ⟨b, o + n * 3, none⟩) (len - n) (cp - n)) W := by
  rw [run_slice_l (P := Try.prog) W 22 (some ⟨b, o, none⟩) len cp Try.underlying22 .i64 (n : Int) (by omega) (by omega)]
  have e : Try.prog.elem 22 = 35 := by kernel_rfl
  rw [e, sizeOp]
  simp only [Result.andThen, sliced, Int.toNat_natCast, Option.map_some, addr3]
  rw [if_neg (by omega)]

theorem ocs_rep_take (o : OpD) (k n : Nat) (h : n ≤ k) : (ocs (List.replicate k o)).take (n * 3) = ocs (List.replicate n o) := by
  have e : List.replicate k o = List.replicate n o ++ List.replicate (k - n) o := by rw [List.replicate_append_replicate]; congr 1; omega
  rw [e, ocs_append, List.take_left' (by rw [ocs_length, List.length_replicate])]
theorem ocs_cell (l : List OpD) : ∀ v ∈ ocs l, v.oneCell' = true := by
  intro v hv
  simp only [ocs, List.mem_flatten, List.mem_map] at hv
  obtain ⟨x, ⟨o, _, rfl⟩, hx⟩ := hv
  simp only [List.mem_cons, List.not_mem_nil, or_false] at hx
  rcases hx with rfl | rfl | rfl <;> rfl

/-- So much of the row has been written. -/
structure Rep (w W : World) (o : OpD) (N k : Nat) (cur : Array Value) : Prop where
  blk : W.heap[w.heap.size]? = some (.cells cur 35 (0, 0))
  siz : cur.size = N * 3
  one : 0 < k
  le : k ≤ N
  cts : cur.toList.take (k * 3) = ocs (List.replicate k o)
  bel : Below w.heap.size w W

theorem Rep.step {w W : World} {o : OpD} {N k n : Nat} {cur : Array Value} (h : Rep w W o N k cur) (hn : n ≤ N - k) :
    Rep w (W.setRow w.heap.size (cur.toList.take (k * 3) ++ ocs (List.replicate n o) ++ cur.toList.drop (k * 3 + (ocs (List.replicate n o)).length)).toArray) o N (k + n) (cur.toList.take (k * 3) ++ ocs (List.replicate n o) ++ cur.toList.drop (k * 3 + (ocs (List.replicate n o)).length)).toArray := by
  have hl := ocs_length (List.replicate n o)
  rw [List.length_replicate] at hl
  have hs := h.siz
  have hle := h.le
  have ho := h.one
  refine ⟨setRow_heap _ _ cur _ 35 (0, 0) h.blk, ?_, by omega, by omega, ?_, h.bel.trans ⟨rfl, rfl, rfl, by simp, fun k hk => setRow_other _ _ _ _ (by omega)⟩⟩
  · simp only [List.size_toArray, List.length_append, List.length_take, List.length_drop, Array.length_toList, hl]
    omega
  · have hr : ocs (List.replicate (k + n) o) = ocs (List.replicate k o) ++ ocs (List.replicate n o) := by rw [← ocs_append, List.replicate_append_replicate]
    have hk := ocs_length (List.replicate k o)
    rw [List.length_replicate] at hk
    rw [hr, h.cts]
    refine List.take_left' ?_
    rw [List.length_append, hk, hl]
    omega
theorem Rep.src {w W : World} {o : OpD} {N k n : Nat} {cur : Array Value} (h : Rep w W o N k cur) (hn : n ≤ k) (j : Nat) (v : Value) (hv : (ocs (List.replicate n o))[j]? = some v) : W.cell? ((⟨w.heap.size, 0, none⟩ : Addr).add j) = some v := by
  rw [← ocs_rep_take o k n hn, ← h.cts, List.take_take] at hv
  have hj : j < Nat.min (n * 3) (k * 3) := by
    rcases Nat.lt_or_ge j (Nat.min (n * 3) (k * 3)) with h1 | h1
    · exact h1
    · rw [List.getElem?_eq_none (by rw [List.length_take]; exact Nat.le_trans (Nat.min_le_left _ _) h1)] at hv; cases hv
  rw [List.getElem?_take_of_lt hj] at hv
  rw [addr3, Nat.zero_add]
  have hv' : cur[j]? = some v := by rw [← Array.getElem?_toList]; exact hv
  unfold World.cell?
  simp [h.blk, hv']

set_option maxRecDepth 20000 in
set_option maxHeartbeats 1500000 in
theorem repeat_any (a : Addr) (c : Nat) (o : OpD) (N : Nat) (w : World) (h0 : 0 < N) (hN : N ≤ 1000000) (hsrc : ∀ j v, (ocs [o])[j]? = some v → w.cell? (a.add j) = some v) (hla : a.block < w.heap.size) :
    Calls Try.prog 63 #[.slice (some a) 1 c, .int .i64 (N : Int)] w fun e w' => ∃ u, e = .returned u ∧ w'.ownsRow w.heap.size 35 3 u N (ocs (List.replicate N o)) ∧ Below w.heap.size w w' := by
  have hC := mul_one' N w hN
  obtain ⟨Z, hZ, hmk⟩ := make_op N hN
  have hbZ : Below w.heap.size w (w.alloc (.cells Z 35)) := (Below.refl _ w).alloc (Nat.le_refl _) _
  have hmin : Nat.min 1 N = 1 := Nat.min_eq_left (by omega)
  have hcp := copy3 (w.alloc (.cells Z 35)) 3 w.heap.size 0 N N a 1 c Z (ocs [o]) (heap_alloc_new w _) (by rw [ocs_length, hmin]; rfl) (fun j v hv => by
      have h1 := hsrc j v hv
      unfold World.cell? at h1 ⊢
      have e : (a.add j).block = a.block := by unfold Addr.add; split <;> rfl
      rw [e] at h1 ⊢
      rw [Below.heap_alloc w _ a.block hla]
      exact h1) (by rw [ocs_length, hZ]; simp; omega) (ocs_cell _)
  rw [hmin] at hcp
  have hrep : Rep w ((w.alloc (.cells Z 35)).setRow w.heap.size (Z.toList.take 0 ++ ocs [o] ++ Z.toList.drop (0 + (ocs [o]).length)).toArray) o N 1 (Z.toList.take 0 ++ ocs [o] ++ Z.toList.drop (0 + (ocs [o]).length)).toArray := by
    refine ⟨setRow_heap _ _ Z _ 35 (0, 0) (heap_alloc_new w _), ?_, by omega, by omega, ?_, hbZ.trans ⟨rfl, rfl, rfl, by simp, fun k hk => setRow_other _ _ _ _ (by omega)⟩⟩
    · simp only [List.size_toArray, List.length_append, List.length_take, List.length_drop, Array.length_toList, ocs_length, List.length_cons, List.length_nil]
      omega
    · simp [ocs]
  generalize ((w.alloc (.cells Z 35)).setRow w.heap.size (Z.toList.take 0 ++ ocs [o] ++ Z.toList.drop (0 + (ocs [o]).length)).toArray) = W1 at hcp hrep
  generalize (Z.toList.take 0 ++ ocs [o] ++ Z.toList.drop (0 + (ocs [o]).length)).toArray = Y at hrep
  go_enter Try.func63, Try.ntmps63
  go_wp2_with (go_at_call 68; refine hC.mono ?_; rintro e w1 ⟨rfl, rfl⟩)
  clear hC hcp hmk hbZ hsrc
  go_loopw [8] (fun b wr => ∃ (k : Nat) (cur : Array Value), b = .int .i64 (k : Int) ∧ Rep w wr o N k cur) (fun b _ => N - (intOf b).toNat)
  case atStart => exact ⟨1, _, rfl, hrep⟩
  case round =>
    obtain ⟨k, cur, rfl, hr⟩ := hrel
    have hle := hr.le
    have hone := hr.one
    by_cases c : k < N
    · have c' : (k : Int) < (N : Int) := by omega
      go_wp2_with fail
      have hs1 := sliceO_tail w.heap.size 0 N N k hle c
      have hs2 := sliceO_head w.heap.size 0 N N k hle (Nat.le_refl _) hone
      have hmn : Nat.min k (N - k) ≤ k := Nat.min_le_left _ _
      have hmm : Nat.min k (N - k) ≤ N - k := Nat.min_le_right _ _
      have hm0 : 0 < Nat.min k (N - k) := Nat.lt_min.mpr ⟨hone, by omega⟩
      obtain ⟨n, hn⟩ : ∃ n, n = Nat.min k (N - k) := ⟨_, rfl⟩
      rw [← hn] at hmn hmm hm0
      have hcp := copy3 wr.drew 3 w.heap.size (k * 3) (N - k) (N - k) ⟨w.heap.size, 0, none⟩ k N cur (ocs (List.replicate n o)) hr.blk (by rw [ocs_length, List.length_replicate, hn]) (fun j v hv => hr.src hmn j v hv) (by rw [ocs_length, List.length_replicate, hr.siz]; omega) (ocs_cell _)
      rw [← hn] at hcp
      simp only [Nat.zero_add] at hs1
      have hst := Rep.step (W := wr.drew) ⟨hr.blk, hr.siz, hr.one, hr.le, hr.cts, hr.bel.drew⟩ hmm
      generalize wr.drew.setRow w.heap.size (cur.toList.take (k * 3) ++ ocs (List.replicate n o) ++ cur.toList.drop (k * 3 + (ocs (List.replicate n o)).length)).toArray = W2 at *
      clear hn
      go_region
      clear hcp hs1 hs2
      go_wp2_with fail
      refine ⟨⟨k + n, _, ?_, hst⟩, ?_⟩
      · rw [show (((k + n : Nat) : Int)) = (k : Int) + (n : Int) by omega]
      · simp only [intOf]; omega
    · have c' : ¬ ((k : Int) < (N : Int)) := by omega
      go_wp2_with fail
      have e : k = N := by omega
      subst e
      go_ret
      refine ⟨_, rfl, ⟨by rw [ocs_length, List.length_replicate], .inr ⟨w.heap.size, k, cur, rfl, Nat.le_refl _, hr.blk, Nat.le_refl _, by unfold maxLen; omega, hr.siz, hr.cts⟩⟩, hr.bel⟩
end Go.Proofs.Ytgabanndjiegdab
