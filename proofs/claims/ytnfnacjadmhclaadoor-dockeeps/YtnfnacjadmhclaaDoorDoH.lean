/-
  The contracts of behind and split.
-/
import Derived.Test.YtnfnacjadmhclaaDoorDoG
namespace Go.Proofs.YtnfnacjadmhclaaDoor
open Go.WideShapes Go.RowKit Go.ChangeShapes Go.ChangeAt Go.PlainAid

theorem it_below {w wr : World} {s : ByteArray} {x : Nat} (h : Below w.heap.size w wr) : Below w.heap.size w (wr.iterAt w.heap.size s x) :=
  h.trans ⟨rfl, rfl, rfl, by simp [World.iterAt], fun j hj => Lib.iterAt_other _ _ _ _ _ (by omega)⟩

set_option maxRecDepth 20000 in
set_option maxHeartbeats 1000000 in
theorem behind_any (s : ByteArray) (m : Nat) (w : World) (h0 : 0 ≤ cpl s) (hm : m ≤ 1125899906842624) :
    Calls Tryd.prog 75 #[.string s, .int .i64 (m : Int)] w fun e w' => e = .returned (.int .i64 ((pos s (min m (cpl s).toNat) : Nat) : Int)) ∧ Below w.heap.size w w' := by
  have hv := cpl_valid h0
  generalize (cpl s).toNat = n at *
  have hnp := pos_le hv.1 n (Nat.le_refl _)
  clear h0
  have hI : (w.iter s 0).heap[w.heap.size]? = some (.stringIter s (pos s 0)) := World.iter_heap w s 0
  have hB0 : Below w.heap.size w (w.iter s 0) := (Below.refl _ w).alloc (Nat.le_refl _) _
  go_enter Tryd.func75, Tryd.ntmps75
  go_wp2_with fail
  go_loopw [1] (fun i wr => ∃ k : Nat, k ≤ n ∧ k ≤ m ∧ i = .int .i64 ((m : Int) - (k : Int)) ∧ wr.heap[w.heap.size]? = some (.stringIter s (pos s k)) ∧ Below w.heap.size w wr) (fun i _ => (intOf i).toNat)
  case atStart => exact ⟨0, Nat.zero_le _, Nat.zero_le _, by simp, hI, hB0⟩
  case round =>
    obtain ⟨k, hk, hkm, rfl, hit, hbl⟩ := hrel
    clear hI hB0
    by_cases hlt : k < n
    · have h1 := (hv.1 k hlt).1
      have hd := dec_pos hv hlt
      have hnx : ∀ ty, (Instr.next (.pointer (some ⟨w.heap.size, 0, none⟩)) true ty).run Tryd.prog wr = _ := fun ty => Lib.run_next_any_at wr w.heap.size s (pos s k) ty hit h1
      rw [hd.2.1, hd.1] at hnx
      by_cases hkm' : k = m
      · subst hkm'
        have hz : ((k : Int) - (k : Int) == 0) = true := by simp
        have hB2 := it_below hbl (x := pos s (k + 1)) (s := s)
        have hE : Hid (pos s (min k n) = pos s k) := by show _ = _; rw [Nat.min_eq_left hk]
        generalize hW : wr.iterAt w.heap.size s (pos s (k + 1)) = W1 at *
        clear hd h1 hit hW hv
        go_wp2_with fail
        go_ret
        rw [hE.out]
        exact ⟨rfl, hB2⟩
      · have hz : ((m : Int) - (k : Int) == 0) = false := by simp; omega
        have hB2 := it_below hbl (x := pos s (k + 1)) (s := s)
        have hit2 : (wr.iterAt w.heap.size s (pos s (k + 1))).heap[w.heap.size]? = some (.stringIter s (pos s (k + 1))) := Lib.iterAt_heap _ _ _ _ _ hit
        generalize hW : wr.iterAt w.heap.size s (pos s (k + 1)) = W1 at *
        clear hd h1 hit hW hv
        go_wp2_with fail
        refine ⟨⟨k + 1, by omega, by omega, by congr 1; omega, hit2, hB2⟩, ?_⟩
        simp [intOf]
        omega
    · obtain rfl : k = n := by omega
      have hne : ¬ pos s k < s.size := by rw [hv.2]; omega
      have hnx : ∀ ty, (Instr.next (.pointer (some ⟨w.heap.size, 0, none⟩)) true ty).run Tryd.prog wr = _ := fun ty => Lib.run_next_end_at wr w.heap.size s (pos s k) ty hit hne
      have hE : Hid (pos s (min m k) = s.size) := by show _ = _; rw [Nat.min_eq_right hkm, hv.2]
      clear hv hnp hit hne
      go_wp2_with fail
      go_ret
      rw [hE.out]
      exact ⟨rfl, hbl⟩
end Go.Proofs.YtnfnacjadmhclaaDoor
