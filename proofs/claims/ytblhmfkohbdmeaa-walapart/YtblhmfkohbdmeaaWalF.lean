/-
  rising.
-/
import Derived.Test.YtblhmfkohbdmeaaLayW
import Derived.Test.YtblhmfkohbdmeaaWalE
namespace Go.Proofs.Ytblhmfkohbdmeaa
open Go.RowKit Go.Maps Go.Sort Go.Shelf

set_option maxHeartbeats 1000000 in
theorem rising_any {w : World} {bw N : Nat} {f : SecF} (hown : w.ownsMap Try.prog 3 secR bw N (DF N f)) (hN : N ≤ 8192) :
    Calls Try.prog 70 #[.map (some bw)] w fun e w' => ∃ v, e = .returned v ∧ w'.ownsRow w.heap.size 3 1 v (keysF N f).length (iv (keysF N f)) ∧ (v = .slice none 0 0 ↔ (keysF N f) = []) ∧ Below w.heap.size w w' := by
  have hs0 := size_DF N f
  have hmax : Maps.size (DF N f) ≤ maxLen := by unfold maxLen; omega
  have hbytes : Maps.size (DF N f) * 8 ≤ 140737488355328 := by omega
  clear hN hs0
  refine (callsIn_wide (n := 6)).1 ?_
  have hbl := hown.lt
  have hseq : SeqGives Fence.wide 2 Try.prog 93 #[.pointer (some ⟨w.heap.size, 0, none⟩)] encZ (fun ss => ss.Perm (intKeys (DF N f))) (Maps.size (DF N f)) (w.alloc (.cells #[.map (some bw)] 91)) :=
    AnyZI.keys_gives (ρ := Try.keysW_ren) { Try.keysW with } Fence.wide _ trivial rfl (by omega) w.heap.size bw N (DF N f) _ (by simp) (by simp) (by
      obtain ⟨es, clock, hb, Ft, hs, hD⟩ := hown
      exact ⟨es, clock, (Below.heap_alloc _ _ bw hbl).trans hb, Ft, hs, hD⟩)
  have cK : ∀ mb W, CallsIn Fence.wide 5 Try.prog 81 #[.map mb] W fun e w' => e = .returned (.func (.func 93) #[] #[.pointer (some ⟨W.heap.size, 0, none⟩)]) ∧ w' = W.alloc (.cells #[.map mb] 91) := fun mb W => AnyZI.keys_in Try.keysW Fence.wide 5 trivial rfl mb W
  have cS := AnyZI.sorted_in Try.sortedA Fence.wide 5 trivial trivial trivial trivial rfl (by omega) (sortsA _) (enters_of Try.func60 (by kernel_rfl) rfl) 93 #[.pointer (some ⟨w.heap.size, 0, none⟩)] trivial (enters_of Try.func93 (by kernel_rfl) rfl) _ _ hmax hbytes _ hseq
  change CallsIn _ _ Try.prog 40 _ _ _ at cS
  have hfK : Fence.wide.fn 81 := trivial
  have hfS : Fence.wide.fn 40 := trivial
  clear hseq hmax hbytes
  refine callsIn_of_wp Try.func70 rfl trivial ?_ rfl
  simp only [Try.ntmps70, List.size_toArray, List.length_cons, List.length_nil, Nat.reduceAdd, Nat.reduceSub, Array.replicate_succ, Array.replicate_zero, List.push_toArray, List.append_toArray, List.nil_append, List.cons_append]
  gi_wp2_with (first
    | (gi_at_call 81; refine (cK _ _).mono ?_; rintro e w' ⟨rfl, rfl⟩)
    | (gi_at_call 40; refine cS.mono ?_; rintro e w' ⟨v, ss, rfl, hS, hrow, hnil, hb⟩))
  go_ret
  have hlen : ss.length = (keysF N f).length := by
    have := hS.length_eq
    rw [intKeys_DF, List.length_map] at this
    exact this
  have hsort := sorted_keys hS
  have hrow' := ownsRow_base_a (base' := w.heap.size) hrow (by simp)
  refine ⟨v, rfl, ?_, ?_, ((Below.refl _ w).alloc (Nat.le_refl _) _).trans (hb.mono (by simp))⟩
  · have e : (ss.mergeSort fun x y => decide (x ≤ y)).map encZ = iv (keysF N f) := by
      show (ss.mergeSort leI).map encZ = _
      rw [hsort]
      simp [iv, encZ]
    rw [e, hlen] at hrow'
    exact hrow'
  · rw [hnil]
    constructor
    · rintro rfl
      exact List.eq_nil_of_length_eq_zero (by rw [← hlen]; rfl)
    · intro hk
      exact List.eq_nil_of_length_eq_zero (by rw [hlen, hk]; rfl)
end Go.Proofs.Ytblhmfkohbdmeaa
