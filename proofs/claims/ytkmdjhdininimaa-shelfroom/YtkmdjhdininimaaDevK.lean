/-
  Contracts: Waiting, Copy, New.
-/
import Derived.Test.YtkmdjhdininimaaLay
import Derived.Test.YtkmdjhdininimaaDevS
namespace Go.Proofs.Ytkmdjhdininimaa
open Go.RowKit Go.Maps Go.Sort Go.Shelf

theorem sortsA (m : Nat) : AnyZI.SortsIn Try.prog Try.sortedA_ren Fence.wide m :=
  ⟨fun blk off cap ss W hH hblk hsz => callsIn_wide.2 (AnyM.slices_Sort_int Try.sortA blk off cap ss W hH hblk hsz),
   fun p cap W => callsIn_wide.2 (AnyM.slices_Sort_int_none Try.sortA p cap W)⟩

/-- Numbers as cells. -/
def iv (l : List Nat) : List Value := l.map fun i : Nat => .int .i64 (i : Int)

theorem iv_len (l : List Nat) : (iv l).length = l.length := by simp [iv]

/-- The sectors for which something waits. -/
def DevS.keys (s : DevS) : List Nat := keysF s.n s.waits

set_option maxHeartbeats 1000000 in
theorem waiting_any {w : World} {p bs bw : Nat} {s : DevS} (h : IsDev w p bs bw s) :
    Calls Try.prog 16 #[.pointer (some ⟨p, 0, none⟩)] w fun e w' => ∃ v, e = .returned v ∧ w'.ownsRow w.heap.size 3 1 v s.keys.length (iv s.keys) ∧ (v = .slice none 0 0 ↔ s.keys = []) ∧ Below w.heap.size w w' := by
  have hN := h.hi
  have hs0 := size_DF s.n s.waits
  have hmax : Maps.size (DF s.n s.waits) ≤ maxLen := by unfold maxLen; omega
  have hbytes : Maps.size (DF s.n s.waits) * 8 ≤ 140737488355328 := by omega
  have hown := h.waits
  have hc2 := h.c2
  clear h hN hs0
  refine (callsIn_wide (n := 6)).1 ?_
  have hbl := hown.lt
  have hseq : SeqGives Fence.wide 2 Try.prog 57 #[.pointer (some ⟨w.heap.size, 0, none⟩)] encZ (fun ss => ss.Perm (intKeys (DF s.n s.waits))) (Maps.size (DF s.n s.waits)) (w.alloc (.cells #[.map (some bw)] 58)) :=
    AnyZI.keys_gives (ρ := Try.keysA_ren) { Try.keysA with } Fence.wide _ trivial rfl (by omega) w.heap.size bw s.n (DF s.n s.waits) _ (by simp) (by simp) (by
      obtain ⟨es, clock, hb, Ft, hs, hD⟩ := hown
      exact ⟨es, clock, (Below.heap_alloc _ _ bw hbl).trans hb, Ft, hs, hD⟩)
  have cK : ∀ mb W, CallsIn Fence.wide 5 Try.prog 40 #[.map mb] W fun e w' => e = .returned (.func (.func 57) #[] #[.pointer (some ⟨W.heap.size, 0, none⟩)]) ∧ w' = W.alloc (.cells #[.map mb] 58) := fun mb W => AnyZI.keys_in Try.keysA Fence.wide 5 trivial rfl mb W
  have cS := AnyZI.sorted_in Try.sortedA Fence.wide 5 trivial trivial trivial trivial rfl (by omega) (sortsA _) (enters_of Try.func56 (by kernel_rfl) rfl) 57 #[.pointer (some ⟨w.heap.size, 0, none⟩)] trivial (enters_of Try.func57 (by kernel_rfl) rfl) _ _ hmax hbytes _ hseq
  change CallsIn _ _ Try.prog 39 _ _ _ at cS
  have hfK : Fence.wide.fn 40 := trivial
  have hfS : Fence.wide.fn 39 := trivial
  clear hseq hmax hbytes
  refine callsIn_of_wp Try.func16 rfl trivial ?_ rfl
  simp only [Try.ntmps16, List.size_toArray, List.length_cons, List.length_nil, Nat.reduceAdd, Nat.reduceSub, Array.replicate_succ, Array.replicate_zero, List.push_toArray, List.append_toArray, List.nil_append, List.cons_append]
  gi_wp2_with (first
    | (gi_at_call 40; refine (cK _ _).mono ?_; rintro e w' ⟨rfl, rfl⟩)
    | (gi_at_call 39; refine cS.mono ?_; rintro e w' ⟨v, ss, rfl, hS, hrow, hnil, hb⟩))
  go_ret
  have hlen : ss.length = s.keys.length := by
    have := hS.length_eq
    rw [intKeys_DF, List.length_map] at this
    exact this
  have hsort := sorted_keys hS
  have hrow' := ownsRow_base_a (base' := w.heap.size) hrow (by simp)
  refine ⟨v, rfl, ?_, ?_, ((Below.refl _ w).alloc (Nat.le_refl _) _).trans (hb.mono (by simp))⟩
  · have e : (ss.mergeSort fun x y => decide (x ≤ y)).map encZ = iv s.keys := by
      show (ss.mergeSort leI).map encZ = _
      rw [hsort]
      simp [iv, DevS.keys, encZ]
    rw [e, hlen] at hrow'
    exact hrow'
  · rw [hnil]
    constructor
    · rintro rfl
      exact List.eq_nil_of_length_eq_zero (by rw [← hlen]; rfl)
    · intro hk
      exact List.eq_nil_of_length_eq_zero (by rw [hlen, hk]; rfl)

theorem clone_any {w : World} {b n : Nat} {D : DataW Unit} (hown : w.ownsMap Try.prog 3 secR b n D) :
    Calls Try.prog 50 #[.map (some b)] w fun e w' => e = .returned (.map (some w.heap.size)) ∧ w'.ownsMap Try.prog 3 secR w.heap.size n D ∧ Below w.heap.size w w' :=
  (AnyW.maps_Clone_owns Try.cloneA 3 secR b n D w hown).mono fun _ _ ⟨h1, h2, _, h4⟩ => ⟨h1, h2, h4⟩

set_option maxHeartbeats 1000000 in
/-- Copy: a device of its own, in new blocks. -/
theorem copydev_any {w : World} {p bs bw : Nat} {s : DevS} (h : IsDev w p bs bw s) :
    Calls Try.prog 26 #[.pointer (some ⟨p, 0, none⟩)] w fun e w' => ∃ p' bs' bw', e = .returned (.pointer (some ⟨p', 0, none⟩)) ∧ IsDev w' p' bs' bw' s ∧ w.heap.size ≤ p' ∧ w.heap.size ≤ bs' ∧ w.heap.size ≤ bw' ∧ Below w.heap.size w w' := by
  have h0 := h.c0
  have h1 := h.c1
  have h2 := h.c2
  have h3 := h.c3
  have h4 := h.c4
  have hlt := h.ltp
  have H : Hid (IsDev w p bs bw s) := h
  clear h
  go_enter Try.func26, Try.ntmps26
  go_wp2_with fail
  clear h0 h1 h2 h3 h4
  have HD := H.out.below ((Below.refl w.heap.size w).alloc (Nat.le_refl _) (.cells (devCells s bs bw) 60))
  have hnew : (w.alloc (.cells (devCells s bs bw) 60)).heap[w.heap.size]? = some (.cells (devCells s bs bw) 60) := heap_alloc_last w _
  have c1 := clone_any HD.safe
  refine c1.mono ?_
  rintro e w1 ⟨rfl, hm1, hb1⟩
  clear c1
  simp only [World.size_alloc] at hm1 hb1 ⊢
  have hp1 := (hb1.block w.heap.size (by omega)).trans hnew
  have HD1 := HD.below (by simpa using hb1)
  clear HD hnew
  have hcc : w1.cell? ⟨w.heap.size, 1, none⟩ = some (.map (some bs)) := by rw [cell_at hp1]; rfl
  have hcf : w1.frozen? ⟨w.heap.size, 1, none⟩ = false := frozen_at hp1 1
  have hp2 := heap_setCell hp1 1 (.map (some (w.heap.size + 1)))
  have ho2 : Only [w.heap.size] w1 (w1.setCell ⟨w.heap.size, 1, none⟩ (.map (some (w.heap.size + 1)))) := Only.setCell w1 (by simp) _
  have HD2 := HD1.kept ho2 (by simp; omega) (by have := H.out.lts; simp; omega) (by have := H.out.ltw; simp; omega)
  have hl2 := HD2.c2
  have hm2 := ownsMap_only hm1 ho2 (by simp)
  have hsz1 : w.heap.size + 1 < w1.heap.size := hm1.lt
  clear hm1
  go_wp2_with fail
  clear hl2 hcc hcf
  have c2 := clone_any HD2.waits
  refine c2.mono ?_
  rintro e w3 ⟨rfl, hm3, hb3⟩
  clear c2
  have hsz2 : (w1.setCell ⟨w.heap.size, 1, none⟩ (.map (some (w.heap.size + 1)))).heap.size = w1.heap.size := by simp [World.setCell]
  rw [hsz2] at hm3 hb3 ⊢
  have hp3 := (hb3.block w.heap.size (by omega)).trans hp2
  have hm2' := ownsMap_only hm2 (Only.of_below (S := []) (by rw [hsz2]; exact hb3)) (by simp)
  have hcc : w3.cell? ⟨w.heap.size, 2, none⟩ = some (.map (some bw)) := by rw [cell_at hp3]; rfl
  have hcf : w3.frozen? ⟨w.heap.size, 2, none⟩ = false := frozen_at hp3 2
  have hp4 := heap_setCell hp3 2 (.map (some w1.heap.size))
  have ho4 : Only [w.heap.size] w3 (w3.setCell ⟨w.heap.size, 2, none⟩ (.map (some w1.heap.size))) := Only.setCell w3 (by simp) _
  have hm4 := ownsMap_only hm3 ho4 (by simp; omega)
  have hm5 := ownsMap_only hm2' ho4 (by simp)
  have hfin : IsDev (w3.setCell ⟨w.heap.size, 2, none⟩ (.map (some w1.heap.size))) w.heap.size (w.heap.size + 1) w1.heap.size s :=
    ⟨hp4, hm5, hm4, by omega, H.out.lo, H.out.hi, H.out.fz0, H.out.fz1, H.out.ag0, H.out.ag1, H.out.fs, H.out.fw⟩
  have hB : Below w.heap.size w (w3.setCell ⟨w.heap.size, 2, none⟩ (.map (some w1.heap.size))) :=
    (((((Below.refl w.heap.size w).alloc (Nat.le_refl _) (.cells (devCells s bs bw) 60)).trans (hb1.mono (by omega))).setCell (p := ⟨w.heap.size, 1, none⟩) (Nat.le_refl _) _).trans (hb3.mono (by omega))).setCell (p := ⟨w.heap.size, 2, none⟩) (Nat.le_refl _) _
  clear hm5 hm4 hp4 ho4 hm3 hm2' hp3 hb3 hb1 HD1 HD2 ho2 hp2 hp1 hm2
  go_wp2_with fail
  go_ret
  exact ⟨_, _, _, rfl, hfin, Nat.le_refl _, by omega, by omega, hB⟩
end Go.Proofs.Ytkmdjhdininimaa
