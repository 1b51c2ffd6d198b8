/-
  The contract of transformed.
-/
import Derived.Test.YtcdnlkhjlgaaoaaGreatDoorOtU
namespace Go.Proofs.YtcdnlkhjlgaaoaaGreatDoor
open Go.ChangeShapes Go.WideShapes Go.ChangeAt Go.RowKit Go.PlainAid Go.Maps

theorem cpl_nil : cpl ⟨#[]⟩ = 0 := by
  have := cpl_ok (s := ⟨#[]⟩) (n := 0) ⟨fun k hk => by omega, rfl⟩
  simpa using this
/-- What a place may put in. -/
def PutOk (t : ByteArray) : Prop := 0 ≤ cpl t ∧ t.size ≤ 4000
theorem putOk_nil : PutOk ⟨#[]⟩ := ⟨by rw [cpl_nil]; omega, by show 0 ≤ 4000; omega⟩
theorem reps_ok {p : ByteArray} {k : Int} (hp : PutOk p) (hk : 0 ≤ k ∧ k < 256) : ∀ (n : Nat) (p : ByteArray), PutOk p → ∀ s ∈ reps p k n, s.Ok ∧ PutOk s.put
  | 0, _, _, s, hs => by simp [reps] at hs
  | n + 1, p', hp', s, hs => by
    rw [reps] at hs
    rcases List.mem_cons.1 hs with rfl | hs
    · exact ⟨hk, hp'⟩
    · exact reps_ok hp hk n _ putOk_nil s hs
theorem spots_ok : ∀ (ds : List St) (p : ByteArray), PutOk p → (∀ s ∈ ds, s.Ok ∧ s.c ≤ 1000) → ∀ s ∈ spots ds p, s.Ok ∧ PutOk s.put
  | [], p, hp, _, s, hs => by
    simp only [spots, List.mem_singleton] at hs
    subst hs
    exact ⟨⟨by show (0 : Int) ≤ 0; decide, by show (0 : Int) < 256; decide⟩, hp⟩
  | .ins t :: ds, p, hp, ho, s, hs => by
    have h := ho (.ins t) (by simp)
    have h1 : 0 < cpl t := h.1.1
    have h2 : (cpl t).toNat ≤ 1000 := h.2
    have h3 := size_cpl h1
    exact spots_ok ds t ⟨by omega, by omega⟩ (fun x hx => ho x (by simp [hx])) s hs
  | .keep n :: ds, p, hp, ho, s, hs => by
    rw [spots] at hs
    rcases List.mem_append.1 hs with hs | hs
    · exact reps_ok hp ⟨by decide, by decide⟩ n p hp s hs
    · exact spots_ok ds _ putOk_nil (fun x hx => ho x (by simp [hx])) s hs
  | .rem n :: ds, p, hp, ho, s, hs => by
    rw [spots] at hs
    rcases List.mem_append.1 hs with hs | hs
    · exact reps_ok hp ⟨by decide, by decide⟩ n p hp s hs
    · exact spots_ok ds _ putOk_nil (fun x hx => ho x (by simp [hx])) s hs
theorem outO_len (first : Bool) (x y : Spot) : (outO first x y).length ≤ 3 := by
  unfold outO
  rw [List.length_append]
  have h1 : ((if first then [mineO x, thrsO y] else [thrsO y, mineO x]).filter OpD.does).length ≤ 2 := by
    refine Nat.le_trans (List.length_filter_le _ _) ?_
    cases first <;> simp
  have h2 : (if y.k = 1 then [(⟨x.k, 1, ⟨#[]⟩⟩ : OpD)] else []).length ≤ 1 := by split <;> simp
  omega
theorem tfO_len (first : Bool) : ∀ (SA SB : List Spot), (tfO first SA SB).length ≤ 3 * SB.length
  | [], SB => by simp [tfO]
  | x :: SA, [] => by simp [tfO]
  | x :: SA, y :: SB => by
    have h1 := outO_len first x y
    have h2 := tfO_len first SA SB
    have e : tfO first (x :: SA) (y :: SB) = outO first x y ++ tfO first SA SB := by simp [tfO]
    rw [e, List.length_append, List.length_cons]
    omega

set_option maxRecDepth 20000 in
set_option maxHeartbeats 2000000 in
theorem transformed_any (vA vB : Value) (first : Bool) (dA dB : List St) (w : World) (hA : RdD w vA (dA.map St.op)) (hB : RdD w vB (dB.map St.op)) (hbA : ∀ g, vA.ownBlock = some g → g < w.heap.size) (hbB : ∀ g, vB.ownBlock = some g → g < w.heap.size)
    (okA : ∀ s ∈ dA, s.Ok ∧ s.c ≤ 1000) (okB : ∀ s ∈ dB, s.Ok ∧ s.c ≤ 1000) (lA : dA.length ≤ 3000) (lB : dB.length ≤ 3000) (hb : bsum dA = bsum dB) (hbs : bsum dB ≤ 1000) :
    Calls Tryz.prog 97 #[vA, vB, .bool first] w fun e w' => ∃ u, e = .returned u ∧ w'.ownsRow w.heap.size 59 3 u (tfO first (spots dA ⟨#[]⟩) (spots dB ⟨#[]⟩)).length (ocs (tfO first (spots dA ⟨#[]⟩) (spots dB ⟨#[]⟩))) ∧ Below w.heap.size w w' := by
  have hmf : ∀ (fn : Fn) (fst cap : Array Value) (w : World), (Instr.makeFunc fn fst cap).run Tryz.prog w = .ok (.func fn fst cap) w := fun _ _ _ _ => rfl
  have hmm := @run_makeMap Tryz.prog
  obtain ⟨SA, HSA⟩ : ∃ SA, SA = spots dA ⟨#[]⟩ := ⟨_, rfl⟩
  obtain ⟨SB, HSB⟩ : ∃ SB, SB = spots dB ⟨#[]⟩ := ⟨_, rfl⟩
  have sA := spots_ok dA ⟨#[]⟩ putOk_nil okA
  have sB := spots_ok dB ⟨#[]⟩ putOk_nil okB
  have nA := spots_len dA ⟨#[]⟩
  have nB := spots_len dB ⟨#[]⟩
  rw [← HSA] at sA nA ⊢
  rw [← HSB] at sB nB ⊢
  -- the world ahead of the first along
  obtain ⟨W0, HW0⟩ : ∃ W0, W0 = ((w.alloc (.cells #[.bool first] 4)).alloc (.map #[] 0)).alloc (.cells #[.map (some (w.heap.size + 1))] 152) := ⟨_, rfl⟩
  have hO0 : ∀ S, Only S w W0 := fun S => by rw [HW0]; exact ((Only.alloc S _ _).trans (Only.alloc S _ _)).trans (Only.alloc S _ _)
  have hz0 : W0.heap.size = w.heap.size + 3 := by rw [HW0]; simp
  have h5 : W0.heap[w.heap.size]? = some (.cells #[.bool first] 4 (0, 0)) := by
    rw [HW0]
    exact only_heap (heap_alloc_new w _) ((Only.alloc [] _ _).trans (Only.alloc [] _ _)) (by simp)
  have h7 : W0.heap[w.heap.size + 2]? = some (.cells #[.map (some (w.heap.size + 1))] 152 (0, 0)) := by
    rw [HW0]
    have := heap_alloc_new ((w.alloc (.cells #[.bool first] 4)).alloc (.map #[] 0)) (.cells #[.map (some (w.heap.size + 1))] 152)
    simpa using this
  have hm : MpS W0 (w.heap.size + 1) [] := by
    have h1 := World.ownsMap_made (w.alloc (.cells #[.bool first] 4)) Tryz.prog 3 spotR
    rw [World.size_alloc] at h1
    have e : DF 2000 (spF []) = .map [] := by
      have e2 : spF [] = fun _ => none := by funext i; simp [spF]
      rw [e2, DF_none]
    show World.ownsMap _ _ _ _ _ 2000 (DF 2000 (spF []))
    rw [e, HW0]
    exact (h1.alloc _).mono (Nat.zero_le _)
  have hI1 : I1 SB (w.heap.size + 2) (w.heap.size + 1) 0 [w.heap.size + 1] W0 := ⟨rfl, h7, by simpa using hm, by omega⟩
  have hC1 := along_any 105 (fun _ _ => by kernel_rfl) #[.pointer (some ⟨w.heap.size + 2, 0, none⟩)] vB dB W0 (I1 SB (w.heap.size + 2) (w.heap.size + 1)) [w.heap.size + 1] (rdd_only hB (hO0 []) (by simp)) (fun g e => by have := hbB g e; simp; omega) (fun s hs => (okB s hs).1) hbs lB
    (fun _ _ _ x h => h.alloc x) (fun _ _ _ h => h.lt) (fun i s BL W hs h => see1_any h (by rw [HSB]; exact hs) (sB s (by rw [HSB]; exact List.mem_of_getElem? hs)).1 (by omega)) hI1
  subst HW0
  go_enter Tryz.func97, Tryz.ntmps97
  go_wp2_with fail
  refine hC1.mono ?_
  rintro e w1 ⟨rfl, BL1, hal1⟩
  have hi1 := hal1.inv
  have hMB : MpS w1 (w.heap.size + 1) SB := by
    have := hi1.mp
    rw [← nB, List.take_length] at this
    exact this
  have hO1 : Only [] w w1 := (hO0 []).new hal1.only (fun i hi => .inr (by simp at hi; omega))
  have h51 : w1.heap[w.heap.size]? = some (.cells #[.bool first] 4 (0, 0)) := only_heap h5 hal1.only (by simp)
  have hs1 := hal1.only.size
  have hI2 : I2 w.heap.size SA SB first w.heap.size (w.heap.size + 2) w1.heap.size (w.heap.size + 1) 0 [w1.heap.size] (w1.alloc (.cells #[.slice none 0 0] 39)) := by
    have hOa := Only.alloc [] w1 (.cells #[.slice none 0 0] 39)
    exact ⟨⟨.slice none 0 0, rfl, heap_alloc_new w1 _, World.ownsRow_nil _ _ _ _, by simp; omega⟩, only_heap h51 hOa (by simp), only_heap hi1.cp hOa (by simp), hMB.only hOa (by simp)⟩
  have hC2 := along_any 106 (fun _ _ => by kernel_rfl) #[.pointer (some ⟨w.heap.size + 2, 0, none⟩), .pointer (some ⟨w.heap.size, 0, none⟩), .pointer (some ⟨w1.heap.size, 0, none⟩)] vA dA (w1.alloc (.cells #[.slice none 0 0] 39)) (I2 w.heap.size SA SB first w.heap.size (w.heap.size + 2) w1.heap.size (w.heap.size + 1)) [w1.heap.size]
    (rdd_only hA (hO1.trans (Only.alloc [] _ _)) (by simp)) (fun g e => by have := hbA g e; simp; omega) (fun s hs => (okA s hs).1) (by omega) lA
    (fun _ _ _ x h => h.alloc x) (fun _ _ _ h => h.lt) (fun i s BL W hs h => by
      have hs' : SA[i]? = some s := by rw [HSA]; exact hs
      have hi : i < SA.length := (List.getElem?_eq_some_iff.1 hs').1
      have hiB : i < SB.length := by omega
      have hy : SB[i]? = some SB[i] := List.getElem?_eq_getElem hiB
      have hp := sB SB[i] (List.getElem_mem hiB)
      exact see2_any h hs' hy hp.1 hp.2.1 (by have := hp.2.2; omega) (by omega) (by
        have := tfO_len first (SA.take i) (SB.take i)
        rw [List.length_take] at this
        omega)) hI2
  clear hC1 hal1 hi1 hm hI1 h5 h7
  go_wp2_with fail
  refine hC2.mono ?_
  rintro e w2 ⟨rfl, BL2, hal2⟩
  obtain ⟨d, _, hd⟩ := hal2.inv.ex
  rw [← nA, List.take_length, show SA.length = SB.length by omega, List.take_length] at hd
  have hc8 : w2.cell? ⟨w1.heap.size, 0, none⟩ = some d := cell_of_row _ _ 0 _ _ (0, 0) hd.cell
  have hO2 : Only [] w w2 := (hO1.trans (Only.alloc [] _ _)).new hal2.only (fun i hi => .inr (by simp at hi; omega))
  clear hC2
  go_wp2_with fail
  go_ret
  exact ⟨_, rfl, hd.own, hO2.below (Nat.le_refl _) (by simp)⟩
end Go.Proofs.YtcdnlkhjlgaaoaaGreatDoor
