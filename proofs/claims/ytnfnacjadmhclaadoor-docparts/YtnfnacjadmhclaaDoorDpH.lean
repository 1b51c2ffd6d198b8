/-
  The contract of live, layer 12.
-/
import Derived.Test.YtnfnacjadmhclaaDoorDpG
namespace Go.Proofs.YtnfnacjadmhclaaDoor
open Go.ChangeShapes Go.WideShapes Go.ChangeAt Go.RowKit Go.PlainAid

def lA : List OpD := [⟨2, 0, ⟨#[97, 98, 99]⟩⟩]
def dA : List RunD := [⟨0, 2, 0, ⟨#[97, 98, 99]⟩⟩]
def lB : List OpD := [⟨1, 1, ⟨#[]⟩⟩, ⟨2, 0, ⟨#[120]⟩⟩, ⟨3, 1, ⟨#[]⟩⟩, ⟨1, 1, ⟨#[]⟩⟩]
def dB : List RunD := [⟨0, 2, 0, ⟨#[97]⟩⟩, ⟨1, 1, 0, ⟨#[120]⟩⟩, ⟨0, 2, 2, ⟨#[99]⟩⟩]
theorem ck0 : ckG [] none [] = true := by decide
theorem ckA : ckG [] none dA = true := by decide
theorem ckB : ckG [] none dB = true := by decide
theorem chA : chk lA = 0 := by decide
theorem chB : chk lB = 0 := by decide
theorem stA : stR lA = [.ins ⟨#[97, 98, 99]⟩] := by rw [stR, if_pos chA]; rfl
theorem stB : stR lB = [.keep 1, .ins ⟨#[120]⟩, .rem 1, .keep 1] := by rw [stR, if_pos chB]; rfl
theorem lvA : dcE [] lA 0 2 = 0 ∧ dcL [] lA 0 2 = dA := by
  have h1 : bsum (stR lA) = num [] := by rw [stA]; decide
  have h2 : orM 0 2 = true ∧ ([] : List RunD).any (orQ 0 2) = false := ⟨by decide, rfl⟩
  refine ⟨by unfold dcE; rw [if_pos ck0, if_pos chA, if_pos h1, if_pos h2], ?_⟩
  unfold dcL
  rw [if_pos ck0, if_pos chA, if_pos h1, if_pos h2, stA]
  rfl
theorem lvB : dcE dA lB 1 1 = 0 ∧ dcL dA lB 1 1 = dB := by
  have h1 : bsum (stR lB) = num dA := by rw [stB]; decide
  have h2 : orM 1 1 = true ∧ dA.any (orQ 1 1) = false := ⟨by decide, by decide⟩
  refine ⟨by unfold dcE; rw [if_pos ckA, if_pos chB, if_pos h1, if_pos h2], ?_⟩
  unfold dcL
  rw [if_pos ckA, if_pos chB, if_pos h1, if_pos h2, stB]
  rfl
theorem lvAt : atR dB 2 = (0, 2, 2, true) := by
  have h : ckG [] none dB = true ∧ (0 : Int) ≤ 2 := ⟨ckB, by decide⟩
  unfold atR
  rw [if_pos h]
  decide
theorem lvT : mk (txB dB) = ⟨#[97, 120, 99]⟩ := by decide
theorem lvC : cpl ⟨#[97, 120, 99]⟩ = 3 := by decide
theorem inA : ∀ o ∈ lA, o.In := by
  intro o ho
  simp only [lA, List.mem_cons, List.not_mem_nil, or_false] at ho
  subst ho
  show ByteArray.size _ ≤ _
  decide
theorem inB : ∀ o ∈ lB, o.In := by
  intro o ho
  simp only [lB, List.mem_cons, List.not_mem_nil, or_false] at ho
  rcases ho with rfl | rfl | rfl | rfl <;> (show ByteArray.size _ ≤ _; decide)
theorem idA : ∀ r ∈ dA, r.In := by
  intro o ho
  simp only [dA, List.mem_cons, List.not_mem_nil, or_false] at ho
  subst ho
  show ByteArray.size _ ≤ _
  decide
theorem idB : ∀ r ∈ dB, r.In := by
  intro o ho
  simp only [dB, List.mem_cons, List.not_mem_nil, or_false] at ho
  rcases ho with rfl | rfl | rfl <;> (show ByteArray.size _ ≤ _; decide)

set_option maxRecDepth 20000 in
set_option maxHeartbeats 1000000 in
theorem live12_any (w : World) (hV : VS w) : Calls Tryd.prog 19 #[] w fun e w' => e = .returned (.bool true) ∧ Below w.heap.size w w' := by
  have hs0 : (w.alloc (.cells #[.int .i64 0, .int .i64 2] 29)).heap.size = w.heap.size + 1 := by simp
  have hO := heap_alloc_new w (.cells #[.int .i64 0, .int .i64 2] 29)
  have hB0 : Below w.heap.size w (w.alloc (.cells #[.int .i64 0, .int .i64 2] 29)) := grow1 w _
  have rA := lit_rdd lA (w.alloc (.cells #[.int .i64 0, .int .i64 2] 29))
  have hB1 : Below w.heap.size w ((w.alloc (.cells #[.int .i64 0, .int .i64 2] 29)).alloc (.cells (ocs lA).toArray 51)) := chain hB0 (grow1 _ _)
  have hO1 : OB _ w.heap.size 0 2 := OB.below hO (grow1 _ (.cells (ocs lA).toArray 51))
  rw [hs0] at rA
  have c1 := docApply_any _ _ [] lA 0 2 _ (hV.below hB1) (RdN.nil _) (by decide) (by simp) rA (by decide) inA
  rw [lvA.1, lvA.2] at c1
  clear hs0 hO hB0 rA
  go_enter Tryd.func19, Tryd.ntmps19
  go_wp2_with fail
  refine c1.mono ?_
  rintro e w1 ⟨u1, rfl, ho1, hb1⟩
  have rd1 := rdn_own ho1
  obtain ⟨a1, k1, hu1⟩ := own_form ho1
  obtain rfl : u1 = .slice a1 1 k1 := hu1
  have hB2 := chain hB1 hb1
  have hO2 := hO1.below hb1
  clear c1 ho1 hb1 hB1 hO1
  have rB := lit_rdd lB w1
  have hB3 : Below w.heap.size w (w1.alloc (.cells (ocs lB).toArray 51)) := chain hB2 (grow1 _ _)
  have hO3 := hO2.below (grow1 w1 (.cells (ocs lB).toArray 51))
  have c2 := docApply_any _ _ dA lB 1 1 _ (hV.below hB3) (rd1.below (grow1 w1 (.cells (ocs lB).toArray 51))) (by decide) idA rB (by decide) inB
  rw [lvB.1, lvB.2] at c2
  clear hB2 hO2 rB rd1
  go_wp2_with fail
  refine c2.mono ?_
  rintro e w2 ⟨u2, rfl, ho2, hb2⟩
  have rd2 := rdn_own ho2
  obtain ⟨a2, k2, hu2⟩ := own_form ho2
  obtain rfl : u2 = .slice a2 3 k2 := hu2
  have hB4 := chain hB3 hb2
  have hO4 := hO3.below hb2
  clear c2 ho2 hb2 hB3 hO3
  have c3 := at_any _ dB 2 w2 (hV.below hB4) rd2 (by decide) idB (by decide)
  rw [lvAt] at c3
  go_wp2_with fail
  refine c3.mono ?_
  rintro e w3 ⟨rfl, hb3⟩
  have hB5 := chain hB4 hb3
  have rd3 := rd2.below hb3
  have hO5 := hO4.below hb3
  clear c3 hB4 rd2 hO4 hb3
  unfold atA
  have hN : OB (w3.alloc (.cells #[.int .i64 0, .int .i64 2] 29)) w3.heap.size 0 2 := heap_alloc_new w3 _
  have hG := grow1 w3 (.cells #[.int .i64 0, .int .i64 2] 29)
  have hB6 := chain hB5 hG
  have rd4 := rd3.below hG
  have hO6 := hO5.below hG
  have c4 := docText_any _ dB _ rd4 (by decide) (by decide)
  rw [lvT] at c4
  clear hB5 rd3 hO5 hG
  go_wp2_with fail
  refine c4.mono ?_
  rintro e w4 ⟨rfl, hb4⟩
  have hB7 := chain hB6 hb4
  have rd5 := rd4.below hb4
  have hO7 := hO6.below hb4
  have hN7 := hN.below hb4
  clear c4 hB6 rd4 hO6 hN hb4
  have c5 := docLen_any _ dB w4 (hV.below hB7) rd5 (by decide) (by decide)
  rw [lvT, lvC] at c5
  go_wp2_with fail
  refine c5.mono ?_
  rintro e w5 ⟨rfl, hb5⟩
  have hB8 := chain hB7 hb5
  obtain ⟨p0, p1, -, -⟩ := (hO7.below hb5).facts
  obtain ⟨q0, q1, -, -⟩ := (hN7.below hb5).facts
  clear c5 hB7 rd5 hO7 hN7 hb5
  go_wp2_with fail
  go_ret
  exact ⟨rfl, hB8⟩
end Go.Proofs.YtnfnacjadmhclaaDoor
