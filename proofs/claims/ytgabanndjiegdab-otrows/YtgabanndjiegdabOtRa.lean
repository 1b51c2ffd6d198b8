/-
  The contracts of gentle and apart; a row of deltas that came in.
-/
import Derived.Test.YtgabanndjiegdabOtYOtYbOtRwOtRx
import Derived.Test.YtgabanndjiegdabRtC
import Derived.Test.YtgabanndjiegdabDrIDrJ
import Derived.Test.YtgabanndjiegdabOtL
namespace Go.Proofs.Ytgabanndjiegdab
open Go.ChangeShapes Go.WideShapes Go.ChangeAt Go.RowKit Go.PlainAid

theorem ret_b {a b : Bool} (h : a = b) : Ending.returned (.bool a) = .returned (.bool b) := by rw [h]

set_option maxRecDepth 20000 in
set_option maxHeartbeats 1000000 in
theorem gentle_any (v : Value) (l : List OpD) (w : World) (hr : RdD w v l) (hm : l.length ≤ maxLen) :
    Calls Try.prog 15 #[v] w fun e w' => e = .returned (.bool (decide (∀ o ∈ l, o.k ≠ 3))) ∧ w' = w := by
  obtain ⟨ao, cp, rfl, -, hcs⟩ := hr
  unfold maxLen at hm
  go_enter Try.func15, Try.ntmps15
  go_wp2_with fail
  go_loopw [3] (fun i wr => ∃ k : Nat, k ≤ l.length ∧ i = .int .i64 (k : Int) ∧ (∀ o ∈ l.take k, o.k ≠ 3) ∧ wr = w) (fun i _ => l.length - (Go.RowKit.intOf i).toNat)
  case atStart => exact ⟨0, Nat.zero_le _, rfl, by simp, rfl⟩
  case round =>
    obtain ⟨k, hk, rfl, hT, rfl⟩ := hrel
    have HT : Hid (∀ o ∈ l.take k, o.k ≠ 3) := hT
    clear hT
    by_cases c : k < l.length
    · have c' : (k : Int) < (l.length : Int) := by omega
      obtain ⟨g, off, e2, hg, cA, -, -⟩ := hcs k l[k] (by simp [c])
      subst e2
      clear hcs
      have HS : Hid (l[k].k ≠ 3 → ∀ o ∈ l.take (k + 1), o.k ≠ 3) := fun hne o ho => by
        rw [List.take_succ_eq_append_getElem c] at ho
        rcases List.mem_append.1 ho with ho | ho
        · exact HT.out o ho
        · simp at ho; subst ho; exact hne
      have HN : Hid (l[k].k = 3 → decide (∀ o ∈ l, o.k ≠ 3) = false) := fun he => decide_eq_false (fun h => h l[k] (by simp) he)
      clear HT
      generalize l[k].k = x at *
      by_cases he : x = 3
      · have HN' := HN.out he
        have HN2 : Hid (decide (∀ o ∈ l, o.k ≠ 3) = false) := HN'
        clear HS HN HN'
        go_wp2_with fail
        go_ret
        exact ⟨ret_b HN2.out.symm, rfl⟩
      · have HS' := HS.out he
        have HS2 : Hid (∀ o ∈ l.take (k + 1), o.k ≠ 3) := HS'
        clear HS HN HS'
        go_wp2_with fail
        exact ⟨⟨k + 1, by omega, by go_num, HS2.out, by first | rfl | trivial⟩, by simp only [Go.RowKit.intOf]; omega⟩
    · obtain rfl : k = l.length := by omega
      have HE : Hid (decide (∀ o ∈ l, o.k ≠ 3) = true) := decide_eq_true (by have := HT.out; rw [List.take_length] at this; exact this)
      clear HT hcs
      go_wp2_with fail
      go_ret
      exact ⟨ret_b HE.out.symm, rfl⟩

/-- A form's box. -/
def FBx (W : World) (p : Nat) (vi vg : Value) : Prop := W.heap[p]? = some (.cells #[vi, vg] 69 (0, 0))
theorem FBx.c0 {W : World} {p : Nat} {vi vg : Value} (h : FBx W p vi vg) : W.cell? ⟨p, 0, none⟩ = some vi := cell_of_row _ _ 0 _ _ (0, 0) h
theorem FBx.below {W W' : World} {p : Nat} {vi vg : Value} (h : FBx W p vi vg) (hb : Below W.heap.size W W') : FBx W' p vi vg := (hb.block p (heap_lt h)).trans h

set_option maxRecDepth 20000 in
set_option maxHeartbeats 1000000 in
theorem apart_any (vB vC vA : Value) (B C A : List OpD) (w : World) (hB : RdD w vB B) (hC : RdD w vC C) (hA : RdD w vA A) (mB : B.length ≤ maxLen) (mC : C.length ≤ maxLen) (mA : A.length ≤ maxLen) (sB : ∀ o ∈ B, o.Sm) (sC : ∀ o ∈ C, o.Sm) (sA : ∀ o ∈ A, o.Sm) (z1 : (coR B C).2 = 0) (z2 : chk A = 0) :
    Calls Try.prog 16 #[vB, vC, vA] w fun e w' => (∃ b, e = .returned (.bool b)) ∧ Below w.heap.size w w' := by
  have c1 := rcompose_any vB vC B C w hB hC mB mC sB sC
  obtain ⟨x0, x1, -⟩ := co_facts (fun o ho => sm_in (sB o ho)) (fun o ho => sm_in (sC o ho)) z1
  have sD : ∀ o ∈ (coR B C).1, o.Sm := fun o ho => Nat.le_trans (chk_sm x0 x1 o ho) (by decide)
  have lD : (coR B C).1.length ≤ maxLen := by have := (kchk_any x1).2; unfold maxLen; omega
  have c2 := fun W h => refCheck_any vA A W h mA sA
  rw [z1] at c1
  have c3 := fun W h => formed_any vA A W h mA sA z2
  have c4 := fun v W h => formed_any v (coR B C).1 W h lD sD x1
  have bA := stR_bd A
  have bD := stR_bd (coR B C).1
  simp only [z2] at c2
  generalize (coR B C).1 = D at *
  generalize stR A = lA at *
  generalize stR D = lD at *
  clear x0 sD x1 z1 z2 hB hC
  go_enter Try.func16, Try.ntmps16
  go_wp2_with fail
  refine c1.mono ?_
  rintro e w1 ⟨u1, rfl, ho1, hb1⟩
  have c2' := c2 w1 (hA.below hb1)
  have r1 := rdd_own ho1
  clear c1 c2 ho1
  go_wp2_with fail
  refine c2'.mono ?_
  rintro e w2 ⟨rfl, hb2⟩
  have hb12 := chain hb1 hb2
  have c3' := c3 w2 (hA.below hb12)
  have r1 := r1.below hb2
  clear c2' c3 hb1 hb2
  go_wp2_with fail
  refine c3'.mono ?_
  rintro e w3 ⟨vi, vg, ins, gone, g, rfl, hi, hg, hf, hb3⟩
  have l1 : ins.length ≤ 1001 := by have := hf.li; omega
  clear hf
  obtain ⟨io, ip, rfl, -⟩ := id hi
  obtain ⟨jo, jp, rfl, -⟩ := hg
  rw [List.length_map] at hi ⊢
  have hb3' := chain hb12 hb3
  have r1 := r1.below hb3
  have hx := heap_alloc_last w3 (.cells #[.slice io ins.length ip, .slice jo gone.length jp] 69)
  have hb4 : Below w3.heap.size w3 (w3.alloc (.cells #[.slice io ins.length ip, .slice jo gone.length jp] 69)) := (Below.refl _ w3).alloc (Nat.le_refl _) _
  have sz : (w3.alloc (.cells #[.slice io ins.length ip, .slice jo gone.length jp] 69)).heap.size = w3.heap.size + 1 := by simp
  have hi := hi.below hb4
  have r1 := r1.below hb4
  have hb4' := chain hb3' hb4
  clear hb12 hb3 c3' hb4 hb3'
  go_wp2_with fail
  try simp only [List.length_map]
  generalize w3.alloc (.cells #[.slice io ins.length ip, .slice jo gone.length jp] 69) = w4 at *
  have hlt : w3.heap.size < w4.heap.size := by omega
  generalize w3.heap.size = p1 at *
  refine (c4 _ _ r1).mono ?_
  rintro e w5 ⟨vi2, vg2, ins2, gone2, g2, rfl, hi2, hg2, hf2, hb5⟩
  have l2 : ins2.length ≤ 1001 := by have := hf2.li; omega
  clear hf2 c4 r1 bA bD
  obtain ⟨io2, ip2, rfl, -⟩ := id hi2
  obtain ⟨jo2, jp2, rfl, -⟩ := hg2
  rw [List.length_map] at hi2 ⊢
  have hx := (hb5.block p1 hlt).trans hx
  have hi := hi.below hb5
  have hb5' := chain hb4' hb5
  have hy := heap_alloc_last w5 (.cells #[.slice io2 ins2.length ip2, .slice jo2 gone2.length jp2] 69)
  have hb6 : Below w5.heap.size w5 (w5.alloc (.cells #[.slice io2 ins2.length ip2, .slice jo2 gone2.length jp2] 69)) := (Below.refl _ w5).alloc (Nat.le_refl _) _
  have hx := (hb6.block p1 (heap_lt hx)).trans hx
  have hi := hi.below hb6
  have hi2 := hi2.below hb6
  have HB : Hid (Below w.heap.size w _) := chain hb5' hb6
  clear hb4' hb5 hb5' hb6 sz hlt
  go_wp2_with fail
  try simp only [List.length_map]
  generalize w5.alloc (.cells #[.slice io2 ins2.length ip2, .slice jo2 gone2.length jp2] 69) = W at *
  generalize w5.heap.size = p2 at *
  have x0 := cell_of_row _ _ 0 _ _ (0, 0) hx
  have y0 := cell_of_row _ _ 0 _ _ (0, 0) hy
  simp at x0 y0
  clear hx hy
  obtain ⟨_, _, e, ci⟩ := hi
  simp only [Value.slice.injEq] at e
  obtain ⟨rfl, -, rfl⟩ := e
  obtain ⟨_, _, e, ci2⟩ := hi2
  simp only [Value.slice.injEq] at e
  obtain ⟨rfl, -, rfl⟩ := e
  go_loopw [11] (fun i wr => ∃ k : Nat, k ≤ ins.length ∧ k ≤ ins2.length ∧ i = .int .i64 (k : Int) ∧ wr = W) (fun i _ => ins.length - (Go.RowKit.intOf i).toNat)
  case atStart => exact ⟨0, Nat.zero_le _, Nat.zero_le _, rfl, rfl⟩
  case round =>
    obtain ⟨k, k1, k2, rfl, rfl⟩ := hrel
    by_cases h1 : k < ins.length
    · have h1' : (k : Int) < (ins.length : Int) := by omega
      by_cases h2 : k < ins2.length
      · have h2' : (k : Int) < (ins2.length : Int) := by omega
        obtain ⟨b, off, rfl, -, cA⟩ := ci k (.string ins[k]) (by simp [h1])
        obtain ⟨b2, off2, rfl, -, cB⟩ := ci2 k (.string ins2[k]) (by simp [h2])
        generalize ins[k] = s1 at *
        generalize ins2[k] = s2 at *
        clear ci ci2
        go_wp2_with fail
        all_goals first
          | (go_ret; exact ⟨⟨_, rfl⟩, HB.out⟩)
          | exact ⟨⟨k + 1, by omega, by omega, by go_num, by first | rfl | trivial⟩, by simp only [Go.RowKit.intOf]; omega⟩
      · obtain rfl : k = ins2.length := by omega
        clear ci ci2
        go_wp2_with fail
        go_ret
        exact ⟨⟨_, rfl⟩, HB.out⟩
    · obtain rfl : k = ins.length := by omega
      clear ci ci2
      go_wp2_with fail
      go_ret
      exact ⟨⟨_, rfl⟩, HB.out⟩
end Go.Proofs.Ytgabanndjiegdab
