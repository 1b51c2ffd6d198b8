/-
  The contract of normals.
-/
import Derived.Test.YtgabanndjiegdabOtI
namespace Go.Proofs.Ytgabanndjiegdab
open Go.ChangeShapes Go.WideShapes Go.ChangeAt Go.RowKit Go.PlainAid

set_option maxRecDepth 20000 in
set_option maxHeartbeats 1500000 in
/-- An error: nothing but the error of the first one that has one. -/
theorem normals_bad (vA vB : Value) (A B : List OpD) (w : World) (hA : RdD w vA A) (hB : RdD w vB B) (mA : A.length ≤ maxLen) (mB : B.length ≤ maxLen) (iA : ∀ o ∈ A, o.In) (iB : ∀ o ∈ B, o.In) (h : ¬ (chk A = 0 ∧ chk B = 0)) :
    Calls Try.prog 26 #[vA, vB] w fun e w' => e = .returned (.tuple #[.slice none 0 0, .slice none 0 0, .int .i64 (if chk A = 0 then chk B else chk A)]) ∧ Below w.heap.size w w' := by
  have hC := normal_any vA A w hA mA iA
  by_cases c : chk A = 0
  · have c2 : chk B ≠ 0 := fun h2 => h ⟨c, h2⟩
    have c2' : (chk B != 0) = true := by simpa using c2
    rw [if_pos c]
    rw [c] at hC
    clear h
    go_enter Try.func26, Try.ntmps26
    go_wp2_with fail
    refine hC.mono ?_
    rintro e w1 ⟨u1, rfl, ho1, hb1⟩
    have hD := normal_any vB B w1 (hB.below hb1) mB iB
    clear hC
    go_wp2_with fail
    refine hD.mono ?_
    rintro e w2 ⟨u2, rfl, ho2, hb2⟩
    go_wp2_with fail
    go_ret3
    exact ⟨rfl, hb1.trans (hb2.mono hb1.size)⟩
  · have c' : (chk A != 0) = true := by simpa using c
    rw [if_neg c]
    clear h
    go_enter Try.func26, Try.ntmps26
    go_wp2_with fail
    refine hC.mono ?_
    rintro e w1 ⟨u1, rfl, ho1, hb1⟩
    clear hC
    go_wp2_with fail
    go_ret3
    exact ⟨rfl, hb1⟩

set_option maxRecDepth 20000 in
set_option maxHeartbeats 1500000 in
theorem normals_ok (vA vB : Value) (A B : List OpD) (w : World) (hA : RdD w vA A) (hB : RdD w vB B) (mA : A.length ≤ maxLen) (mB : B.length ≤ maxLen) (iA : ∀ o ∈ A, o.In) (iB : ∀ o ∈ B, o.In) (h1 : chk A = 0) (h2 : chk B = 0) :
    Calls Try.prog 26 #[vA, vB] w fun e w' => ∃ uA uB, e = .returned (.tuple #[uA, uB, .int .i64 0]) ∧ w'.ownsRow w.heap.size 35 3 uA (jn (stR A)).length (ocs (jn (stR A))) ∧ w'.ownsRow w.heap.size 35 3 uB (jn (stR B)).length (ocs (jn (stR B))) ∧ (∀ g, uA.ownBlock = some g → uB.ownBlock ≠ some g) ∧ Below w.heap.size w w' := by
  have hC := normal_any vA A w hA mA iA
  rw [h1] at hC
  go_enter Try.func26, Try.ntmps26
  go_wp2_with fail
  refine hC.mono ?_
  rintro e w1 ⟨u1, rfl, ho1, hb1⟩
  have hD := normal_any vB B w1 (hB.below hb1) mB iB
  rw [h2] at hD
  clear hC
  go_wp2_with fail
  refine hD.mono ?_
  rintro e w2 ⟨u2, rfl, ho2, hb2⟩
  clear hD
  go_wp2_with fail
  go_ret3
  refine ⟨u1, u2, rfl, own_belowG ho1 hb2, own_lower ho2 hb1.size, fun g e1 e2 => ?_, hb1.trans (hb2.mono hb1.size)⟩
  have := (ho1.lt g e1).2
  have := (ho2.lt g e2).1
  omega
end Go.Proofs.Ytgabanndjiegdab
