/-
  The contract of live, layer 10.
-/
import Derived.Test.YtgabanndjiegdabOtX
import Derived.Test.YtgabanndjiegdabOtZ
import Derived.Test.YtgabanndjiegdabDArg
namespace Go.Proofs.Ytgabanndjiegdab
open Go.ChangeShapes Go.WideShapes Go.ChangeAt Go.RowKit Go.PlainAid

def lA : List OpD := [⟨1, 1, ⟨#[]⟩⟩, ⟨2, 0, ⟨#[120]⟩⟩, ⟨1, 1, ⟨#[]⟩⟩]
def lB : List OpD := [⟨1, 1, ⟨#[]⟩⟩, ⟨2, 0, ⟨#[121]⟩⟩, ⟨1, 1, ⟨#[]⟩⟩]
def lT : List OpD := [⟨1, 1, ⟨#[]⟩⟩, ⟨2, 0, ⟨#[120]⟩⟩, ⟨1, 2, ⟨#[]⟩⟩]
def lC : List OpD := [⟨1, 1, ⟨#[]⟩⟩, ⟨2, 0, ⟨#[120, 121]⟩⟩, ⟨1, 1, ⟨#[]⟩⟩]
def lV : List OpD := [⟨1, 1, ⟨#[]⟩⟩, ⟨3, 1, ⟨#[]⟩⟩, ⟨1, 1, ⟨#[]⟩⟩]
theorem l_in {l : List OpD} (h : l = lA ∨ l = lB ∨ l = lT) : ∀ o ∈ l, o.In := by
  intro o ho
  rcases h with rfl | rfl | rfl <;> simp only [lA, lB, lT, List.mem_cons, List.not_mem_nil, or_false] at ho <;> rcases ho with rfl | rfl | rfl <;> (show ByteArray.size _ ≤ _; decide)
theorem lA_chk : chk lA = 0 := by decide
theorem lB_chk : chk lB = 0 := by decide
theorem lT_chk : chk lT = 0 := by decide
theorem lA_st : stR lA = [.keep 1, .ins ⟨#[120]⟩, .keep 1] := by rw [stR, if_pos lA_chk]; rfl
theorem lB_st : stR lB = [.keep 1, .ins ⟨#[121]⟩, .keep 1] := by rw [stR, if_pos lB_chk]; rfl
theorem lT_st : stR lT = [.keep 1, .ins ⟨#[120]⟩, .keep 2] := by rw [stR, if_pos lT_chk]; rfl
theorem lA_jn : jn (stR lA) = lA := by rw [lA_st]; rfl
theorem lB_jn : jn (stR lB) = lB := by rw [lB_st]; rfl
theorem lT_jn : jn (stR lT) = lT := by rw [lT_st]; rfl
theorem cpl_y : cpl ⟨#[121]⟩ = 1 := by decide
theorem live_trW : trW true lA lB = [⟨1, 1, ⟨#[]⟩⟩, ⟨2, 0, ⟨#[120]⟩⟩, ⟨1, 1, ⟨#[]⟩⟩, ⟨1, 1, ⟨#[]⟩⟩] := by
  rw [trW, lA_jn, lB_jn, lA_st, lB_st]
  have d0 : OpD.does ⟨2, 0, ⟨#[]⟩⟩ = false := by decide
  have d1 : OpD.does ⟨1, 0, ⟨#[]⟩⟩ = false := by decide
  have d2 : OpD.does ⟨2, 0, ⟨#[120]⟩⟩ = true := by decide
  have d3 : OpD.does ⟨1, 1, ⟨#[]⟩⟩ = true := by decide
  simp [spots, reps, tfO, outO, mineO, thrsO, cpl_nil, cpl_y, List.filter_cons, d0, d1, d2, d3]
theorem live_tr : trR true lA lB = (lT, 0) := by
  rw [trR, if_pos lA_chk, if_pos lB_chk, lA_st, lB_st, if_pos (by decide), live_trW]
  have hc : chk [(⟨1, 1, ⟨#[]⟩⟩ : OpD), ⟨2, 0, ⟨#[120]⟩⟩, ⟨1, 1, ⟨#[]⟩⟩, ⟨1, 1, ⟨#[]⟩⟩] = 0 := by decide
  rw [hc, stR, if_pos hc]
  rfl
theorem live_co : coR lB lT = (lC, 0) := by
  have hw : cpW lB lT = [.K, .I 120, .I 121, .K] := by
    rw [cpW, lB_jn, lT_jn, lB_st, lT_st]
    have p1 : pts ⟨#[121]⟩ = [121] := by decide
    have p2 : pts ⟨#[120]⟩ = [120] := by decide
    simp [uw, St.u, p1, p2, cmp, List.replicate]
  rw [coR, if_pos lB_chk, if_pos lT_chk, lB_st, lT_st, if_pos (by decide), hw]
  have hc : chk ([U.K, .I 120, .I 121, .K].map uop) = 0 := by decide
  rw [hc, stR, if_pos hc]
  rfl
theorem live_inv : inR ⟨#[97, 98]⟩ lA = (lV, 0) := by
  have h2 : cpl ⟨#[97, 98]⟩ = 2 := by decide
  have ha : (apR ⟨#[97, 98]⟩ lA).2 = 0 := by
    rw [apR, h2, if_neg (by decide), if_neg (fun h => h lA_chk), lA_st, if_neg (by decide)]
  have hv : invO (pts ⟨#[97, 98]⟩) (stR lA) = lV := by
    have p1 : pts ⟨#[97, 98]⟩ = [97, 98] := by decide
    have c1 : cpl ⟨#[120]⟩ = 1 := by decide
    rw [lA_st, p1]
    simp [invO, c1, lV]
  have hc : chk lV = 0 := by decide
  rw [inR, if_pos ha, hv, hc, stR, if_pos hc]
  rfl

set_option maxHeartbeats 400000 in
theorem lkeep_any (n : Int) (w : World) : Calls Try.prog 12 #[.int .i64 n] w fun e w' => e = .returned (.agg #[.int .i64 1, .int .i64 n, .string ⟨#[]⟩]) ∧ Below w.heap.size w w' := by
  go_enter Try.func12, Try.ntmps12
  go_wp2
  refine bodyPost_ret (results_cell_row rfl _ _ w.heap.size 35 _ (0, 0) _ rfl (heap_alloc_new w _) Try.underlying35 rfl Try.sizeOp) rfl ?_
  exact ⟨rfl, (Below.refl _ _).alloc (Nat.le_refl _) _⟩
set_option maxHeartbeats 400000 in
theorem lins_any (t : ByteArray) (w : World) : Calls Try.prog 24 #[.string t] w fun e w' => e = .returned (.agg #[.int .i64 2, .int .i64 0, .string t]) ∧ Below w.heap.size w w' := by
  go_enter Try.func24, Try.ntmps24
  go_wp2
  refine bodyPost_ret (results_cell_row rfl _ _ w.heap.size 35 _ (0, 0) _ rfl (heap_alloc_new w _) Try.underlying35 rfl Try.sizeOp) rfl ?_
  exact ⟨rfl, (Below.refl _ _).alloc (Nat.le_refl _) _⟩

set_option maxRecDepth 20000 in
set_option maxHeartbeats 4000000 in
theorem live10_any (w : World) : Calls Try.prog 8 #[] w fun e w' => e = .returned (.bool true) ∧ Below w.heap.size w w' := by
  go_enter Try.func8, Try.ntmps8
  go_wp2_with fail
  refine (lkeep_any _ _).mono ?_
  rintro e w1 ⟨rfl, b1⟩
  go_wp2_with fail
  refine (lins_any _ _).mono ?_
  rintro e w2 ⟨rfl, b2⟩
  go_wp2_with fail
  refine (lkeep_any _ _).mono ?_
  rintro e w3 ⟨rfl, b3⟩
  have rA := lit_rdd lA w3
  go_wp2_with fail
  refine (lkeep_any _ _).mono ?_
  rintro e w4 ⟨rfl, b4⟩
  go_wp2_with fail
  refine (lins_any _ _).mono ?_
  rintro e w5 ⟨rfl, b5⟩
  go_wp2_with fail
  refine (lkeep_any _ _).mono ?_
  rintro e w6 ⟨rfl, b6⟩
  have rA6 := ((rA.below b4).below b5).below b6
  have rA7 := rA6.below (grow1 w6 (.cells (ocs lB).toArray 35))
  have rB7 := lit_rdd lB w6
  have hT := transform_any _ _ true lA lB _ rA7 rB7 (by decide) (by decide) (l_in (.inl rfl)) (l_in (.inr (.inl rfl)))
  rw [live_tr] at hT
  go_wp2_with fail
  refine hT.mono ?_
  rintro e w7 ⟨uT, rfl, oT, b7⟩
  clear hT
  have rT := rdd_own oT
  have hC := compose_any _ _ lB lT w7 (rB7.below b7) rT (by decide) (by decide) (l_in (.inr (.inl rfl))) (l_in (.inr (.inr rfl)))
  rw [live_co] at hC
  go_wp2_with fail
  refine hC.mono ?_
  rintro e w8 ⟨uC, rfl, oC, b8⟩
  clear hC
  have hV := invert_any ⟨#[97, 98]⟩ _ lA w8 (by decide) ((rA7.below b7).below b8) (by decide) (l_in (.inl rfl))
  rw [live_inv] at hV
  go_wp2_with fail
  refine hV.mono ?_
  rintro e w9 ⟨uV, rfl, oV, b9⟩
  clear hV
  have rV := rdd_own oV
  go_wp2_with fail
  refine (lkeep_any _ _).mono ?_
  rintro e w10 ⟨rfl, b10⟩
  go_wp2_with fail
  refine (lins_any _ _).mono ?_
  rintro e w11 ⟨rfl, b11⟩
  go_wp2_with fail
  refine (lkeep_any _ _).mono ?_
  rintro e w12 ⟨rfl, b12⟩
  have rT12 := (((((rT.below b8).below b9).below b10).below b11).below b12).below (grow1 w12 (.cells (ocs lT).toArray 35))
  have hS := same_true _ _ lT _ (by decide) rT12 (lit_rdd lT w12)
  go_wp2_with fail
  refine hS.mono ?_
  rintro e w13 ⟨rfl, b13⟩
  clear hS
  go_wp2_with fail
  refine (lkeep_any _ _).mono ?_
  rintro e w14 ⟨rfl, b14⟩
  go_wp2_with fail
  refine (lins_any _ _).mono ?_
  rintro e w15 ⟨rfl, b15⟩
  go_wp2_with fail
  refine (lkeep_any _ _).mono ?_
  rintro e w16 ⟨rfl, b16⟩
  have rC16 := ((((((((rdd_own oC).below b9).below b10).below b11).below b12).below (grow1 w12 (.cells (ocs lT).toArray 35))).below b13).below b14).below b15
  have rC17 := (rC16.below b16).below (grow1 w16 (.cells (ocs lC).toArray 35))
  have hS := same_true _ _ lC _ (by decide) rC17 (lit_rdd lC w16)
  go_wp2_with fail
  refine hS.mono ?_
  rintro e w17 ⟨rfl, b17⟩
  clear hS
  have rV17 := (((((((((rV.below b10).below b11).below b12).below (grow1 w12 (.cells (ocs lT).toArray 35))).below b13).below b14).below b15).below b16).below (grow1 w16 (.cells (ocs lC).toArray 35))).below b17
  obtain ⟨ao, cp, rfl, _, hcs⟩ := rV17
  obtain ⟨b, off, rfl, _, c0, _⟩ := hcs 1 ⟨3, 1, ⟨#[]⟩⟩ rfl
  have e3 : lV.length = 3 := rfl
  rw [e3]
  clear hcs
  go_wp2_with fail
  go_ret
  refine ⟨rfl, ?_⟩
  have q1 := chain (chain (chain (chain (chain (chain (chain (chain b1 b2) b3) (grow1 w3 _)) b4) b5) b6) (grow1 w6 _)) b7
  have q2 := chain (chain (chain (chain (chain q1 b8) b9) b10) b11) b12
  exact chain (chain (chain (chain (chain (chain (chain q2 (grow1 w12 _)) b13) b14) b15) b16) (grow1 w16 _)) b17
end Go.Proofs.Ytgabanndjiegdab
