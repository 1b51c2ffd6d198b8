/-
  The delta from one row of code points to another; the contract of along.
-/
import Derived.Test.YtfhbkaiioiihjaaDoorDiC
import Derived.Test.YtfhbkaiioiihjaaDoorOtA
import Derived.BigQuiet
namespace Go.Proofs.YtfhbkaiioiihjaaDoor
open Go.ChangeShapes Go.WideShapes Go.ChangeAt Go.RowKit Go.PlainAid

/-- The operation of one code point. -/
def uop : U → OpD
  | .K => ⟨1, 1, ⟨#[]⟩⟩
  | .R => ⟨3, 1, ⟨#[]⟩⟩
  | .I z => ⟨2, 0, mk (ptB z.toNat)⟩
/-- The word from one row to another. -/
def alU : List Int → List Int → List U
  | [], [] => []
  | [], y :: b => .I y :: alU [] b
  | _ :: a, [] => .R :: alU a []
  | x :: a, y :: b => if x = y then .K :: alU a b else if lc (x :: a) b ≤ lc a (y :: b) then .R :: alU a (y :: b) else .I y :: alU (x :: a) b
termination_by a b => a.length + b.length
theorem alU_same (x : Int) (a b : List Int) : alU (x :: a) (x :: b) = .K :: alU a b := by rw [alU]; simp
theorem alU_gone {x y : Int} {a b : List Int} (h : x ≠ y) (c : lc (x :: a) b ≤ lc a (y :: b)) : alU (x :: a) (y :: b) = .R :: alU a (y :: b) := by rw [alU]; simp [h, c]
theorem alU_put {x y : Int} {a b : List Int} (h : x ≠ y) (c : ¬ lc (x :: a) b ≤ lc a (y :: b)) : alU (x :: a) (y :: b) = .I y :: alU (x :: a) b := by rw [alU]; simp [h, c]

/-- along on its way. -/
structure Ag (w W : World) (A T : List Int) (i j : Nat) (v : Value) (L : List U) : Prop where
  own : W.ownsRow w.heap.size 60 3 v L.length (ocs (L.map uop))
  bel : Below w.heap.size w W
  wd : alU A T = L ++ alU (A.drop i) (T.drop j)
  li : L.length ≤ i + j
  hi : i ≤ A.length
  hj : j ≤ T.length
theorem Ag.below {w W W' : World} {A T : List Int} {i j : Nat} {v : Value} {L : List U} (h : Ag w W A T i j v L) (hb : Below W.heap.size W W') : Ag w W' A T i j v L :=
  ⟨own_belowG h.own hb, chain h.bel hb, h.wd, h.li, h.hi, h.hj⟩
theorem Ag.app {w W W' : World} {A T : List Int} {i j i' j' : Nat} {v v' : Value} {L : List U} {x : Obj} (u : U) (h : Ag w W A T i j v L)
    (ho : W'.ownsRow w.heap.size 60 3 v' (L.length + 1) (ocs (L.map uop) ++ [Value.int .i64 (uop u).k, .int .i64 (uop u).n, .string (uop u).t])) (hg : (W.alloc x).grownBy W' v.ownBlock)
    (hw : alU (A.drop i) (T.drop j) = u :: alU (A.drop i') (T.drop j')) (hi : i' ≤ A.length) (hj : j' ≤ T.length) (hs : i + j + 1 ≤ i' + j') : Ag w W' A T i' j' v' (L ++ [u]) := by
  have hsz := h.bel.size
  refine ⟨?_, ?_, by rw [h.wd, hw]; simp, by rw [List.length_append]; have := h.li; simp; omega, hi, hj⟩
  · have := own_op (L := L.map uop) (o := uop u) ho (by rw [List.length_map])
    rw [List.length_append, List.length_map] at this
    rw [List.length_append, List.map_append]
    exact this
  · exact (h.bel.alloc hsz x).grown hg (by simp; omega) (fun k hk => (h.own.lt k hk).1)

set_option maxRecDepth 20000 in
set_option maxHeartbeats 1000000 in
theorem along_any {w : World} {vA vT : Value} {A T : List Int} {g : Nat} (hA : RdU w vA A) (hT : RdU w vT T) (mA : A.length ≤ 1000) (mT : T.length ≤ 1000) (hg : Tb w g A T) (pT : ∀ z ∈ T, szI z ≠ 0) :
    Calls Tryd.prog 18 #[vA, vT, .slice (some ⟨g, 0, none⟩) (A.length + 1) (A.length + 1)] w fun e w' => ∃ u, e = .returned u ∧ w'.ownsRow w.heap.size 60 3 u (alU A T).length (ocs ((alU A T).map uop)) ∧ Below w.heap.size w w' := by
  obtain ⟨i0, hin, hz0, hz1, hz2⟩ := info_parts Tryd.infoOp
  obtain ⟨ao, cp, rfl, hc⟩ := hA
  obtain ⟨bo, bp, rfl, hd⟩ := hT
  obtain ⟨F, hF, hl⟩ := hg
  have hgl : g < w.heap.size := heap_lt hF
  have mA' : (A.length : Int) ≤ 1000 := by omega
  have mT' : (T.length : Int) ≤ 1000 := by omega
  have h0 : Ag w w A T 0 0 (.slice none 0 0) [] := ⟨World.ownsRow_nil _ _ _ _, Below.refl _ _, rfl, Nat.le_refl _, Nat.zero_le _, Nat.zero_le _⟩
  go_enter Tryd.func18, Tryd.ntmps18
  go_wp2_with fail
  go_loopw [7, 8, 9] (fun d p q wr => ∃ (i j : Nat) (L : List U), p = .int .i64 (i : Int) ∧ q = .int .i64 (j : Int) ∧ Ag w wr A T i j d L) (fun _ p q _ => A.length + T.length - ((Go.RowKit.intOf p).toNat + (Go.RowKit.intOf q).toNat))
  case atStart => exact ⟨0, 0, [], rfl, rfl, h0⟩
  case round =>
    obtain ⟨i, j, L, rfl, rfl, hr⟩ := hrel
    clear h0
    obtain ⟨lo, lp, rfl⟩ := own_form hr.own
    have hi := hr.hi
    have hj := hr.hj
    have hli := hr.li
    by_cases ci : i < A.length
    · have ci' : (i : Int) < (A.length : Int) := by omega
      obtain ⟨b, off, rfl, hlt, cA⟩ := hc i A[i] (by simp [ci])
      have cA : wr.cell? ⟨b, off + i, none⟩ = some (.int .i32 A[i]) := by rw [hr.bel.cell (p := ⟨b, _, none⟩) hlt]; exact cA
      by_cases cj : j < T.length
      · have cj' : (j : Int) < (T.length : Int) := by omega
        obtain ⟨b2, off2, rfl, hlt2, cB⟩ := hd j T[j] (by simp [cj])
        have cB : wr.cell? ⟨b2, off2 + j, none⟩ = some (.int .i32 T[j]) := by rw [hr.bel.cell (p := ⟨b2, _, none⟩) hlt2]; exact cB
        have n1 : ¬ j = T.length := by omega
        have n2 : ¬ (j : Int) = (T.length : Int) := by omega
        have n3 : (j == T.length) = false := by simpa using n1
        have n4 : decide (j = T.length) = false := by simpa using n1
        have n5 : ((j : Int) == (T.length : Int)) = false := by simpa using n2
        have dA := drop_at ci
        have dT := drop_at cj
        have henc := enc_rune (pT T[j] (by simp))
        clear hc hd pT
        by_cases e : A[i] = T[j]
        · have HW : Hid (alU (A.drop i) (T.drop j) = .K :: alU (A.drop (i + 1)) (T.drop (j + 1))) := by show _ = _; rw [dA, dT, e, alU_same]
          clear dA dT hl hF henc
          rw [e] at cA
          generalize T[j] = y at *
          clear e
          go_upto_region 7 with fail
          go_quiet (fail)
          have hD : Below wr.heap.size wr (wr.drewN nq) := below_drewN (Below.refl _ _) _
          have hr := hr.below hD
          clear hD
          generalize wr.drewN nq = wr at *
          go_wp2_with (at_builtin; refine wpList_append_own _ rfl (.tmp 55) (.tmp 57) 22 rfl w.heap.size 60 i0 (.agg #[.int .i64 0, .int .i64 0, .string ⟨#[]⟩]) 3 32 Tryd.underlying22 hin hz0 hz1 hz2 rfl (by decide) _ L.length _ rfl (hr.own.alloc _) ⟨_, 0, none⟩ 1 1 [.int .i64 1, .int .i64 1, .string ⟨#[]⟩] rfl rfl (many_new _ _ _) (three_one _ _ _) (by unfold maxLen; omega) (by omega) (by have := hr.bel.size; simp; omega) ?_; intro v2 w2 ho2 hg2 _; have hM2 := hr.app .K ho2 hg2 HW.out (by omega) (by omega) (by omega); clear ho2 hg2)
          exact ⟨⟨i + 1, j + 1, L ++ [.K], by go_num, by go_num, hM2⟩, by simp only [Go.RowKit.intOf]; omega⟩
        · have f1 := hl (i + 1) j (by omega) (by omega)
          have f2 := hl i (j + 1) (by omega) (by omega)
          have q1 : wr.cell? ⟨g, (i + 1) * 1001 + j, none⟩ = some (.int .u16 (F ((i + 1) * 1001 + j) : Int)) := by rw [hr.bel.cell (p := ⟨g, _, none⟩) hgl]; exact hF.cell _ (row_lt (n := T.length) (by omega) (by omega) (by omega))
          have q2 : wr.cell? ⟨g, i * 1001 + (j + 1), none⟩ = some (.int .u16 (F (i * 1001 + (j + 1)) : Int)) := by rw [hr.bel.cell (p := ⟨g, _, none⟩) hgl]; exact hF.cell _ (row_lt (n := T.length) (by omega) (by omega) (by omega))
          rw [f1] at q1
          rw [f2] at q2
          have e2 : (A[i] == T[j]) = false := by simpa using e
          by_cases c : lc (A.drop i) (T.drop (j + 1)) ≤ lc (A.drop (i + 1)) (T.drop j)
          · have HW : Hid (alU (A.drop i) (T.drop j) = .R :: alU (A.drop (i + 1)) (T.drop j)) := by
              show _ = _
              rw [dA, dT] at c ⊢
              exact alU_gone e c
            clear dA dT f1 f2 hl hF henc
            generalize lc (A.drop i) (T.drop (j + 1)) = u2 at *
            generalize lc (A.drop (i + 1)) (T.drop j) = u1 at *
            have c' : (u2 : Int) ≤ (u1 : Int) := by omega
            generalize A[i] = x at *
            generalize T[j] = y at *
            go_upto_region 7 with fail
            go_quiet (fail)
            have hD : Below wr.heap.size wr (wr.drewN nq) := below_drewN (Below.refl _ _) _
            have q1 := (hD.cell (p := ⟨g, _, none⟩) (Nat.lt_of_lt_of_le hgl hr.bel.size)).trans q1
            have q2 := (hD.cell (p := ⟨g, _, none⟩) (Nat.lt_of_lt_of_le hgl hr.bel.size)).trans q2
            have hr := hr.below hD
            clear hD
            generalize wr.drewN nq = wr at *
            clear cA cB
            go_upto_region 10 with fail
            go_quiet (fail)
            have hD : Below wr.heap.size wr (wr.drewN nq) := below_drewN (Below.refl _ _) _
            have hr := hr.below hD
            clear hD
            generalize wr.drewN nq = wr at *
            go_wp2_with (at_builtin; refine wpList_append_own _ rfl (.tmp 88) (.tmp 90) 22 rfl w.heap.size 60 i0 (.agg #[.int .i64 0, .int .i64 0, .string ⟨#[]⟩]) 3 32 Tryd.underlying22 hin hz0 hz1 hz2 rfl (by decide) _ L.length _ rfl (hr.own.alloc _) ⟨_, 0, none⟩ 1 1 [.int .i64 3, .int .i64 1, .string ⟨#[]⟩] rfl rfl (many_new _ _ _) (three_one _ _ _) (by unfold maxLen; omega) (by omega) (by have := hr.bel.size; simp; omega) ?_; intro v2 w2 ho2 hg2 _; have hM2 := hr.app .R ho2 hg2 HW.out (by omega) (by omega) (by omega); clear ho2 hg2)
            exact ⟨⟨i + 1, j, L ++ [.R], by go_num, by go_num, hM2⟩, by simp only [Go.RowKit.intOf]; omega⟩
          · have HW : Hid (alU (A.drop i) (T.drop j) = .I T[j] :: alU (A.drop i) (T.drop (j + 1))) := by
              show _ = _
              rw [dT] at c ⊢
              rw [dA] at c ⊢
              exact alU_put e c
            clear dA dT f1 f2 hl hF
            generalize lc (A.drop i) (T.drop (j + 1)) = u2 at *
            generalize lc (A.drop (i + 1)) (T.drop j) = u1 at *
            have c' : ¬ (u2 : Int) ≤ (u1 : Int) := by omega
            generalize A[i] = x at *
            generalize T[j] = y at *
            go_upto_region 7 with fail
            go_quiet (fail)
            have hD : Below wr.heap.size wr (wr.drewN nq) := below_drewN (Below.refl _ _) _
            have q1 := (hD.cell (p := ⟨g, _, none⟩) (Nat.lt_of_lt_of_le hgl hr.bel.size)).trans q1
            have q2 := (hD.cell (p := ⟨g, _, none⟩) (Nat.lt_of_lt_of_le hgl hr.bel.size)).trans q2
            have cB := (hD.cell (p := ⟨b2, _, none⟩) (Nat.lt_of_lt_of_le hlt2 hr.bel.size)).trans cB
            have hr := hr.below hD
            clear hD
            generalize wr.drewN nq = wr at *
            clear cA
            go_upto_region 10 with fail
            go_quiet (fail)
            have hD : Below wr.heap.size wr (wr.drewN nq) := below_drewN (Below.refl _ _) _
            have cB := (hD.cell (p := ⟨b2, _, none⟩) (Nat.lt_of_lt_of_le hlt2 hr.bel.size)).trans cB
            have hr := hr.below hD
            clear hD
            generalize wr.drewN nq = wr at *
            go_wp2_with (at_builtin; refine wpList_append_own _ rfl (.tmp 31) (.tmp 38) 22 rfl w.heap.size 60 i0 (.agg #[.int .i64 0, .int .i64 0, .string ⟨#[]⟩]) 3 32 Tryd.underlying22 hin hz0 hz1 hz2 rfl (by decide) _ L.length _ rfl (hr.own.alloc _) ⟨_, 0, none⟩ 1 1 [.int .i64 2, .int .i64 0, .string (mk (ptB (y).toNat))] rfl rfl (many_new _ _ _) (three_one _ _ _) (by unfold maxLen; omega) (by omega) (by have := hr.bel.size; simp; omega) ?_; intro v2 w2 ho2 hg2 _; have hM2 := hr.app (.I y) ho2 hg2 HW.out (by omega) (by omega) (by omega); clear ho2 hg2)
            exact ⟨⟨i, j + 1, L ++ [.I y], by go_num, by go_num, hM2⟩, by simp only [Go.RowKit.intOf]; omega⟩
      · obtain rfl : j = T.length := by omega
        have HW : Hid (alU (A.drop i) (T.drop T.length) = .R :: alU (A.drop (i + 1)) (T.drop T.length)) := by show _ = _; rw [List.drop_length, drop_at ci, alU]
        clear hc hd pT hl hF cA
        go_upto_region 7 with fail
        go_quiet (fail)
        have hD : Below wr.heap.size wr (wr.drewN nq) := below_drewN (Below.refl _ _) _
        have hr := hr.below hD
        clear hD
        generalize wr.drewN nq = wr at *
        go_upto_region 10 with fail
        go_quiet (fail)
        have hD : Below wr.heap.size wr (wr.drewN nq) := below_drewN (Below.refl _ _) _
        have hr := hr.below hD
        clear hD
        generalize wr.drewN nq = wr at *
        go_wp2_with (at_builtin; refine wpList_append_own _ rfl (.tmp 88) (.tmp 90) 22 rfl w.heap.size 60 i0 (.agg #[.int .i64 0, .int .i64 0, .string ⟨#[]⟩]) 3 32 Tryd.underlying22 hin hz0 hz1 hz2 rfl (by decide) _ L.length _ rfl (hr.own.alloc _) ⟨_, 0, none⟩ 1 1 [.int .i64 3, .int .i64 1, .string ⟨#[]⟩] rfl rfl (many_new _ _ _) (three_one _ _ _) (by unfold maxLen; omega) (by omega) (by have := hr.bel.size; simp; omega) ?_; intro v2 w2 ho2 hg2 _; have hM2 := hr.app .R ho2 hg2 HW.out (by omega) (by omega) (by omega); clear ho2 hg2)
        exact ⟨⟨i + 1, T.length, L ++ [.R], by go_num, by go_num, hM2⟩, by simp only [Go.RowKit.intOf]; omega⟩
    · obtain rfl : i = A.length := by omega
      by_cases cj : j < T.length
      · have cj' : (j : Int) < (T.length : Int) := by omega
        obtain ⟨b2, off2, rfl, hlt2, cB⟩ := hd j T[j] (by simp [cj])
        have cB : wr.cell? ⟨b2, off2 + j, none⟩ = some (.int .i32 T[j]) := by rw [hr.bel.cell (p := ⟨b2, _, none⟩) hlt2]; exact cB
        have n1 : ¬ j = T.length := by omega
        have n2 : ¬ (j : Int) = (T.length : Int) := by omega
        have n3 : (j == T.length) = false := by simpa using n1
        have n4 : decide (j = T.length) = false := by simpa using n1
        have n5 : ((j : Int) == (T.length : Int)) = false := by simpa using n2
        have henc := enc_rune (pT T[j] (by simp))
        have HW : Hid (alU (A.drop A.length) (T.drop j) = .I T[j] :: alU (A.drop A.length) (T.drop (j + 1))) := by show _ = _; rw [List.drop_length, drop_at cj, alU]
        clear hc hd pT hl hF
        generalize T[j] = y at *
        go_upto_region 7 with fail
        go_quiet (fail)
        have hD : Below wr.heap.size wr (wr.drewN nq) := below_drewN (Below.refl _ _) _
        have cB := (hD.cell (p := ⟨b2, _, none⟩) (Nat.lt_of_lt_of_le hlt2 hr.bel.size)).trans cB
        have hr := hr.below hD
        clear hD
        generalize wr.drewN nq = wr at *
        go_upto_region 10 with fail
        go_quiet (fail)
        have hD : Below wr.heap.size wr (wr.drewN nq) := below_drewN (Below.refl _ _) _
        have cB := (hD.cell (p := ⟨b2, _, none⟩) (Nat.lt_of_lt_of_le hlt2 hr.bel.size)).trans cB
        have hr := hr.below hD
        clear hD
        generalize wr.drewN nq = wr at *
        go_wp2_with (at_builtin; refine wpList_append_own _ rfl (.tmp 31) (.tmp 38) 22 rfl w.heap.size 60 i0 (.agg #[.int .i64 0, .int .i64 0, .string ⟨#[]⟩]) 3 32 Tryd.underlying22 hin hz0 hz1 hz2 rfl (by decide) _ L.length _ rfl (hr.own.alloc _) ⟨_, 0, none⟩ 1 1 [.int .i64 2, .int .i64 0, .string (mk (ptB (y).toNat))] rfl rfl (many_new _ _ _) (three_one _ _ _) (by unfold maxLen; omega) (by omega) (by have := hr.bel.size; simp; omega) ?_; intro v2 w2 ho2 hg2 _; have hM2 := hr.app (.I y) ho2 hg2 HW.out (by omega) (by omega) (by omega); clear ho2 hg2)
        exact ⟨⟨A.length, j + 1, L ++ [.I y], by go_num, by go_num, hM2⟩, by simp only [Go.RowKit.intOf]; omega⟩
      · obtain rfl : j = T.length := by omega
        have hw := hr.wd
        rw [List.drop_length, List.drop_length, alU, List.append_nil] at hw
        subst hw
        have HR : Hid _ := And.intro hr.own hr.bel
        clear hc hd pT hl hF hr
        go_wp2_with fail
        go_ret
        exact ⟨_, rfl, HR.out.1, HR.out.2⟩
end Go.Proofs.YtfhbkaiioiihjaaDoor
