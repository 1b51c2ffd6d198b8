/-
  The program's pointsOf.
-/
import Derived.Test.YtjimolafoihnpaaTrB
namespace Go.Proofs.Ytjimolafoihnpaa.tc
open Go.Maps Go.ChangeShapes Go.WideShapes Go.ChangeAt Go.RowKit Go.PlainAid

/-- The code points that a run gives. -/
def pq (r : RunD) : List Int := if fOk r = true then pts r.t else []
theorem atR_pq (r : RunD) : atR r = atG r.c r.q r.f (pq r) := by
  unfold atR pq
  split
  · rfl
  · rfl
theorem pts_size (t : ByteArray) : (pts t).length ≤ t.size := by
  unfold pts
  rw [ptL_length]
  have := (cpl_le t).2
  omega
set_option maxRecDepth 20000 in
set_option maxHeartbeats 1000000 in
theorem pointsOf_any (r : RunD) (w : World) (hs : r.t.size ≤ 1048576) :
    Calls Try.prog 26 #[.agg #[.int .i64 r.c, .int .i64 r.q, .int .i64 r.f, .string r.t]] w fun e w' => ∃ v, e = .returned v ∧ w'.ownsRow w.heap.size 3 1 v (pq r).length (iv (pq r)) ∧ Below w.heap.size w w' := by
  have hal := alloc_b w (.cells #[.int .i64 r.c, .int .i64 r.q, .int .i64 r.f, .string r.t] 37)
  by_cases h0 : r.f < 0
  · have HP : Hid (pq r = []) := by
      show _ = _
      rw [pq, if_neg (by simp [fOk]; omega)]
    have hd : decide (r.f < 0) = true := decide_eq_true h0
    go_enter Try.func26, Try.ntmps26
    go_wp2_with fail
    go_ret
    exact ⟨_, rfl, by rw [HP.out]; exact World.ownsRow_nil _ _ _ _, hal⟩
  · have hd : decide (r.f < 0) = false := decide_eq_false h0
    by_cases h1 : 1000000 < r.f
    · have HP : Hid (pq r = []) := by
        show _ = _
        rw [pq, if_neg (by simp [fOk]; omega)]
      have hd1 : decide (1000000 < r.f) = true := decide_eq_true h1
      go_enter Try.func26, Try.ntmps26
      go_wp2_with fail
      go_ret
      exact ⟨_, rfl, by rw [HP.out]; exact World.ownsRow_nil _ _ _ _, hal⟩
    · have hd1 : decide (1000000 < r.f) = false := decide_eq_false h1
      have HP : Hid (pq r = pts r.t) := by
        show _ = _
        rw [pq, if_pos (by simp [fOk]; omega)]
      rcases valid_or_bad r.t with ⟨n, hv⟩ | ⟨k, hb⟩
      · have e1 := cpl_ok hv
        have HE : Hid (pts r.t = ptL r.t n) := by show _ = _; rw [pts, e1, Int.toNat_natCast]
        have HL : Hid ((ptL r.t n).length = n) := ptL_length _ _
        have c1 := points_ok r.t n (w.alloc (.cells #[.int .i64 r.c, .int .i64 r.q, .int .i64 r.f, .string r.t] 37)) (by omega) hv
        clear e1 hv
        go_enter Try.func26, Try.ntmps26
        go_wp2_with fail
        refine c1.mono ?_
        rintro e w2 ⟨v, rfl, ho, hb2⟩
        obtain ⟨ao, cp, rfl⟩ := own_form ho
        clear c1
        go_wp2_with fail
        go_ret
        refine ⟨_, rfl, ?_, chain hal hb2⟩
        rw [HP.out, HE.out, HL.out]
        exact own_mono ho (by simp)
      · have e1 := cpl_bad hb
        have HE : Hid (pts r.t = []) := by show _ = _; rw [pts, e1]; rfl
        have c1 := points_bad r.t k (w.alloc (.cells #[.int .i64 r.c, .int .i64 r.q, .int .i64 r.f, .string r.t] 37)) (by unfold maxLen; omega) hb
        clear e1 hb
        go_enter Try.func26, Try.ntmps26
        go_wp2_with fail
        refine c1.mono ?_
        rintro e w2 ⟨rfl, rfl⟩
        clear c1
        go_wp2_with fail
        go_ret
        exact ⟨_, rfl, by rw [HP.out, HE.out]; exact World.ownsRow_nil _ _ _ _, hal⟩
end Go.Proofs.Ytjimolafoihnpaa.tc
