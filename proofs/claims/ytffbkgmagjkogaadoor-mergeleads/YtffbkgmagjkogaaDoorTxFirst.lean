/-
  The contract of the reference's first: it gives what next gives.
-/
import Derived.Test.YtffbkgmagjkogaaDoorTxFirstP
import Derived.Deep.QuietTactic
import Derived.BigQuiet
import Derived.WalkSmall
namespace Go.Proofs.YtffbkgmagjkogaaDoor
open Go.ChangeShapes Go.WideShapes Go.ChangeAt Go.RowKit Go.PlainAid

set_option maxRecDepth 20000 in
set_option maxHeartbeats 4000000 in
theorem refFirst_four (s : ByteArray) (w : World) (hs : s.size ≤ 1048576) (h0 : 0 < s.size) (c0 : 240 ≤ bt s 0) (c1 : bt s 0 < 248) :
    Calls Tryd.prog 68 #[.string s] w fun e w' => e = .returned (.tuple #[.int .i64 (nx s 0).1, .int .i64 (nx s 0).2]) ∧ Below w.heap.size w w' := by
  have hb := get_bt s
  have m0 := bt_nonneg s 0
  have n0 := bt_le s 0
  have m1 := bt_nonneg s 1
  have n1 := bt_le s 1
  have m2 := bt_nonneg s 2
  have n2 := bt_le s 2
  have m3 := bt_nonneg s 3
  have n3 := bt_le s 3
  have eN : rfN (bt s 0) = 4 := by rw [rfN, if_pos (by omega)]
  have eV : rfV s = (((bt s 0 - 240) * 64 + bt s 1 % 64) * 64 + bt s 2 % 64) * 64 + bt s 3 % 64 := by rw [rfV, if_pos (by omega)]
  by_cases hsz : s.size < 4
  · have HR : Hid (nx s 0 = (0, 0)) := rf_no (fun h => by rw [eN] at h; omega)
    go_enter Tryd.func68, Tryd.ntmps68
    go_wp2
    go_ret2
    exact ⟨by rw [HR.out]; rfl, Below.refl _ _⟩
  · have hge : 4 ≤ s.size := by omega
    have hsl : ∀ W, (Instr.slice 9 (.string s) none (some (.int .i64 (4 : Int))) none).run Tryd.prog W = .ok (.string (s.extract 0 4)) W := fun W => slice_front s 4 W hge
    by_cases hok : szI (rfV s) = 0
    · have HR : Hid (nx s 0 = (0, 0)) := rf_no (fun h => h.2.1 hok)
      have hpt : ∀ x : Int, x = rfV s → ∀ W, Calls Tryd.prog 65 #[.int .i64 x] W fun e w' => e = .returned (.bool false) ∧ w' = W := fun x hx W => by
        subst hx
        have := refPoint_any (rfV s) W
        rw [show decide (szI (rfV s) ≠ 0) = false by simp [hok]] at this
        exact this.mono (fun _ _ h => ⟨h.1, h.2.symm⟩)
      rw [eV] at hpt
      clear eN eV hok
      go_enter Tryd.func68, Tryd.ntmps68
      go_wp2
      go_rounds 4
      go_quiet ((go_at_call 65; exact Calls.quiet_of_same (hpt _ (by omega) _)))
      go_wp2
      go_ret2
      exact ⟨by rw [HR.out]; rfl, below_drewN (Below.refl _ _) _⟩
    · have hz := szI_nonneg hok
      have hpt : ∀ x : Int, x = rfV s → ∀ W, Calls Tryd.prog 65 #[.int .i64 x] W fun e w' => e = .returned (.bool true) ∧ W = w' := fun x hx W => by
        subst hx
        have := refPoint_any (rfV s) W
        rw [show decide (szI (rfV s) ≠ 0) = true by simp [hok]] at this
        exact this
      have hby : ∀ x : Int, x = rfV s → ∀ W, Calls Tryd.prog 66 #[.int .i64 x] W fun e w' => e = .returned (.string (mk (ptB (rfV s).toNat))) ∧ Below W.heap.size W w' := fun x hx W => by
        subst hx
        have := refBytes_any (rfV s).toNat W (by omega)
        rw [show (((rfV s).toNat : Nat) : Int) = rfV s by omega] at this
        exact this
      by_cases he : mk (ptB (rfV s).toNat) = s.extract 0 4
      · have HR : Hid (nx s 0 = (rfV s, (4 : Int))) := by
          show _ = _
          have := rf_yes (s := s) (by omega) hok (by rw [eN]; exact he)
          rw [this, eN]
          rfl
        rw [he] at hby
        generalize s.extract 0 4 = T at hsl hby
        clear eN he hok
        have HV : Hid (rfV s = (((bt s 0 - 240) * 64 + bt s 1 % 64) * 64 + bt s 2 % 64) * 64 + bt s 3 % 64) := eV
        rw [eV] at hpt hby
        clear eV hz
        go_enter Tryd.func68, Tryd.ntmps68
        go_wp2
        go_rounds 4
        go_region_held3 (fun _ => True) (trivial) (first | (go_at_call 65; refine (hpt _ (by omega) _).mono ?_; rintro e w1 ⟨rfl, rfl⟩) | (go_at_call 66; refine (hby _ (by omega) _).mono ?_; rintro e w2 ⟨rfl, hb2⟩))
        all_goals go_wp2
        all_goals go_ret2
        all_goals exact ⟨by rw [HR.out, HV.out]; rfl, Below.trans (Below.refl _ _).drew hb2⟩
      · have HR : Hid (nx s 0 = (0, 0)) := rf_no (fun h => he (by rw [eN] at h; exact h.2.2))
        have hne := list_ne he
        have hne2 : ((mk (ptB (rfV s).toNat)).toList == (s.extract 0 4).toList) = false := by simpa using hne
        generalize s.extract 0 4 = T at hsl hne hne2
        generalize mk (ptB (rfV s).toNat) = F at hby hne hne2
        rw [eV] at hpt hby
        clear eN eV hz hok he
        go_enter Tryd.func68, Tryd.ntmps68
        go_wp2
        go_rounds 4
        go_region_held3 (fun _ => True) (trivial) (first | (go_at_call 65; refine (hpt _ (by omega) _).mono ?_; rintro e w1 ⟨rfl, rfl⟩) | (go_at_call 66; refine (hby _ (by omega) _).mono ?_; rintro e w2 ⟨rfl, hb2⟩))
        all_goals go_wp2
        all_goals go_ret2
        all_goals exact ⟨by rw [HR.out]; rfl, Below.trans (Below.refl _ _).drew hb2⟩

set_option maxRecDepth 20000 in
set_option maxHeartbeats 4000000 in
theorem refFirst_three (s : ByteArray) (w : World) (hs : s.size ≤ 1048576) (h0 : 0 < s.size) (c0 : 224 ≤ bt s 0) (c1 : bt s 0 < 240) :
    Calls Tryd.prog 68 #[.string s] w fun e w' => e = .returned (.tuple #[.int .i64 (nx s 0).1, .int .i64 (nx s 0).2]) ∧ Below w.heap.size w w' := by
  have hb := get_bt s
  have m0 := bt_nonneg s 0
  have n0 := bt_le s 0
  have m1 := bt_nonneg s 1
  have n1 := bt_le s 1
  have m2 := bt_nonneg s 2
  have n2 := bt_le s 2
  have eN : rfN (bt s 0) = 3 := by rw [rfN, if_neg (by omega), if_pos (by omega)]
  have eV : rfV s = ((bt s 0 - 224) * 64 + bt s 1 % 64) * 64 + bt s 2 % 64 := by rw [rfV, if_neg (by omega), if_pos (by omega)]
  by_cases hsz : s.size < 3
  · have HR : Hid (nx s 0 = (0, 0)) := rf_no (fun h => by rw [eN] at h; omega)
    go_enter Tryd.func68, Tryd.ntmps68
    go_wp2
    go_ret2
    exact ⟨by rw [HR.out]; rfl, Below.refl _ _⟩
  · have hge : 3 ≤ s.size := by omega
    have hsl : ∀ W, (Instr.slice 9 (.string s) none (some (.int .i64 (3 : Int))) none).run Tryd.prog W = .ok (.string (s.extract 0 3)) W := fun W => slice_front s 3 W hge
    by_cases hok : szI (rfV s) = 0
    · have HR : Hid (nx s 0 = (0, 0)) := rf_no (fun h => h.2.1 hok)
      have hpt : ∀ x : Int, x = rfV s → ∀ W, Calls Tryd.prog 65 #[.int .i64 x] W fun e w' => e = .returned (.bool false) ∧ w' = W := fun x hx W => by
        subst hx
        have := refPoint_any (rfV s) W
        rw [show decide (szI (rfV s) ≠ 0) = false by simp [hok]] at this
        exact this.mono (fun _ _ h => ⟨h.1, h.2.symm⟩)
      rw [eV] at hpt
      clear eN eV hok
      go_enter Tryd.func68, Tryd.ntmps68
      go_wp2
      go_rounds 3
      go_quiet ((go_at_call 65; exact Calls.quiet_of_same (hpt _ (by omega) _)))
      go_wp2
      go_ret2
      exact ⟨by rw [HR.out]; rfl, below_drewN (Below.refl _ _) _⟩
    · have hz := szI_nonneg hok
      have hpt : ∀ x : Int, x = rfV s → ∀ W, Calls Tryd.prog 65 #[.int .i64 x] W fun e w' => e = .returned (.bool true) ∧ W = w' := fun x hx W => by
        subst hx
        have := refPoint_any (rfV s) W
        rw [show decide (szI (rfV s) ≠ 0) = true by simp [hok]] at this
        exact this
      have hby : ∀ x : Int, x = rfV s → ∀ W, Calls Tryd.prog 66 #[.int .i64 x] W fun e w' => e = .returned (.string (mk (ptB (rfV s).toNat))) ∧ Below W.heap.size W w' := fun x hx W => by
        subst hx
        have := refBytes_any (rfV s).toNat W (by omega)
        rw [show (((rfV s).toNat : Nat) : Int) = rfV s by omega] at this
        exact this
      by_cases he : mk (ptB (rfV s).toNat) = s.extract 0 3
      · have HR : Hid (nx s 0 = (rfV s, (3 : Int))) := by
          show _ = _
          have := rf_yes (s := s) (by omega) hok (by rw [eN]; exact he)
          rw [this, eN]
          rfl
        rw [he] at hby
        generalize s.extract 0 3 = T at hsl hby
        clear eN he hok
        have HV : Hid (rfV s = ((bt s 0 - 224) * 64 + bt s 1 % 64) * 64 + bt s 2 % 64) := eV
        rw [eV] at hpt hby
        clear eV hz
        go_enter Tryd.func68, Tryd.ntmps68
        go_wp2
        go_rounds 3
        go_region_held3 (fun _ => True) (trivial) (first | (go_at_call 65; refine (hpt _ (by omega) _).mono ?_; rintro e w1 ⟨rfl, rfl⟩) | (go_at_call 66; refine (hby _ (by omega) _).mono ?_; rintro e w2 ⟨rfl, hb2⟩))
        all_goals go_wp2
        all_goals go_ret2
        all_goals exact ⟨by rw [HR.out, HV.out]; rfl, Below.trans (Below.refl _ _).drew hb2⟩
      · have HR : Hid (nx s 0 = (0, 0)) := rf_no (fun h => he (by rw [eN] at h; exact h.2.2))
        have hne := list_ne he
        have hne2 : ((mk (ptB (rfV s).toNat)).toList == (s.extract 0 3).toList) = false := by simpa using hne
        generalize s.extract 0 3 = T at hsl hne hne2
        generalize mk (ptB (rfV s).toNat) = F at hby hne hne2
        rw [eV] at hpt hby
        clear eN eV hz hok he
        go_enter Tryd.func68, Tryd.ntmps68
        go_wp2
        go_rounds 3
        go_region_held3 (fun _ => True) (trivial) (first | (go_at_call 65; refine (hpt _ (by omega) _).mono ?_; rintro e w1 ⟨rfl, rfl⟩) | (go_at_call 66; refine (hby _ (by omega) _).mono ?_; rintro e w2 ⟨rfl, hb2⟩))
        all_goals go_wp2
        all_goals go_ret2
        all_goals exact ⟨by rw [HR.out]; rfl, Below.trans (Below.refl _ _).drew hb2⟩

set_option maxRecDepth 20000 in
set_option maxHeartbeats 4000000 in
theorem refFirst_two (s : ByteArray) (w : World) (hs : s.size ≤ 1048576) (h0 : 0 < s.size) (c0 : 192 ≤ bt s 0) (c1 : bt s 0 < 224) :
    Calls Tryd.prog 68 #[.string s] w fun e w' => e = .returned (.tuple #[.int .i64 (nx s 0).1, .int .i64 (nx s 0).2]) ∧ Below w.heap.size w w' := by
  have hb := get_bt s
  have m0 := bt_nonneg s 0
  have n0 := bt_le s 0
  have m1 := bt_nonneg s 1
  have n1 := bt_le s 1
  have eN : rfN (bt s 0) = 2 := by rw [rfN, if_neg (by omega), if_neg (by omega), if_pos (by omega)]
  have eV : rfV s = (bt s 0 - 192) * 64 + bt s 1 % 64 := by rw [rfV, if_neg (by omega), if_neg (by omega), if_pos (by omega)]
  by_cases hsz : s.size < 2
  · have HR : Hid (nx s 0 = (0, 0)) := rf_no (fun h => by rw [eN] at h; omega)
    go_enter Tryd.func68, Tryd.ntmps68
    go_wp2
    go_ret2
    exact ⟨by rw [HR.out]; rfl, Below.refl _ _⟩
  · have hge : 2 ≤ s.size := by omega
    have hsl : ∀ W, (Instr.slice 9 (.string s) none (some (.int .i64 (2 : Int))) none).run Tryd.prog W = .ok (.string (s.extract 0 2)) W := fun W => slice_front s 2 W hge
    by_cases hok : szI (rfV s) = 0
    · have HR : Hid (nx s 0 = (0, 0)) := rf_no (fun h => h.2.1 hok)
      have hpt : ∀ x : Int, x = rfV s → ∀ W, Calls Tryd.prog 65 #[.int .i64 x] W fun e w' => e = .returned (.bool false) ∧ w' = W := fun x hx W => by
        subst hx
        have := refPoint_any (rfV s) W
        rw [show decide (szI (rfV s) ≠ 0) = false by simp [hok]] at this
        exact this.mono (fun _ _ h => ⟨h.1, h.2.symm⟩)
      rw [eV] at hpt
      clear eN eV hok
      go_enter Tryd.func68, Tryd.ntmps68
      go_wp2
      go_rounds 2
      go_quiet ((go_at_call 65; exact Calls.quiet_of_same (hpt _ (by omega) _)))
      go_wp2
      go_ret2
      exact ⟨by rw [HR.out]; rfl, below_drewN (Below.refl _ _) _⟩
    · have hz := szI_nonneg hok
      have hpt : ∀ x : Int, x = rfV s → ∀ W, Calls Tryd.prog 65 #[.int .i64 x] W fun e w' => e = .returned (.bool true) ∧ W = w' := fun x hx W => by
        subst hx
        have := refPoint_any (rfV s) W
        rw [show decide (szI (rfV s) ≠ 0) = true by simp [hok]] at this
        exact this
      have hby : ∀ x : Int, x = rfV s → ∀ W, Calls Tryd.prog 66 #[.int .i64 x] W fun e w' => e = .returned (.string (mk (ptB (rfV s).toNat))) ∧ Below W.heap.size W w' := fun x hx W => by
        subst hx
        have := refBytes_any (rfV s).toNat W (by omega)
        rw [show (((rfV s).toNat : Nat) : Int) = rfV s by omega] at this
        exact this
      by_cases he : mk (ptB (rfV s).toNat) = s.extract 0 2
      · have HR : Hid (nx s 0 = (rfV s, (2 : Int))) := by
          show _ = _
          have := rf_yes (s := s) (by omega) hok (by rw [eN]; exact he)
          rw [this, eN]
          rfl
        rw [he] at hby
        generalize s.extract 0 2 = T at hsl hby
        clear eN he hok
        have HV : Hid (rfV s = (bt s 0 - 192) * 64 + bt s 1 % 64) := eV
        rw [eV] at hpt hby
        clear eV hz
        go_enter Tryd.func68, Tryd.ntmps68
        go_wp2
        go_rounds 2
        go_region_held3 (fun _ => True) (trivial) (first | (go_at_call 65; refine (hpt _ (by omega) _).mono ?_; rintro e w1 ⟨rfl, rfl⟩) | (go_at_call 66; refine (hby _ (by omega) _).mono ?_; rintro e w2 ⟨rfl, hb2⟩))
        all_goals go_wp2
        all_goals go_ret2
        all_goals exact ⟨by rw [HR.out, HV.out]; rfl, Below.trans (Below.refl _ _).drew hb2⟩
      · have HR : Hid (nx s 0 = (0, 0)) := rf_no (fun h => he (by rw [eN] at h; exact h.2.2))
        have hne := list_ne he
        have hne2 : ((mk (ptB (rfV s).toNat)).toList == (s.extract 0 2).toList) = false := by simpa using hne
        generalize s.extract 0 2 = T at hsl hne hne2
        generalize mk (ptB (rfV s).toNat) = F at hby hne hne2
        rw [eV] at hpt hby
        clear eN eV hz hok he
        go_enter Tryd.func68, Tryd.ntmps68
        go_wp2
        go_rounds 2
        go_region_held3 (fun _ => True) (trivial) (first | (go_at_call 65; refine (hpt _ (by omega) _).mono ?_; rintro e w1 ⟨rfl, rfl⟩) | (go_at_call 66; refine (hby _ (by omega) _).mono ?_; rintro e w2 ⟨rfl, hb2⟩))
        all_goals go_wp2
        all_goals go_ret2
        all_goals exact ⟨by rw [HR.out]; rfl, Below.trans (Below.refl _ _).drew hb2⟩

set_option maxRecDepth 20000 in
set_option maxHeartbeats 4000000 in
theorem refFirst_low (s : ByteArray) (w : World) (hs : s.size ≤ 1048576) (h0 : 0 < s.size) (c1 : bt s 0 < 192) :
    Calls Tryd.prog 68 #[.string s] w fun e w' => e = .returned (.tuple #[.int .i64 (nx s 0).1, .int .i64 (nx s 0).2]) ∧ Below w.heap.size w w' := by
  have hb := get_bt s
  have m0 := bt_nonneg s 0
  have n0 := bt_le s 0
  have eN : rfN (bt s 0) = 1 := by rw [rfN, if_neg (by omega), if_neg (by omega), if_neg (by omega)]
  have eV : rfV s = bt s 0 := by rw [rfV, if_neg (by omega), if_neg (by omega), if_neg (by omega)]
  have hge : 1 ≤ s.size := by omega
  have hsl : ∀ W, (Instr.slice 9 (.string s) none (some (.int .i64 (1 : Int))) none).run Tryd.prog W = .ok (.string (s.extract 0 1)) W := fun W => slice_front s 1 W hge
  by_cases hok : szI (rfV s) = 0
  · have HR : Hid (nx s 0 = (0, 0)) := rf_no (fun h => h.2.1 hok)
    have hpt : ∀ x : Int, x = rfV s → ∀ W, Calls Tryd.prog 65 #[.int .i64 x] W fun e w' => e = .returned (.bool false) ∧ w' = W := fun x hx W => by
      subst hx
      have := refPoint_any (rfV s) W
      rw [show decide (szI (rfV s) ≠ 0) = false by simp [hok]] at this
      exact this.mono (fun _ _ h => ⟨h.1, h.2.symm⟩)
    rw [eV] at hpt
    clear eN eV hok
    go_enter Tryd.func68, Tryd.ntmps68
    go_wp2
    go_rounds 1
    go_quiet ((go_at_call 65; exact Calls.quiet_of_same (hpt _ (by omega) _)))
    go_wp2
    go_ret2
    exact ⟨by rw [HR.out]; rfl, below_drewN (Below.refl _ _) _⟩
  · have hz := szI_nonneg hok
    have hpt : ∀ x : Int, x = rfV s → ∀ W, Calls Tryd.prog 65 #[.int .i64 x] W fun e w' => e = .returned (.bool true) ∧ W = w' := fun x hx W => by
      subst hx
      have := refPoint_any (rfV s) W
      rw [show decide (szI (rfV s) ≠ 0) = true by simp [hok]] at this
      exact this
    have hby : ∀ x : Int, x = rfV s → ∀ W, Calls Tryd.prog 66 #[.int .i64 x] W fun e w' => e = .returned (.string (mk (ptB (rfV s).toNat))) ∧ Below W.heap.size W w' := fun x hx W => by
      subst hx
      have := refBytes_any (rfV s).toNat W (by omega)
      rw [show (((rfV s).toNat : Nat) : Int) = rfV s by omega] at this
      exact this
    by_cases he : mk (ptB (rfV s).toNat) = s.extract 0 1
    · have HR : Hid (nx s 0 = (rfV s, (1 : Int))) := by
        show _ = _
        have := rf_yes (s := s) (by omega) hok (by rw [eN]; exact he)
        rw [this, eN]
        rfl
      rw [he] at hby
      generalize s.extract 0 1 = T at hsl hby
      clear eN he hok
      have HV : Hid (rfV s = bt s 0) := eV
      rw [eV] at hpt hby
      clear eV hz
      go_enter Tryd.func68, Tryd.ntmps68
      go_wp2
      go_rounds 1
      go_region_held3 (fun _ => True) (trivial) (first | (go_at_call 65; refine (hpt _ (by omega) _).mono ?_; rintro e w1 ⟨rfl, rfl⟩) | (go_at_call 66; refine (hby _ (by omega) _).mono ?_; rintro e w2 ⟨rfl, hb2⟩))
      all_goals go_wp2
      all_goals go_ret2
      all_goals exact ⟨by rw [HR.out, HV.out]; rfl, Below.trans (Below.refl _ _).drew hb2⟩
    · have HR : Hid (nx s 0 = (0, 0)) := rf_no (fun h => he (by rw [eN] at h; exact h.2.2))
      have hne := list_ne he
      have hne2 : ((mk (ptB (rfV s).toNat)).toList == (s.extract 0 1).toList) = false := by simpa using hne
      generalize s.extract 0 1 = T at hsl hne hne2
      generalize mk (ptB (rfV s).toNat) = F at hby hne hne2
      rw [eV] at hpt hby
      clear eN eV hz hok he
      go_enter Tryd.func68, Tryd.ntmps68
      go_wp2
      go_rounds 1
      go_region_held3 (fun _ => True) (trivial) (first | (go_at_call 65; refine (hpt _ (by omega) _).mono ?_; rintro e w1 ⟨rfl, rfl⟩) | (go_at_call 66; refine (hby _ (by omega) _).mono ?_; rintro e w2 ⟨rfl, hb2⟩))
      all_goals go_wp2
      all_goals go_ret2
      all_goals exact ⟨by rw [HR.out]; rfl, Below.trans (Below.refl _ _).drew hb2⟩

set_option maxRecDepth 20000 in
set_option maxHeartbeats 4000000 in
theorem refFirst_high (s : ByteArray) (w : World) (hs : s.size ≤ 1048576) (h0 : 0 < s.size) (c1 : 248 ≤ bt s 0) :
    Calls Tryd.prog 68 #[.string s] w fun e w' => e = .returned (.tuple #[.int .i64 (nx s 0).1, .int .i64 (nx s 0).2]) ∧ Below w.heap.size w w' := by
  have hb := get_bt s
  have m0 := bt_nonneg s 0
  have n0 := bt_le s 0
  have eN : rfN (bt s 0) = 1 := by rw [rfN, if_neg (by omega), if_neg (by omega), if_neg (by omega)]
  have eV : rfV s = bt s 0 := by rw [rfV, if_neg (by omega), if_neg (by omega), if_neg (by omega)]
  have hge : 1 ≤ s.size := by omega
  have hsl : ∀ W, (Instr.slice 9 (.string s) none (some (.int .i64 (1 : Int))) none).run Tryd.prog W = .ok (.string (s.extract 0 1)) W := fun W => slice_front s 1 W hge
  by_cases hok : szI (rfV s) = 0
  · have HR : Hid (nx s 0 = (0, 0)) := rf_no (fun h => h.2.1 hok)
    have hpt : ∀ x : Int, x = rfV s → ∀ W, Calls Tryd.prog 65 #[.int .i64 x] W fun e w' => e = .returned (.bool false) ∧ w' = W := fun x hx W => by
      subst hx
      have := refPoint_any (rfV s) W
      rw [show decide (szI (rfV s) ≠ 0) = false by simp [hok]] at this
      exact this.mono (fun _ _ h => ⟨h.1, h.2.symm⟩)
    rw [eV] at hpt
    clear eN eV hok
    go_enter Tryd.func68, Tryd.ntmps68
    go_wp2
    go_rounds 1
    go_quiet ((go_at_call 65; exact Calls.quiet_of_same (hpt _ (by omega) _)))
    go_wp2
    go_ret2
    exact ⟨by rw [HR.out]; rfl, below_drewN (Below.refl _ _) _⟩
  · have hz := szI_nonneg hok
    have hpt : ∀ x : Int, x = rfV s → ∀ W, Calls Tryd.prog 65 #[.int .i64 x] W fun e w' => e = .returned (.bool true) ∧ W = w' := fun x hx W => by
      subst hx
      have := refPoint_any (rfV s) W
      rw [show decide (szI (rfV s) ≠ 0) = true by simp [hok]] at this
      exact this
    have hby : ∀ x : Int, x = rfV s → ∀ W, Calls Tryd.prog 66 #[.int .i64 x] W fun e w' => e = .returned (.string (mk (ptB (rfV s).toNat))) ∧ Below W.heap.size W w' := fun x hx W => by
      subst hx
      have := refBytes_any (rfV s).toNat W (by omega)
      rw [show (((rfV s).toNat : Nat) : Int) = rfV s by omega] at this
      exact this
    by_cases he : mk (ptB (rfV s).toNat) = s.extract 0 1
    · have HR : Hid (nx s 0 = (rfV s, (1 : Int))) := by
        show _ = _
        have := rf_yes (s := s) (by omega) hok (by rw [eN]; exact he)
        rw [this, eN]
        rfl
      rw [he] at hby
      generalize s.extract 0 1 = T at hsl hby
      clear eN he hok
      have HV : Hid (rfV s = bt s 0) := eV
      rw [eV] at hpt hby
      clear eV hz
      go_enter Tryd.func68, Tryd.ntmps68
      go_wp2
      go_rounds 1
      go_region_held3 (fun _ => True) (trivial) (first | (go_at_call 65; refine (hpt _ (by omega) _).mono ?_; rintro e w1 ⟨rfl, rfl⟩) | (go_at_call 66; refine (hby _ (by omega) _).mono ?_; rintro e w2 ⟨rfl, hb2⟩))
      all_goals go_wp2
      all_goals go_ret2
      all_goals exact ⟨by rw [HR.out, HV.out]; rfl, Below.trans (Below.refl _ _).drew hb2⟩
    · have HR : Hid (nx s 0 = (0, 0)) := rf_no (fun h => he (by rw [eN] at h; exact h.2.2))
      have hne := list_ne he
      have hne2 : ((mk (ptB (rfV s).toNat)).toList == (s.extract 0 1).toList) = false := by simpa using hne
      generalize s.extract 0 1 = T at hsl hne hne2
      generalize mk (ptB (rfV s).toNat) = F at hby hne hne2
      rw [eV] at hpt hby
      clear eN eV hz hok he
      go_enter Tryd.func68, Tryd.ntmps68
      go_wp2
      go_rounds 1
      go_region_held3 (fun _ => True) (trivial) (first | (go_at_call 65; refine (hpt _ (by omega) _).mono ?_; rintro e w1 ⟨rfl, rfl⟩) | (go_at_call 66; refine (hby _ (by omega) _).mono ?_; rintro e w2 ⟨rfl, hb2⟩))
      all_goals go_wp2
      all_goals go_ret2
      all_goals exact ⟨by rw [HR.out]; rfl, Below.trans (Below.refl _ _).drew hb2⟩

theorem refFirst_any (s : ByteArray) (w : World) (hs : s.size ≤ 1048576) (h0 : 0 < s.size) :
    Calls Tryd.prog 68 #[.string s] w fun e w' => e = .returned (.tuple #[.int .i64 (nx s 0).1, .int .i64 (nx s 0).2]) ∧ Below w.heap.size w w' := by
  by_cases c1 : bt s 0 < 192
  · exact refFirst_low s w hs h0 c1
  · by_cases c2 : bt s 0 < 224
    · exact refFirst_two s w hs h0 (by omega) c2
    · by_cases c3 : bt s 0 < 240
      · exact refFirst_three s w hs h0 (by omega) c3
      · by_cases c4 : bt s 0 < 248
        · exact refFirst_four s w hs h0 (by omega) c4
        · exact refFirst_high s w hs h0 (by omega)
end Go.Proofs.YtffbkgmagjkogaaDoor
