/-
  Plain: the reference's way to read a code point comes to what next gives.
-/
import Derived.Test.YtjimolafoihnpaaDoorTxUtf
import Derived.Deep.RegionHeld3
import Derived.Deep.RegionWith
import Derived.Deep.QuietTactic
import Derived.BigQuiet
import Derived.WalkSmall
namespace Go.Proofs.YtjimolafoihnpaaDoor
open Go.ChangeShapes Go.WideShapes Go.ChangeAt Go.RowKit Go.PlainAid

/-- How many bytes the reference looks at, by the first one. -/
def rfN (b : Int) : Nat := if 240 ≤ b ∧ b < 248 then 4 else if 224 ≤ b ∧ b < 240 then 3 else if 192 ≤ b ∧ b < 224 then 2 else 1
/-- The number that it makes of them. -/
def rfV (s : ByteArray) : Int :=
  if 240 ≤ bt s 0 ∧ bt s 0 < 248 then (((bt s 0 - 240) * 64 + bt s 1 % 64) * 64 + bt s 2 % 64) * 64 + bt s 3 % 64
  else if 224 ≤ bt s 0 ∧ bt s 0 < 240 then ((bt s 0 - 224) * 64 + bt s 1 % 64) * 64 + bt s 2 % 64
  else if 192 ≤ bt s 0 ∧ bt s 0 < 224 then (bt s 0 - 192) * 64 + bt s 1 % 64
  else bt s 0

/-- Where a code point's bytes stand, the reference comes to it. -/
theorem rf_of {s : ByteArray} {n : Nat} (hn : n ≤ 1114111) (h : At s 0 (ptB n)) : rfN (bt s 0) = (ptB n).length ∧ rfV s = (n : Int) := by
  by_cases c1 : n < 128
  · rw [ptB1 c1] at h ⊢
    obtain ⟨g1, g2⟩ := at_one.1 h
    rw [ofNat_toNat (by omega)] at g2
    unfold rfN rfV
    rw [if_neg (by omega), if_neg (by omega), if_neg (by omega), if_neg (by omega), if_neg (by omega), if_neg (by omega)]
    exact ⟨rfl, g2⟩
  · by_cases c2 : n < 2048
    · rw [ptB2 (by omega) c2] at h ⊢
      obtain ⟨⟨g1, g2⟩, h1⟩ := at_cons.1 h
      obtain ⟨g3, g4⟩ := at_one.1 h1
      rw [ofNat_toNat (by omega)] at g2 g4
      rw [Nat.zero_add] at g4
      unfold rfN rfV
      rw [if_neg (by omega), if_neg (by omega), if_pos (by omega), if_neg (by omega), if_neg (by omega), if_pos (by omega)]
      exact ⟨rfl, by omega⟩
    · by_cases c3 : n < 65536
      · rw [ptB3 (by omega) c3] at h ⊢
        obtain ⟨⟨g1, g2⟩, h1⟩ := at_cons.1 h
        obtain ⟨⟨g3, g4⟩, h2⟩ := at_cons.1 h1
        obtain ⟨g5, g6⟩ := at_one.1 h2
        rw [ofNat_toNat (by omega)] at g2 g4 g6
        rw [show 0 + 1 = 1 from rfl] at g4
        rw [show 0 + 1 + 1 = 2 from rfl] at g6
        unfold rfN rfV
        rw [if_neg (by omega), if_pos (by omega), if_neg (by omega), if_pos (by omega)]
        exact ⟨rfl, by omega⟩
      · rw [ptB4 (by omega)] at h ⊢
        obtain ⟨⟨g1, g2⟩, h1⟩ := at_cons.1 h
        obtain ⟨⟨g3, g4⟩, h2⟩ := at_cons.1 h1
        obtain ⟨⟨g5, g6⟩, h3⟩ := at_cons.1 h2
        obtain ⟨g7, g8⟩ := at_one.1 h3
        rw [ofNat_toNat (by omega)] at g2 g4 g6 g8
        rw [show 0 + 1 = 1 from rfl] at g4
        rw [show 0 + 1 + 1 = 2 from rfl] at g6
        rw [show 0 + 1 + 1 + 1 = 3 from rfl] at g8
        unfold rfN rfV
        rw [if_pos (by omega), if_pos (by omega)]
        exact ⟨rfl, by omega⟩

/-- The reference's test says no: there is no code point. -/
theorem rf_no {s : ByteArray} (h : ¬ (rfN (bt s 0) ≤ s.size ∧ szI (rfV s) ≠ 0 ∧ mk (ptB (rfV s).toNat) = s.extract 0 (rfN (bt s 0)))) : nx s 0 = (0, 0) := by
  by_cases hk : (nx s 0).2 = 0
  · exact nx_pair s 0 hk
  · exfalso
    obtain ⟨n, h1, h2, h3, h4⟩ := nx_of hk
    have hz := szI_nonneg h2
    obtain ⟨e1, e2⟩ := rf_of (by omega) h3
    have h5 := h3.1
    have h6 := at_extract h3
    rw [Nat.zero_add] at h6 h5
    apply h
    rw [e1, e2, Int.toNat_natCast]
    exact ⟨h5, h2, h6.symm⟩

/-- It says yes: there is that one. -/
theorem rf_yes {s : ByteArray} (h1 : rfN (bt s 0) ≤ s.size) (h2 : szI (rfV s) ≠ 0) (h3 : mk (ptB (rfV s).toNat) = s.extract 0 (rfN (bt s 0))) : nx s 0 = (rfV s, (rfN (bt s 0) : Int)) := by
  have hz := szI_nonneg h2
  obtain ⟨n, hn⟩ := Int.eq_ofNat_of_zero_le hz.1
  rw [hn] at h2 h3
  rw [Int.toNat_natCast] at h3
  have hl : (ptB n).length = rfN (bt s 0) := by
    have := congrArg ByteArray.size h3
    rw [mk_size, ByteArray.size_extract] at this
    omega
  have hat : At s 0 (ptB n) := by
    refine ⟨by omega, fun i hi => ?_⟩
    rw [Nat.zero_add, bt_data s i (by omega)]
    congr 2
    have e : ptB n = (s.extract 0 (rfN (bt s 0))).data.toList := by rw [← h3, mk_toList]
    simp only [e, Lib.extract_data]
    simp
  rw [nx_at h2 hat, hn, hl]

theorem list_ne {a b : ByteArray} (h : a ≠ b) : (a.toList != b.toList) = true := by
  rw [bne_iff_ne, ne_eq, Go.ByteArray.toList_eq, Go.ByteArray.toList_eq]
  intro e
  exact h (ByteArray.ext (Array.ext' e))

theorem slice_front (s : ByteArray) (k : Nat) (W : World) (h : k ≤ s.size) :
    (Instr.slice 9 (.string s) none (some (.int .i64 (k : Int))) none).run Tryd.prog W = .ok (.string (s.extract 0 k)) W := by
  rw [run_slice_string_h (P := Tryd.prog) W 9 s Tryd.underlying9 .i64 (k : Int) (by omega) (by omega), show ((k : Int)).toNat = k by omega]

end Go.Proofs.YtjimolafoihnpaaDoor

/-
  The contract of the reference's first: it gives what next gives.
-/
namespace Go.Proofs.YtjimolafoihnpaaDoor
open Go.ChangeShapes Go.WideShapes Go.ChangeAt Go.RowKit Go.PlainAid

set_option maxRecDepth 20000 in
set_option maxHeartbeats 4000000 in
theorem refFirst_four (s : ByteArray) (w : World) (hs : s.size ≤ 1048576) (h0 : 0 < s.size) (c0 : 240 ≤ bt s 0) (c1 : bt s 0 < 248) :
    Calls Tryd.prog 83 #[.string s] w fun e w' => e = .returned (.tuple #[.int .i64 (nx s 0).1, .int .i64 (nx s 0).2]) ∧ Below w.heap.size w w' := by
  have hb := get_bt s
  have m0 := bt_nonneg s 0
  have n0 := bt_le s 0
  have m1 := bt_nonneg s 1
  have n1 := bt_le s 1
  have m2 := bt_nonneg s 2
  have n2 := bt_le s 2
  have m3 := bt_nonneg s 3
  have n3 := bt_le s 3
  have eN : rfN (bt s 0) = 4 := by rw [rfN, if_pos (by omega)]
  have eV : rfV s = (((bt s 0 - 240) * 64 + bt s 1 % 64) * 64 + bt s 2 % 64) * 64 + bt s 3 % 64 := by rw [rfV, if_pos (by omega)]
  by_cases hsz : s.size < 4
  · have HR : Hid (nx s 0 = (0, 0)) := rf_no (fun h => by rw [eN] at h; omega)
    go_enter Tryd.func83, Tryd.ntmps83
    go_wp2
    go_ret2
    exact ⟨by rw [HR.out]; rfl, Below.refl _ _⟩
  · have hge : 4 ≤ s.size := by omega
    have hsl : ∀ W, (Instr.slice 9 (.string s) none (some (.int .i64 (4 : Int))) none).run Tryd.prog W = .ok (.string (s.extract 0 4)) W := fun W => slice_front s 4 W hge
    by_cases hok : szI (rfV s) = 0
    · have HR : Hid (nx s 0 = (0, 0)) := rf_no (fun h => h.2.1 hok)
      have hpt : ∀ x : Int, x = rfV s → ∀ W, Calls Tryd.prog 84 #[.int .i64 x] W fun e w' => e = .returned (.bool false) ∧ w' = W := fun x hx W => by
        subst hx
        have := refPoint_any (rfV s) W
        rw [show decide (szI (rfV s) ≠ 0) = false by simp [hok]] at this
        exact this.mono (fun _ _ h => ⟨h.1, h.2.symm⟩)
      rw [eV] at hpt
      clear eN eV hok
      go_enter Tryd.func83, Tryd.ntmps83
      go_wp2
      go_rounds 4
      go_quiet ((go_at_call 84; exact Calls.quiet_of_same (hpt _ (by omega) _)))
      go_wp2
      go_ret2
      exact ⟨by rw [HR.out]; rfl, below_drewN (Below.refl _ _) _⟩
    · have hz := szI_nonneg hok
      have hpt : ∀ x : Int, x = rfV s → ∀ W, Calls Tryd.prog 84 #[.int .i64 x] W fun e w' => e = .returned (.bool true) ∧ W = w' := fun x hx W => by
        subst hx
        have := refPoint_any (rfV s) W
        rw [show decide (szI (rfV s) ≠ 0) = true by simp [hok]] at this
        exact this
      have hby : ∀ x : Int, x = rfV s → ∀ W, Calls Tryd.prog 85 #[.int .i64 x] W fun e w' => e = .returned (.string (mk (ptB (rfV s).toNat))) ∧ Below W.heap.size W w' := fun x hx W => by
        subst hx
        have := refBytes_any (rfV s).toNat W (by omega)
        rw [show (((rfV s).toNat : Nat) : Int) = rfV s by omega] at this
        exact this
      by_cases he : mk (ptB (rfV s).toNat) = s.extract 0 4
      · have HR : Hid (nx s 0 = (rfV s, (4 : Int))) := by
          show _ = _
          have := rf_yes (s := s) (by omega) hok (by rw [eN]; exact he)
          rw [this, eN]
          rfl
        rw [he] at hby
        generalize s.extract 0 4 = T at hsl hby
        clear eN he hok
        have HV : Hid (rfV s = (((bt s 0 - 240) * 64 + bt s 1 % 64) * 64 + bt s 2 % 64) * 64 + bt s 3 % 64) := eV
        rw [eV] at hpt hby
        clear eV hz
        go_enter Tryd.func83, Tryd.ntmps83
        go_wp2
        go_rounds 4
        go_region_held3 (fun _ => True) (trivial) (first | (go_at_call 84; refine (hpt _ (by omega) _).mono ?_; rintro e w1 ⟨rfl, rfl⟩) | (go_at_call 85; refine (hby _ (by omega) _).mono ?_; rintro e w2 ⟨rfl, hb2⟩))
        all_goals go_wp2
        all_goals go_ret2
        all_goals exact ⟨by rw [HR.out, HV.out]; rfl, Below.trans (Below.refl _ _).drew hb2⟩
      · have HR : Hid (nx s 0 = (0, 0)) := rf_no (fun h => he (by rw [eN] at h; exact h.2.2))
        have hne := list_ne he
        have hne2 : ((mk (ptB (rfV s).toNat)).toList == (s.extract 0 4).toList) = false := by simpa using hne
        generalize s.extract 0 4 = T at hsl hne hne2
        generalize mk (ptB (rfV s).toNat) = F at hby hne hne2
        rw [eV] at hpt hby
        clear eN eV hz hok he
        go_enter Tryd.func83, Tryd.ntmps83
        go_wp2
        go_rounds 4
        go_region_held3 (fun _ => True) (trivial) (first | (go_at_call 84; refine (hpt _ (by omega) _).mono ?_; rintro e w1 ⟨rfl, rfl⟩) | (go_at_call 85; refine (hby _ (by omega) _).mono ?_; rintro e w2 ⟨rfl, hb2⟩))
        all_goals go_wp2
        all_goals go_ret2
        all_goals exact ⟨by rw [HR.out]; rfl, Below.trans (Below.refl _ _).drew hb2⟩

set_option maxRecDepth 20000 in
set_option maxHeartbeats 4000000 in
theorem refFirst_three (s : ByteArray) (w : World) (hs : s.size ≤ 1048576) (h0 : 0 < s.size) (c0 : 224 ≤ bt s 0) (c1 : bt s 0 < 240) :
    Calls Tryd.prog 83 #[.string s] w fun e w' => e = .returned (.tuple #[.int .i64 (nx s 0).1, .int .i64 (nx s 0).2]) ∧ Below w.heap.size w w' := by
  have hb := get_bt s
  have m0 := bt_nonneg s 0
  have n0 := bt_le s 0
  have m1 := bt_nonneg s 1
  have n1 := bt_le s 1
  have m2 := bt_nonneg s 2
  have n2 := bt_le s 2
  have eN : rfN (bt s 0) = 3 := by rw [rfN, if_neg (by omega), if_pos (by omega)]
  have eV : rfV s = ((bt s 0 - 224) * 64 + bt s 1 % 64) * 64 + bt s 2 % 64 := by rw [rfV, if_neg (by omega), if_pos (by omega)]
  by_cases hsz : s.size < 3
  · have HR : Hid (nx s 0 = (0, 0)) := rf_no (fun h => by rw [eN] at h; omega)
    go_enter Tryd.func83, Tryd.ntmps83
    go_wp2
    go_ret2
    exact ⟨by rw [HR.out]; rfl, Below.refl _ _⟩
  · have hge : 3 ≤ s.size := by omega
    have hsl : ∀ W, (Instr.slice 9 (.string s) none (some (.int .i64 (3 : Int))) none).run Tryd.prog W = .ok (.string (s.extract 0 3)) W := fun W => slice_front s 3 W hge
    by_cases hok : szI (rfV s) = 0
    · have HR : Hid (nx s 0 = (0, 0)) := rf_no (fun h => h.2.1 hok)
      have hpt : ∀ x : Int, x = rfV s → ∀ W, Calls Tryd.prog 84 #[.int .i64 x] W fun e w' => e = .returned (.bool false) ∧ w' = W := fun x hx W => by
        subst hx
        have := refPoint_any (rfV s) W
        rw [show decide (szI (rfV s) ≠ 0) = false by simp [hok]] at this
        exact this.mono (fun _ _ h => ⟨h.1, h.2.symm⟩)
      rw [eV] at hpt
      clear eN eV hok
      go_enter Tryd.func83, Tryd.ntmps83
      go_wp2
      go_rounds 3
      go_quiet ((go_at_call 84; exact Calls.quiet_of_same (hpt _ (by omega) _)))
      go_wp2
      go_ret2
      exact ⟨by rw [HR.out]; rfl, below_drewN (Below.refl _ _) _⟩
    · have hz := szI_nonneg hok
      have hpt : ∀ x : Int, x = rfV s → ∀ W, Calls Tryd.prog 84 #[.int .i64 x] W fun e w' => e = .returned (.bool true) ∧ W = w' := fun x hx W => by
        subst hx
        have := refPoint_any (rfV s) W
        rw [show decide (szI (rfV s) ≠ 0) = true by simp [hok]] at this
        exact this
      have hby : ∀ x : Int, x = rfV s → ∀ W, Calls Tryd.prog 85 #[.int .i64 x] W fun e w' => e = .returned (.string (mk (ptB (rfV s).toNat))) ∧ Below W.heap.size W w' := fun x hx W => by
        subst hx
        have := refBytes_any (rfV s).toNat W (by omega)
        rw [show (((rfV s).toNat : Nat) : Int) = rfV s by omega] at this
        exact this
      by_cases he : mk (ptB (rfV s).toNat) = s.extract 0 3
      · have HR : Hid (nx s 0 = (rfV s, (3 : Int))) := by
          show _ = _
          have := rf_yes (s := s) (by omega) hok (by rw [eN]; exact he)
          rw [this, eN]
          rfl
        rw [he] at hby
        generalize s.extract 0 3 = T at hsl hby
        clear eN he hok
        have HV : Hid (rfV s = ((bt s 0 - 224) * 64 + bt s 1 % 64) * 64 + bt s 2 % 64) := eV
        rw [eV] at hpt hby
        clear eV hz
        go_enter Tryd.func83, Tryd.ntmps83
        go_wp2
        go_rounds 3
        go_region_held3 (fun _ => True) (trivial) (first | (go_at_call 84; refine (hpt _ (by omega) _).mono ?_; rintro e w1 ⟨rfl, rfl⟩) | (go_at_call 85; refine (hby _ (by omega) _).mono ?_; rintro e w2 ⟨rfl, hb2⟩))
        all_goals go_wp2
        all_goals go_ret2
        all_goals exact ⟨by rw [HR.out, HV.out]; rfl, Below.trans (Below.refl _ _).drew hb2⟩
      · have HR : Hid (nx s 0 = (0, 0)) := rf_no (fun h => he (by rw [eN] at h; exact h.2.2))
        have hne := list_ne he
        have hne2 : ((mk (ptB (rfV s).toNat)).toList == (s.extract 0 3).toList) = false := by simpa using hne
        generalize s.extract 0 3 = T at hsl hne hne2
        generalize mk (ptB (rfV s).toNat) = F at hby hne hne2
        rw [eV] at hpt hby
        clear eN eV hz hok he
        go_enter Tryd.func83, Tryd.ntmps83
        go_wp2
        go_rounds 3
        go_region_held3 (fun _ => True) (trivial) (first | (go_at_call 84; refine (hpt _ (by omega) _).mono ?_; rintro e w1 ⟨rfl, rfl⟩) | (go_at_call 85; refine (hby _ (by omega) _).mono ?_; rintro e w2 ⟨rfl, hb2⟩))
        all_goals go_wp2
        all_goals go_ret2
        all_goals exact ⟨by rw [HR.out]; rfl, Below.trans (Below.refl _ _).drew hb2⟩

set_option maxRecDepth 20000 in
set_option maxHeartbeats 4000000 in
theorem refFirst_two (s : ByteArray) (w : World) (hs : s.size ≤ 1048576) (h0 : 0 < s.size) (c0 : 192 ≤ bt s 0) (c1 : bt s 0 < 224) :
    Calls Tryd.prog 83 #[.string s] w fun e w' => e = .returned (.tuple #[.int .i64 (nx s 0).1, .int .i64 (nx s 0).2]) ∧ Below w.heap.size w w' := by
  have hb := get_bt s
  have m0 := bt_nonneg s 0
  have n0 := bt_le s 0
  have m1 := bt_nonneg s 1
  have n1 := bt_le s 1
  have eN : rfN (bt s 0) = 2 := by rw [rfN, if_neg (by omega), if_neg (by omega), if_pos (by omega)]
  have eV : rfV s = (bt s 0 - 192) * 64 + bt s 1 % 64 := by rw [rfV, if_neg (by omega), if_neg (by omega), if_pos (by omega)]
  by_cases hsz : s.size < 2
  · have HR : Hid (nx s 0 = (0, 0)) := rf_no (fun h => by rw [eN] at h; omega)
    go_enter Tryd.func83, Tryd.ntmps83
    go_wp2
    go_ret2
    exact ⟨by rw [HR.out]; rfl, Below.refl _ _⟩
  · have hge : 2 ≤ s.size := by omega
    have hsl : ∀ W, (Instr.slice 9 (.string s) none (some (.int .i64 (2 : Int))) none).run Tryd.prog W = .ok (.string (s.extract 0 2)) W := fun W => slice_front s 2 W hge
    by_cases hok : szI (rfV s) = 0
    · have HR : Hid (nx s 0 = (0, 0)) := rf_no (fun h => h.2.1 hok)
      have hpt : ∀ x : Int, x = rfV s → ∀ W, Calls Tryd.prog 84 #[.int .i64 x] W fun e w' => e = .returned (.bool false) ∧ w' = W := fun x hx W => by
        subst hx
        have := refPoint_any (rfV s) W
        rw [show decide (szI (rfV s) ≠ 0) = false by simp [hok]] at this
        exact this.mono (fun _ _ h => ⟨h.1, h.2.symm⟩)
      rw [eV] at hpt
      clear eN eV hok
      go_enter Tryd.func83, Tryd.ntmps83
      go_wp2
      go_rounds 2
      go_quiet ((go_at_call 84; exact Calls.quiet_of_same (hpt _ (by omega) _)))
      go_wp2
      go_ret2
      exact ⟨by rw [HR.out]; rfl, below_drewN (Below.refl _ _) _⟩
    · have hz := szI_nonneg hok
      have hpt : ∀ x : Int, x = rfV s → ∀ W, Calls Tryd.prog 84 #[.int .i64 x] W fun e w' => e = .returned (.bool true) ∧ W = w' := fun x hx W => by
        subst hx
        have := refPoint_any (rfV s) W
        rw [show decide (szI (rfV s) ≠ 0) = true by simp [hok]] at this
        exact this
      have hby : ∀ x : Int, x = rfV s → ∀ W, Calls Tryd.prog 85 #[.int .i64 x] W fun e w' => e = .returned (.string (mk (ptB (rfV s).toNat))) ∧ Below W.heap.size W w' := fun x hx W => by
        subst hx
        have := refBytes_any (rfV s).toNat W (by omega)
        rw [show (((rfV s).toNat : Nat) : Int) = rfV s by omega] at this
        exact this
      by_cases he : mk (ptB (rfV s).toNat) = s.extract 0 2
      · have HR : Hid (nx s 0 = (rfV s, (2 : Int))) := by
          show _ = _
          have := rf_yes (s := s) (by omega) hok (by rw [eN]; exact he)
          rw [this, eN]
          rfl
        rw [he] at hby
        generalize s.extract 0 2 = T at hsl hby
        clear eN he hok
        have HV : Hid (rfV s = (bt s 0 - 192) * 64 + bt s 1 % 64) := eV
        rw [eV] at hpt hby
        clear eV hz
        go_enter Tryd.func83, Tryd.ntmps83
        go_wp2
        go_rounds 2
        go_region_held3 (fun _ => True) (trivial) (first | (go_at_call 84; refine (hpt _ (by omega) _).mono ?_; rintro e w1 ⟨rfl, rfl⟩) | (go_at_call 85; refine (hby _ (by omega) _).mono ?_; rintro e w2 ⟨rfl, hb2⟩))
        all_goals go_wp2
        all_goals go_ret2
        all_goals exact ⟨by rw [HR.out, HV.out]; rfl, Below.trans (Below.refl _ _).drew hb2⟩
      · have HR : Hid (nx s 0 = (0, 0)) := rf_no (fun h => he (by rw [eN] at h; exact h.2.2))
        have hne := list_ne he
        have hne2 : ((mk (ptB (rfV s).toNat)).toList == (s.extract 0 2).toList) = false := by simpa using hne
        generalize s.extract 0 2 = T at hsl hne hne2
        generalize mk (ptB (rfV s).toNat) = F at hby hne hne2
        rw [eV] at hpt hby
        clear eN eV hz hok he
        go_enter Tryd.func83, Tryd.ntmps83
        go_wp2
        go_rounds 2
        go_region_held3 (fun _ => True) (trivial) (first | (go_at_call 84; refine (hpt _ (by omega) _).mono ?_; rintro e w1 ⟨rfl, rfl⟩) | (go_at_call 85; refine (hby _ (by omega) _).mono ?_; rintro e w2 ⟨rfl, hb2⟩))
        all_goals go_wp2
        all_goals go_ret2
        all_goals exact ⟨by rw [HR.out]; rfl, Below.trans (Below.refl _ _).drew hb2⟩

set_option maxRecDepth 20000 in
set_option maxHeartbeats 4000000 in
theorem refFirst_low (s : ByteArray) (w : World) (hs : s.size ≤ 1048576) (h0 : 0 < s.size) (c1 : bt s 0 < 192) :
    Calls Tryd.prog 83 #[.string s] w fun e w' => e = .returned (.tuple #[.int .i64 (nx s 0).1, .int .i64 (nx s 0).2]) ∧ Below w.heap.size w w' := by
  have hb := get_bt s
  have m0 := bt_nonneg s 0
  have n0 := bt_le s 0
  have eN : rfN (bt s 0) = 1 := by rw [rfN, if_neg (by omega), if_neg (by omega), if_neg (by omega)]
  have eV : rfV s = bt s 0 := by rw [rfV, if_neg (by omega), if_neg (by omega), if_neg (by omega)]
  have hge : 1 ≤ s.size := by omega
  have hsl : ∀ W, (Instr.slice 9 (.string s) none (some (.int .i64 (1 : Int))) none).run Tryd.prog W = .ok (.string (s.extract 0 1)) W := fun W => slice_front s 1 W hge
  by_cases hok : szI (rfV s) = 0
  · have HR : Hid (nx s 0 = (0, 0)) := rf_no (fun h => h.2.1 hok)
    have hpt : ∀ x : Int, x = rfV s → ∀ W, Calls Tryd.prog 84 #[.int .i64 x] W fun e w' => e = .returned (.bool false) ∧ w' = W := fun x hx W => by
      subst hx
      have := refPoint_any (rfV s) W
      rw [show decide (szI (rfV s) ≠ 0) = false by simp [hok]] at this
      exact this.mono (fun _ _ h => ⟨h.1, h.2.symm⟩)
    rw [eV] at hpt
    clear eN eV hok
    go_enter Tryd.func83, Tryd.ntmps83
    go_wp2
    go_rounds 1
    go_quiet ((go_at_call 84; exact Calls.quiet_of_same (hpt _ (by omega) _)))
    go_wp2
    go_ret2
    exact ⟨by rw [HR.out]; rfl, below_drewN (Below.refl _ _) _⟩
  · have hz := szI_nonneg hok
    have hpt : ∀ x : Int, x = rfV s → ∀ W, Calls Tryd.prog 84 #[.int .i64 x] W fun e w' => e = .returned (.bool true) ∧ W = w' := fun x hx W => by
      subst hx
      have := refPoint_any (rfV s) W
      rw [show decide (szI (rfV s) ≠ 0) = true by simp [hok]] at this
      exact this
    have hby : ∀ x : Int, x = rfV s → ∀ W, Calls Tryd.prog 85 #[.int .i64 x] W fun e w' => e = .returned (.string (mk (ptB (rfV s).toNat))) ∧ Below W.heap.size W w' := fun x hx W => by
      subst hx
      have := refBytes_any (rfV s).toNat W (by omega)
      rw [show (((rfV s).toNat : Nat) : Int) = rfV s by omega] at this
      exact this
    by_cases he : mk (ptB (rfV s).toNat) = s.extract 0 1
    · have HR : Hid (nx s 0 = (rfV s, (1 : Int))) := by
        show _ = _
        have := rf_yes (s := s) (by omega) hok (by rw [eN]; exact he)
        rw [this, eN]
        rfl
      rw [he] at hby
      generalize s.extract 0 1 = T at hsl hby
      clear eN he hok
      have HV : Hid (rfV s = bt s 0) := eV
      rw [eV] at hpt hby
      clear eV hz
      go_enter Tryd.func83, Tryd.ntmps83
      go_wp2
      go_rounds 1
      go_region_held3 (fun _ => True) (trivial) (first | (go_at_call 84; refine (hpt _ (by omega) _).mono ?_; rintro e w1 ⟨rfl, rfl⟩) | (go_at_call 85; refine (hby _ (by omega) _).mono ?_; rintro e w2 ⟨rfl, hb2⟩))
      all_goals go_wp2
      all_goals go_ret2
      all_goals exact ⟨by rw [HR.out, HV.out]; rfl, Below.trans (Below.refl _ _).drew hb2⟩
    · have HR : Hid (nx s 0 = (0, 0)) := rf_no (fun h => he (by rw [eN] at h; exact h.2.2))
      have hne := list_ne he
      have hne2 : ((mk (ptB (rfV s).toNat)).toList == (s.extract 0 1).toList) = false := by simpa using hne
      generalize s.extract 0 1 = T at hsl hne hne2
      generalize mk (ptB (rfV s).toNat) = F at hby hne hne2
      rw [eV] at hpt hby
      clear eN eV hz hok he
      go_enter Tryd.func83, Tryd.ntmps83
      go_wp2
      go_rounds 1
      go_region_held3 (fun _ => True) (trivial) (first | (go_at_call 84; refine (hpt _ (by omega) _).mono ?_; rintro e w1 ⟨rfl, rfl⟩) | (go_at_call 85; refine (hby _ (by omega) _).mono ?_; rintro e w2 ⟨rfl, hb2⟩))
      all_goals go_wp2
      all_goals go_ret2
      all_goals exact ⟨by rw [HR.out]; rfl, Below.trans (Below.refl _ _).drew hb2⟩

set_option maxRecDepth 20000 in
set_option maxHeartbeats 4000000 in
theorem refFirst_high (s : ByteArray) (w : World) (hs : s.size ≤ 1048576) (h0 : 0 < s.size) (c1 : 248 ≤ bt s 0) :
    Calls Tryd.prog 83 #[.string s] w fun e w' => e = .returned (.tuple #[.int .i64 (nx s 0).1, .int .i64 (nx s 0).2]) ∧ Below w.heap.size w w' := by
  have hb := get_bt s
  have m0 := bt_nonneg s 0
  have n0 := bt_le s 0
  have eN : rfN (bt s 0) = 1 := by rw [rfN, if_neg (by omega), if_neg (by omega), if_neg (by omega)]
  have eV : rfV s = bt s 0 := by rw [rfV, if_neg (by omega), if_neg (by omega), if_neg (by omega)]
  have hge : 1 ≤ s.size := by omega
  have hsl : ∀ W, (Instr.slice 9 (.string s) none (some (.int .i64 (1 : Int))) none).run Tryd.prog W = .ok (.string (s.extract 0 1)) W := fun W => slice_front s 1 W hge
  by_cases hok : szI (rfV s) = 0
  · have HR : Hid (nx s 0 = (0, 0)) := rf_no (fun h => h.2.1 hok)
    have hpt : ∀ x : Int, x = rfV s → ∀ W, Calls Tryd.prog 84 #[.int .i64 x] W fun e w' => e = .returned (.bool false) ∧ w' = W := fun x hx W => by
      subst hx
      have := refPoint_any (rfV s) W
      rw [show decide (szI (rfV s) ≠ 0) = false by simp [hok]] at this
      exact this.mono (fun _ _ h => ⟨h.1, h.2.symm⟩)
    rw [eV] at hpt
    clear eN eV hok
    go_enter Tryd.func83, Tryd.ntmps83
    go_wp2
    go_rounds 1
    go_quiet ((go_at_call 84; exact Calls.quiet_of_same (hpt _ (by omega) _)))
    go_wp2
    go_ret2
    exact ⟨by rw [HR.out]; rfl, below_drewN (Below.refl _ _) _⟩
  · have hz := szI_nonneg hok
    have hpt : ∀ x : Int, x = rfV s → ∀ W, Calls Tryd.prog 84 #[.int .i64 x] W fun e w' => e = .returned (.bool true) ∧ W = w' := fun x hx W => by
      subst hx
      have := refPoint_any (rfV s) W
      rw [show decide (szI (rfV s) ≠ 0) = true by simp [hok]] at this
      exact this
    have hby : ∀ x : Int, x = rfV s → ∀ W, Calls Tryd.prog 85 #[.int .i64 x] W fun e w' => e = .returned (.string (mk (ptB (rfV s).toNat))) ∧ Below W.heap.size W w' := fun x hx W => by
      subst hx
      have := refBytes_any (rfV s).toNat W (by omega)
      rw [show (((rfV s).toNat : Nat) : Int) = rfV s by omega] at this
      exact this
    by_cases he : mk (ptB (rfV s).toNat) = s.extract 0 1
    · have HR : Hid (nx s 0 = (rfV s, (1 : Int))) := by
        show _ = _
        have := rf_yes (s := s) (by omega) hok (by rw [eN]; exact he)
        rw [this, eN]
        rfl
      rw [he] at hby
      generalize s.extract 0 1 = T at hsl hby
      clear eN he hok
      have HV : Hid (rfV s = bt s 0) := eV
      rw [eV] at hpt hby
      clear eV hz
      go_enter Tryd.func83, Tryd.ntmps83
      go_wp2
      go_rounds 1
      go_region_held3 (fun _ => True) (trivial) (first | (go_at_call 84; refine (hpt _ (by omega) _).mono ?_; rintro e w1 ⟨rfl, rfl⟩) | (go_at_call 85; refine (hby _ (by omega) _).mono ?_; rintro e w2 ⟨rfl, hb2⟩))
      all_goals go_wp2
      all_goals go_ret2
      all_goals exact ⟨by rw [HR.out, HV.out]; rfl, Below.trans (Below.refl _ _).drew hb2⟩
    · have HR : Hid (nx s 0 = (0, 0)) := rf_no (fun h => he (by rw [eN] at h; exact h.2.2))
      have hne := list_ne he
      have hne2 : ((mk (ptB (rfV s).toNat)).toList == (s.extract 0 1).toList) = false := by simpa using hne
      generalize s.extract 0 1 = T at hsl hne hne2
      generalize mk (ptB (rfV s).toNat) = F at hby hne hne2
      rw [eV] at hpt hby
      clear eN eV hz hok he
      go_enter Tryd.func83, Tryd.ntmps83
      go_wp2
      go_rounds 1
      go_region_held3 (fun _ => True) (trivial) (first | (go_at_call 84; refine (hpt _ (by omega) _).mono ?_; rintro e w1 ⟨rfl, rfl⟩) | (go_at_call 85; refine (hby _ (by omega) _).mono ?_; rintro e w2 ⟨rfl, hb2⟩))
      all_goals go_wp2
      all_goals go_ret2
      all_goals exact ⟨by rw [HR.out]; rfl, Below.trans (Below.refl _ _).drew hb2⟩

theorem refFirst_any (s : ByteArray) (w : World) (hs : s.size ≤ 1048576) (h0 : 0 < s.size) :
    Calls Tryd.prog 83 #[.string s] w fun e w' => e = .returned (.tuple #[.int .i64 (nx s 0).1, .int .i64 (nx s 0).2]) ∧ Below w.heap.size w w' := by
  by_cases c1 : bt s 0 < 192
  · exact refFirst_low s w hs h0 c1
  · by_cases c2 : bt s 0 < 224
    · exact refFirst_two s w hs h0 (by omega) c2
    · by_cases c3 : bt s 0 < 240
      · exact refFirst_three s w hs h0 (by omega) c3
      · by_cases c4 : bt s 0 < 248
        · exact refFirst_four s w hs h0 (by omega) c4
        · exact refFirst_high s w hs h0 (by omega)
end Go.Proofs.YtjimolafoihnpaaDoor

/-
  The contracts of the reference's Points and Len.
-/
namespace Go.Proofs.YtjimolafoihnpaaDoor
open Go.ChangeShapes Go.WideShapes Go.ChangeAt Go.RowKit Go.PlainAid

theorem suf_size (s : ByteArray) (a : Nat) : (s.extract a s.size).size = s.size - a := by rw [ByteArray.size_extract]; omega
theorem suf_bt (s : ByteArray) (a i : Nat) (h : a + i < s.size) : bt (s.extract a s.size) i = bt s (a + i) := by
  rw [bt_data _ _ (by rw [suf_size]; omega), bt_data s _ h]
  congr 2
  simp only [Lib.extract_data]
  simp
theorem suf_at {s : ByteArray} {a : Nat} {F : List UInt8} (ha : a ≤ s.size) : At (s.extract a s.size) 0 F ↔ At s a F := by
  constructor
  · rintro ⟨h1, h2⟩
    rw [suf_size] at h1
    exact ⟨by omega, fun i hi => by rw [← suf_bt s a i (by omega)]; simpa using h2 i hi⟩
  · rintro ⟨h1, h2⟩
    exact ⟨by rw [suf_size]; omega, fun i hi => by rw [Nat.zero_add, suf_bt s a i (by omega)]; exact h2 i hi⟩
theorem suf_nx (s : ByteArray) (a : Nat) (ha : a ≤ s.size) : nx (s.extract a s.size) 0 = nx s a := by
  by_cases h : (nx s a).2 = 0
  · by_cases h' : (nx (s.extract a s.size) 0).2 = 0
    · rw [nx_pair _ _ h, nx_pair _ _ h']
    · obtain ⟨n, _, g2, g3, _⟩ := nx_of h'
      have := nx_at g2 ((suf_at ha).1 g3)
      rw [this] at h
      have hl := ptB_len n
      simp only at h
      omega
  · obtain ⟨n, g1, g2, g3, g4⟩ := nx_of h
    rw [nx_at g2 ((suf_at ha).2 g3), ← g1, ← g4]
theorem suf_suf (s : ByteArray) (a b : Nat) : (s.extract a s.size).extract b (s.extract a s.size).size = s.extract (a + b) s.size := by
  apply ByteArray.ext
  apply Array.ext'
  simp only [Lib.extract_data, suf_size]
  apply List.ext_getElem?
  intro i
  simp only [List.getElem?_take, List.getElem?_drop]
  by_cases h : i < s.size - a - b
  · rw [if_pos (by omega), if_pos (by omega), if_pos (by omega)]
    congr 1; omega
  · rw [if_neg (by omega)]
    by_cases h2 : i < s.size - (a + b)
    · omega
    · rw [if_neg h2]

/-- How long a text in a slot is. -/
def szV : Value → Nat | .string s => s.size | _ => 0

theorem slice_tail (t : ByteArray) (k : Nat) (r : Int) (hr : r = (k : Int)) (W : World) (h : k ≤ t.size) :
    (Instr.slice 9 (.string t) (some (.int .i64 r)) none none).run Tryd.prog W = .ok (.string (t.extract k t.size)) W := by
  subst hr
  rw [run_slice_string_l (P := Tryd.prog) W 9 t Tryd.underlying9 .i64 (k : Int) (by omega) (by omega), show ((k : Int)).toNat = k by omega]

/-- A step of the reference, behind k code points. -/
theorem step_ok (s : ByteArray) (k : Nat) (hs : s.size ≤ 1048576) (hok : Ok s (k + 1)) :
    ∃ (t t' : ByteArray) (r1 r2 : Int), t = s.extract (pos s k) s.size ∧ t' = s.extract (pos s (k + 1)) s.size ∧ 0 < t.size ∧ t'.size < t.size ∧ t.size ≤ 1048576 ∧ (r2 == 0) = false ∧ ptL s (k + 1) = ptL s k ++ [r1] ∧
    (∀ W, Calls Tryd.prog 83 #[.string t] W fun e w' => e = .returned (.tuple #[.int .i64 r1, .int .i64 r2]) ∧ Below W.heap.size W w') ∧
    (∀ W, (Instr.slice 9 (.string t) (some (.int .i64 r2)) none none).run Tryd.prog W = .ok (.string t') W) := by
  have h1 := hok k (by omega)
  have h2 := nx_bd s _ h1.2
  have h3 := pos_succ h1.2
  have hsz := suf_size s (pos s k)
  have hnx := suf_nx s (pos s k) (by omega)
  refine ⟨s.extract (pos s k) s.size, s.extract (pos s (k + 1)) s.size, (nx s (pos s k)).1, (nx s (pos s k)).2, rfl, rfl, by omega, by rw [suf_size, suf_size]; omega, by omega, by simpa using h1.2, ptL_succ s k, fun W => ?_, fun W => ?_⟩
  · have := refFirst_any (s.extract (pos s k) s.size) W (by omega) (by omega)
    rwa [hnx] at this
  · have h4 : (nx s (pos s k)).2 = ((pos s (k + 1) - pos s k : Nat) : Int) := by omega
    rw [slice_tail _ _ _ h4 W (by rw [suf_size]; omega), suf_suf, show pos s k + (pos s (k + 1) - pos s k) = pos s (k + 1) by omega]

set_option maxRecDepth 20000 in
set_option maxHeartbeats 2000000 in
theorem refPoints_ok (s : ByteArray) (n : Nat) (w : World) (hs : s.size ≤ 1048576) (hv : Valid s n) :
    Calls Tryd.prog 55 #[.string s] w fun e w' => ∃ v, e = .returned (.tuple #[v, .bool true]) ∧ w'.ownsRow w.heap.size 3 1 v n (iv (ptL s n)) ∧ Below w.heap.size w w' := by
  have hnp := pos_le hv.1 n (Nat.le_refl _)
  obtain ⟨i0, hi, hz0, hz1, hz2⟩ := info_parts Tryd.info3
  go_enter Tryd.func55, Tryd.ntmps55
  go_wp2
  go_loopw [0, 4] (fun t v wr => ∃ (k : Nat) (T : ByteArray), k ≤ n ∧ t = .string T ∧ Hid (T = s.extract (pos s k) s.size) ∧ wr.ownsRow w.heap.size 3 1 v k (iv (ptL s k)) ∧ Below w.heap.size w wr) (fun t _ _ => szV t)
  case atStart => exact ⟨0, s, by omega, rfl, (extract_all s).symm, World.ownsRow_nil _ _ _ _, Below.refl _ _⟩
  case round =>
    obtain ⟨k, T, hk, rfl, HT, hown, hbl⟩ := hrel
    have hsz := hbl.size
    by_cases hlt : k < n
    · obtain ⟨t, t', r1, r2, e1, e2, p0, p1, p2, hne, HL0, hc, hsl⟩ := step_ok s k hs (ok_mono hv.1 (by omega))
      obtain rfl : T = t := by rw [HT.out, e1]
      have HL : Hid (ptL s (k + 1) = ptL s k ++ [r1]) := HL0
      have HT' : Hid (t' = s.extract (pos s (k + 1)) s.size) := e2
      clear e1 e2 HL0 HT
      go_wp2_with (first | (go_at_call 83; refine (hc _).mono ?_; rintro e w1 ⟨rfl, hb1⟩; have hs1 := hb1.size; have hown1 := own_below hown hb1; clear hc) | (at_builtin; refine wpList_append_own _ rfl (.tmp 17) (.tmp 19) 68 rfl w.heap.size 3 i0 (.int .i64 0) 1 8 Tryd.underlying68 hi hz0 hz1 hz2 rfl (by decide) _ _ _ rfl (hown1.alloc _) ⟨_, 0, none⟩ 1 1 [.int .i64 r1] rfl rfl (one_new _ _ _) (one_one _ rfl) (by unfold maxLen; omega) (by omega) (by simp; omega) ?_; intro v' w3 ho3 hg3 hnil3))
      have R1 := own_snocI ho3
      have R2 := below_app (Nat.le_refl _) (hbl.trans (hb1.mono hsz)) hown1 hg3
      rw [← HL.out] at R1
      clear ho3 hg3 hown hown1 hnil3
      go_roundw
      case rel => exact ⟨k + 1, t', by omega, rfl, HT', R1, R2⟩
      case measure => simp [szV]; omega
    · have e : k = n := by omega
      subst e
      have e2 : T.size = 0 := by rw [HT.out, suf_size, hv.2]; omega
      have e3 : ¬ (0 : Int) < (T.size : Int) := by omega
      clear e2
      go_wp2
      go_ret2
      exact ⟨_, rfl, hown, hbl⟩

set_option maxRecDepth 20000 in
set_option maxHeartbeats 2000000 in
theorem refPoints_bad (s : ByteArray) (n : Nat) (w : World) (hs : s.size ≤ 1048576) (hv : Bad s n) :
    Calls Tryd.prog 55 #[.string s] w fun e w' => e = .returned (.tuple #[.slice none 0 0, .bool false]) ∧ Below w.heap.size w w' := by
  have hnp := pos_le hv.1 n (Nat.le_refl _)
  obtain ⟨i0, hi, hz0, hz1, hz2⟩ := info_parts Tryd.info3
  go_enter Tryd.func55, Tryd.ntmps55
  go_wp2
  go_loopw [0, 4] (fun t v wr => ∃ (k : Nat) (T : ByteArray), k ≤ n ∧ t = .string T ∧ Hid (T = s.extract (pos s k) s.size) ∧ wr.ownsRow w.heap.size 3 1 v k (iv (ptL s k)) ∧ Below w.heap.size w wr) (fun t _ _ => szV t)
  case atStart => exact ⟨0, s, by omega, rfl, (extract_all s).symm, World.ownsRow_nil _ _ _ _, Below.refl _ _⟩
  case round =>
    obtain ⟨k, T, hk, rfl, HT, hown, hbl⟩ := hrel
    have hsz := hbl.size
    by_cases hlt : k < n
    · obtain ⟨t, t', r1, r2, e1, e2, p0, p1, p2, hne, HL0, hc, hsl⟩ := step_ok s k hs (ok_mono hv.1 (by omega))
      obtain rfl : T = t := by rw [HT.out, e1]
      have HL : Hid (ptL s (k + 1) = ptL s k ++ [r1]) := HL0
      have HT' : Hid (t' = s.extract (pos s (k + 1)) s.size) := e2
      clear e1 e2 HL0 HT
      go_wp2_with (first | (go_at_call 83; refine (hc _).mono ?_; rintro e w1 ⟨rfl, hb1⟩; have hs1 := hb1.size; have hown1 := own_below hown hb1; clear hc) | (at_builtin; refine wpList_append_own _ rfl (.tmp 17) (.tmp 19) 68 rfl w.heap.size 3 i0 (.int .i64 0) 1 8 Tryd.underlying68 hi hz0 hz1 hz2 rfl (by decide) _ _ _ rfl (hown1.alloc _) ⟨_, 0, none⟩ 1 1 [.int .i64 r1] rfl rfl (one_new _ _ _) (one_one _ rfl) (by unfold maxLen; omega) (by omega) (by simp; omega) ?_; intro v' w3 ho3 hg3 hnil3))
      have R1 := own_snocI ho3
      have R2 := below_app (Nat.le_refl _) (hbl.trans (hb1.mono hsz)) hown1 hg3
      rw [← HL.out] at R1
      clear ho3 hg3 hown hown1 hnil3
      go_roundw
      case rel => exact ⟨k + 1, t', by omega, rfl, HT', R1, R2⟩
      case measure => simp [szV]; omega
    · have e : k = n := by omega
      subst e
      obtain ⟨_, h2, h3⟩ := hv
      have p0 : 0 < T.size := by rw [HT.out, suf_size]; omega
      have hc : ∀ W, Calls Tryd.prog 83 #[.string T] W fun e w' => e = .returned (.tuple #[.int .i64 0, .int .i64 0]) ∧ Below W.heap.size W w' := fun W => by
        have h4 : T.size ≤ 1048576 := by rw [HT.out, suf_size]; omega
        have := refFirst_any T W h4 p0
        rwa [show nx T 0 = (0, 0) by rw [HT.out, suf_nx s _ (by omega)]; exact nx_pair _ _ h3] at this
      clear HT hown
      go_wp2_with (go_at_call 83; refine (hc _).mono ?_; rintro e w1 ⟨rfl, hb1⟩; clear hc)
      go_ret2
      exact ⟨rfl, hbl.trans (hb1.mono hsz)⟩
end Go.Proofs.YtjimolafoihnpaaDoor
