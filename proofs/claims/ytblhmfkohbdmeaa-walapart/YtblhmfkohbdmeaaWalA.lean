/-
  A journal in memory; its small methods.
-/
import Derived.Test.YtblhmfkohbdmeaaDevT
import Derived.Deep.QuietTactic
import Derived.BigQuiet
namespace Go.Proofs.Ytblhmfkohbdmeaa
open Go.RowKit Go.Maps

/-- At block r lies a journal on the device at p. -/
def IsWal (w : World) (r p : Nat) (age : Int) (lost : Bool) : Prop := w.heap[r]? = some (.cells #[.pointer (some ⟨p, 0, none⟩), .int .i64 age, .bool lost] 80)

theorem IsWal.kept {w w' : World} {r p : Nat} {age : Int} {lost : Bool} {L : List Nat} (h : IsWal w r p age lost) (ho : Only L w w') (hr : r ∉ L) : IsWal w' r p age lost := only_heap h ho hr
theorem IsWal.below {w w' : World} {r p : Nat} {age : Int} {lost : Bool} (h : IsWal w r p age lost) (hb : Below w.heap.size w w') : IsWal w' r p age lost := (hb.block r (heap_lt h)).trans h
theorem IsWal.cells {w : World} {r p : Nat} {age : Int} {lost : Bool} (h : IsWal w r p age lost) : w.cell? ⟨r, 0, none⟩ = some (.pointer (some ⟨p, 0, none⟩)) ∧ w.cell? ⟨r, 1, none⟩ = some (.int .i64 age) ∧ w.cell? ⟨r, 2, none⟩ = some (.bool lost) := ⟨cell_at h 0, cell_at h 1, cell_at h 2⟩
theorem IsWal.apart {w : World} {r p p' bs bw : Nat} {age : Int} {lost : Bool} {s : DevS} (h : IsWal w r p age lost) (hd : IsDev w p' bs bw s) : r ∉ [p', bs, bw] := by
  have h1 : r ≠ p' := by
    rintro rfl
    have := h.symm.trans hd.str
    simp at this
  have h2 : r ≠ bs := by
    rintro rfl
    obtain ⟨es, c, hb, _⟩ := hd.safe
    rw [h] at hb
    cases hb
  have h3 : r ≠ bw := by
    rintro rfl
    obtain ⟨es, c, hb, _⟩ := hd.waits
    rw [h] at hb
    cases hb
  simp [h1, h2, h3]

section
variable {w : World} {r p bs bw : Nat} {age : Int} {lost : Bool} {s : DevS}

set_option maxHeartbeats 400000 in
theorem heading_any (hw : IsWal w r p age lost) (hd : IsDev w p bs bw s) :
    Calls Try.prog 44 #[.pointer (some ⟨r, 0, none⟩)] w fun e w' => e = .returned (.int .i64 ((s.n : Int) - 25)) ∧ w' = w := by
  obtain ⟨h0, h1, h2⟩ := hw.cells
  have hn := hd.hi
  have hn' : (s.n : Int) ≤ 8192 := by omega
  have hn0 : (0 : Int) ≤ (s.n : Int) := by omega
  have c := sectors_any hd
  clear hd hw
  go_enter Try.func44, Try.ntmps44
  go_wp2_with (first | (go_at_call 57; refine c.mono ?_; rintro e w' ⟨rfl, hw⟩; rw [hw]; clear hw w'))
  go_ret
  exact ⟨by go_num, rfl⟩

set_option maxHeartbeats 400000 in
theorem slot_any (hw : IsWal w r p age lost) (hd : IsDev w p bs bw s) (i : Nat) (hi : i ≤ 64) :
    Calls Try.prog 72 #[.pointer (some ⟨r, 0, none⟩), .int .i64 (i : Int)] w fun e w' => e = .returned (.int .i64 ((s.n : Int) - 24 + i)) ∧ w' = w := by
  have c := heading_any hw hd
  have hn := hd.hi
  have hn' : (s.n : Int) ≤ 8192 := by omega
  have hn0 : (0 : Int) ≤ (s.n : Int) := by omega
  clear hd hw
  go_enter Try.func72, Try.ntmps72
  go_wp2_with (first | (go_at_call 44; refine c.mono ?_; rintro e w' ⟨rfl, hw⟩; rw [hw]; clear hw w'))
  go_ret
  exact ⟨by go_num, rfl⟩

set_option maxHeartbeats 400000 in
theorem whas_any (hw : IsWal w r p age lost) (hd : IsDev w p bs bw s) (k : Int) :
    Calls Try.prog 47 #[.pointer (some ⟨r, 0, none⟩), .int .i64 k] w fun e w' => e = .returned (.bool (decide (0 ≤ k) && decide (k < (s.n : Int) - 25))) ∧ w' = w := by
  have c := heading_any hw hd
  clear hd hw
  by_cases hk : 0 ≤ k
  · have e : (decide (0 ≤ k) && decide (k < (s.n : Int) - 25)) = decide (k < (s.n : Int) - 25) := by simp [hk]
    rw [e]
    clear e
    go_enter Try.func47, Try.ntmps47
    go_wp2_with (first | (go_at_call 44; refine c.mono ?_; rintro e w' ⟨rfl, hw⟩; rw [hw]; clear hw w'))
    go_ret
    exact ⟨rfl, rfl⟩
  · have e : (decide (0 ≤ k) && decide (k < (s.n : Int) - 25)) = false := by simp [hk]
    rw [e]
    clear e
    have hk' : k < 0 := by omega
    go_enter Try.func47, Try.ntmps47
    go_wp2_with fail
    go_ret
    exact ⟨rfl, rfl⟩

set_option maxHeartbeats 400000 in
theorem note_any (hw : IsWal w r p age lost) (e : Int) :
    Calls Try.prog 42 #[.pointer (some ⟨r, 0, none⟩), .int .i64 e] w fun x w' => x = .returned (.tuple #[]) ∧ IsWal w' r p age (lost || e == 3) ∧ Only [r] w w' := by
  obtain ⟨h0, h1, h2⟩ := hw.cells
  by_cases he : e = 3
  · have he' : (e == 3) = true := by simpa using he
    have hz := frozen_at hw 2
    have hn : IsWal (w.setCell ⟨r, 2, none⟩ (.bool true)) r p age true := heap_setCell hw 2 _
    clear hw he
    rw [he', Bool.or_true]
    go_enter Try.func42, Try.ntmps42
    go_wp2
    go_end0
    exact ⟨rfl, hn, Only.setCell w (by simp) _⟩
  · have he' : (e == 3) = false := by simpa using he
    clear he
    rw [he', Bool.or_false]
    go_enter Try.func42, Try.ntmps42
    go_wp2
    go_end0
    exact ⟨rfl, hw, Only.refl _ _⟩

theorem Only.drewN (S : List Nat) (w : World) (k : Nat) : Only S w (w.drewN k) := ⟨rfl, rfl, rfl, Nat.le_refl _, fun _ _ _ => rfl⟩
theorem IsDev.drewN (h : IsDev w p bs bw s) (k : Nat) : IsDev (w.drewN k) p bs bw s := h.kept (Only.drewN [] w k) (by simp) (by simp) (by simp)

/-- May a call go on? -/
def rdy (s : DevS) (age : Int) (lost : Bool) : Bool := !lost && s.up && s.age == age
/-- The answer of ready. -/
def rdyE (s : DevS) (age : Int) (lost : Bool) : Int := if rdy s age lost then 0 else 3
theorem rdyE_lost (s : DevS) (age : Int) (lost : Bool) : (lost || rdyE s age lost == 3) = !rdy s age lost := by
  unfold rdyE
  cases lost <;> cases hr : rdy s age _ <;> simp_all [rdy]

set_option maxRecDepth 20000 in
set_option maxHeartbeats 2000000 in
theorem ready_any (hw : IsWal w r p age lost) (hd : IsDev w p bs bw s) :
    Calls Try.prog 43 #[.pointer (some ⟨r, 0, none⟩)] w fun e w' => e = .returned (.int .i64 (rdyE s age lost)) ∧ ∃ k, w' = w.drewN k := by
  obtain ⟨h0, h1, h2⟩ := hw.cells
  have cU : ∀ u, IsDev u p bs bw s → Calls Try.prog 25 #[.pointer (some ⟨p, 0, none⟩)] u fun e w' => e = .returned (.bool s.up) ∧ w' = u := fun u h => up_any h
  have cA : ∀ u, IsDev u p bs bw s → Calls Try.prog 39 #[.pointer (some ⟨p, 0, none⟩)] u fun e w' => e = .returned (.int .i64 s.age) ∧ w' = u := fun u h => age_any h
  unfold rdyE rdy
  clear hw
  cases lost with
  | true =>
    go_enter Try.func43, Try.ntmps43
    go_wp2_with fail
    go_quiet (fail)
    go_wp2_with fail
    go_ret
    exact ⟨rfl, _, rfl⟩
  | false =>
    cases hu : s.up with
    | false =>
      rw [hu] at cU
      go_enter Try.func43, Try.ntmps43
      go_wp2_with fail
      go_quiet (first | (go_at_call 25; exact Calls.quiet_of_same (cU _ (hd.drewN _))) | (go_at_call 39; exact Calls.quiet_of_same (cA _ (hd.drewN _))))
      go_wp2_with fail
      go_ret
      exact ⟨rfl, _, rfl⟩
    | true =>
      rw [hu] at cU
      clear hu
      cases he : s.age == age with
      | false =>
        have he' : (s.age != age) = true := by simpa using he
        clear he
        go_enter Try.func43, Try.ntmps43
        go_wp2_with fail
        go_quiet (first | (go_at_call 25; exact Calls.quiet_of_same (cU _ (hd.drewN _))) | (go_at_call 39; exact Calls.quiet_of_same (cA _ (hd.drewN _))))
        go_wp2_with fail
        go_ret
        exact ⟨rfl, _, rfl⟩
      | true =>
        have he' : (s.age != age) = false := by simpa using he
        clear he
        go_enter Try.func43, Try.ntmps43
        go_wp2_with fail
        go_quiet (first | (go_at_call 25; exact Calls.quiet_of_same (cU _ (hd.drewN _))) | (go_at_call 39; exact Calls.quiet_of_same (cA _ (hd.drewN _))))
        go_wp2_with fail
        go_ret
        exact ⟨rfl, _, rfl⟩

set_option maxHeartbeats 400000 in
theorem size_any (hw : IsWal w r p age lost) (hd : IsDev w p bs bw s) :
    Calls Try.prog 18 #[.pointer (some ⟨r, 0, none⟩)] w fun e w' => e = .returned (.int .i64 ((s.n : Int) - 25)) ∧ IsWal w' r p age (!rdy s age lost) ∧ IsDev w' p bs bw s ∧ Only [r] w w' := by
  have c1 := ready_any hw hd
  have hwd := fun k => hw.kept (Only.drewN [] w k) (by simp)
  have hdd := fun k => hd.drewN k
  have ha := hw.apart hd
  simp at ha
  have c2 := fun k => note_any (hwd k) (rdyE s age lost)
  rw [rdyE_lost] at c2
  clear hw hd hwd
  go_enter Try.func18, Try.ntmps18
  go_wp2_with (first
    | (go_at_call 43; refine c1.mono ?_; rintro e w' ⟨rfl, k, hw⟩; rw [hw]; clear hw w')
    | (go_at_call 42; refine (c2 k).mono ?_; rintro e w2 ⟨rfl, hw2, ho2⟩; have hd2 := (hdd k).kept ho2 (by simp; omega) (by simp; omega) (by simp; omega))
    | (go_at_call 44; refine (heading_any hw2 hd2).mono ?_; rintro e w' ⟨rfl, hw⟩; rw [hw]; clear hw w'))
  go_ret
  exact ⟨rfl, hw2, hd2, (Only.drewN _ _ k).trans ho2⟩

set_option maxHeartbeats 400000 in
theorem most_any (hw : IsWal w r p age lost) (hd : IsDev w p bs bw s) :
    Calls Try.prog 19 #[.pointer (some ⟨r, 0, none⟩)] w fun e w' => e = .returned (.int .i64 24) ∧ IsWal w' r p age (!rdy s age lost) ∧ IsDev w' p bs bw s ∧ Only [r] w w' := by
  have c1 := ready_any hw hd
  have hwd := fun k => hw.kept (Only.drewN [] w k) (by simp)
  have hdd := fun k => hd.drewN k
  have ha := hw.apart hd
  simp at ha
  have c2 := fun k => note_any (hwd k) (rdyE s age lost)
  rw [rdyE_lost] at c2
  clear hw hd hwd
  go_enter Try.func19, Try.ntmps19
  go_wp2_with (first
    | (go_at_call 43; refine c1.mono ?_; rintro e w' ⟨rfl, k, hw⟩; rw [hw]; clear hw w')
    | (go_at_call 42; refine (c2 k).mono ?_; rintro e w2 ⟨rfl, hw2, ho2⟩; have hd2 := (hdd k).kept ho2 (by simp; omega) (by simp; omega) (by simp; omega)))
  go_ret
  exact ⟨rfl, hw2, hd2, (Only.drewN _ _ k).trans ho2⟩

/-- What stands against a journal on a device. -/
def fitE (s : DevS) : Int := if s.up = false then 3 else if s.n < 32 then 4 else 0

set_option maxHeartbeats 400000 in
theorem fit_nil : Calls Try.prog 37 #[.pointer none] w fun e w' => e = .returned (.int .i64 1) ∧ w' = w := by
  go_enter Try.func37, Try.ntmps37
  go_wp2
  go_ret
  exact ⟨rfl, rfl⟩

set_option maxHeartbeats 400000 in
theorem fit_any (hd : IsDev w p bs bw s) : Calls Try.prog 37 #[.pointer (some ⟨p, 0, none⟩)] w fun e w' => e = .returned (.int .i64 (fitE s)) ∧ w' = w := by
  have cU := up_any hd
  have cS := sectors_any hd
  unfold fitE
  clear hd
  cases hu : s.up with
  | false =>
    rw [hu] at cU
    rw [if_pos rfl]
    go_enter Try.func37, Try.ntmps37
    go_wp2_with (first | (go_at_call 25; refine cU.mono ?_; rintro e w' ⟨rfl, hw⟩; rw [hw]; clear hw w'))
    go_ret
    exact ⟨rfl, rfl⟩
  | true =>
    rw [hu] at cU
    rw [if_neg (by simp)]
    by_cases hn : s.n < 32
    · have hn' : (s.n : Int) < 32 := by omega
      rw [if_pos hn]
      clear hn
      go_enter Try.func37, Try.ntmps37
      go_wp2_with (first | (go_at_call 25; refine cU.mono ?_; rintro e w' ⟨rfl, hw⟩; rw [hw]; clear hw w') | (go_at_call 57; refine cS.mono ?_; rintro e w' ⟨rfl, hw⟩; rw [hw]; clear hw w'))
      go_ret
      exact ⟨rfl, rfl⟩
    · have hn' : ¬ (s.n : Int) < 32 := by omega
      rw [if_neg hn]
      clear hn
      go_enter Try.func37, Try.ntmps37
      go_wp2_with (first | (go_at_call 25; refine cU.mono ?_; rintro e w' ⟨rfl, hw⟩; rw [hw]; clear hw w') | (go_at_call 57; refine cS.mono ?_; rintro e w' ⟨rfl, hw⟩; rw [hw]; clear hw w'))
      go_ret
      exact ⟨rfl, rfl⟩
end
end Go.Proofs.Ytblhmfkohbdmeaa
