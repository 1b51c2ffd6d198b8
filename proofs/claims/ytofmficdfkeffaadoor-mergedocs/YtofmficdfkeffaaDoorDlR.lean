/-
  The contracts of Apply, of the reference's Same, and of live.
-/
import Derived.Test.YtofmficdfkeffaaDoorDlP
import Derived.Deep.QuietTactic
import Derived.BigQuiet
namespace Go.Proofs.YtofmficdfkeffaaDoor
open Go.ChangeShapes Go.WideShapes Go.ChangeAt Go.RowKit Go.PlainAid

/-- What Apply gives. -/
def apR (s : ByteArray) (ds : List OpD) : ByteArray × Int :=
  if cpl s < 0 then (⟨#[]⟩, 10) else if chk ds ≠ 0 then (⟨#[]⟩, chk ds) else if (bsum (stR ds) : Int) ≠ cpl s then (⟨#[]⟩, 91) else (mk (enc (apRun (pts s) (stR ds))), 0)

theorem pts_ok {t : ByteArray} (h : 0 ≤ cpl t) : ∀ z ∈ pts t, szI z ≠ 0 := (whole_eq (cpl_valid h)).2
theorem apRun_ok : ∀ (l : List St) (zs : List Int), (∀ s ∈ l, s.Ok) → (∀ z ∈ zs, szI z ≠ 0) → ∀ z ∈ apRun zs l, szI z ≠ 0
  | [], _, _, _ => by simp [apRun]
  | .keep n :: l, zs, ho, hz => by
    intro z h
    rw [apRun, List.mem_append] at h
    rcases h with h | h
    · exact hz z (List.mem_of_mem_take h)
    · exact apRun_ok l _ (fun s hs => ho s (by simp [hs])) (fun x hx => hz x (List.mem_of_mem_drop hx)) z h
  | .rem n :: l, zs, ho, hz => by
    intro z h
    rw [apRun] at h
    exact apRun_ok l _ (fun s hs => ho s (by simp [hs])) (fun x hx => hz x (List.mem_of_mem_drop hx)) z h
  | .ins t :: l, zs, ho, hz => by
    intro z h
    rw [apRun, List.mem_append] at h
    rcases h with h | h
    · exact pts_ok (t := t) (by have := ho (.ins t) (by simp); simp only [St.Ok] at this; omega) z h
    · exact apRun_ok l _ (fun s hs => ho s (by simp [hs])) hz z h

theorem rdp_reads {w : World} {base n : Nat} {v : Value} {zs : List Int} (h : w.ownsRow base 3 1 v n (iv zs)) : ReadsI w v zs := by
  have hl := h.1
  rw [iv_length, Nat.mul_one] at hl
  subst hl
  exact readsI_own h

set_option maxHeartbeats 2000000 in
theorem apply_any (s : ByteArray) (v : Value) (ds : List OpD) (w : World) (hs : s.size ≤ maxLen) (hr : RdD w v ds) (hm : ds.length ≤ maxLen) (hi : ∀ o ∈ ds, o.In) :
    Calls Tryd.prog 19 #[.string s, v] w fun e w' => e = .returned (.tuple #[.string (apR s ds).1, .int .i64 (apR s ds).2]) ∧ Below w.heap.size w w' := by
  have hL := len_any s w hs
  by_cases c0 : cpl s < 0
  · have e : apR s ds = (⟨#[]⟩, 10) := by rw [apR, if_pos c0]
    rw [e]
    generalize cpl s = n at *
    go_enter Tryd.func19, Tryd.ntmps19
    go_wp2_with (go_at_call 41; refine hL.mono ?_; rintro e w1 ⟨rfl, rfl⟩)
    go_ret2
    exact ⟨rfl, Below.refl _ _⟩
  · have hS := stepsOf_any v ds w hr hm hi
    have hok := stR_ok hi
    by_cases c1 : chk ds = 0
    · have hbd := stR_bd ds
      have hG := fun u W h => lengths_any u (stR ds) W h (stR_len ds) hok
      rw [c1] at hS
      by_cases c2 : (bsum (stR ds) : Int) = cpl s
      · have HR : Hid (apR s ds = (mk (enc (apRun (pts s) (stR ds))), 0)) := by show _ = _; rw [apR, if_neg c0, if_neg (fun h => h c1), if_neg (fun h => h c2)]
        have hsz : s.size ≤ 4000 := by
          by_cases h : 0 < cpl s
          · have := size_cpl h; omega
          · have hv := cpl_valid (s := s) (by omega)
            have h0 : (cpl s).toNat = 0 := by omega
            rw [h0] at hv
            have := hv.2
            simp [pos] at this
            omega
        have hpl := pts_len (t := s) (by omega)
        have hP := fun W => points_any s W (by omega) (by omega)
        have hA := fun v0 u W h1 h2 => applied_any v0 u (pts s) (stR ds) W h1 h2 (stR_len ds) hok (by omega) hbd.1 hbd.2
        have hal := apRun_len (stR ds) (pts s) (by omega)
        have hX := fun u W h => text_any u (apRun (pts s) (stR ds)) W (by omega) h
        have hxe : textR (apRun (pts s) (stR ds)) = (mk (enc (apRun (pts s) (stR ds))), true) := by rw [textR, if_pos (apRun_ok _ _ hok (pts_ok (by omega)))]
        rw [hxe] at hX
        simp only at hX
        obtain ⟨n, hn⟩ := Int.eq_ofNat_of_zero_le (show 0 ≤ cpl s by omega)
        have hbn : bsum (stR ds) = n := by omega
        rw [hn] at hL
        rw [hbn] at hG
        clear hxe hpl c0 c2 hn hal hbd hok
        generalize mk (enc (apRun (pts s) (stR ds))) = res at *
        go_enter Tryd.func19, Tryd.ntmps19
        go_wp2_with (first | (go_at_call 41; refine hL.mono ?_; rintro e w1 ⟨rfl, rfl⟩) | (go_at_call 42; refine hS.mono ?_; rintro e w2 ⟨u, rfl, ho2, hb2⟩) | (go_at_call 43; refine (hG _ _ (rdv_own ho2)).mono ?_; rintro e w3 ⟨rfl, rfl⟩) | (go_at_call 44; refine (hP _).mono ?_; rintro e w4 ⟨u4, rfl, ho4, hb4⟩) | (go_at_call 46; refine (hA _ _ _ (rdp_own ho4) ((rdv_own ho2).below hb4)).mono ?_; rintro e w5 ⟨u5, rfl, ho5, hb5⟩) | (go_at_call 45; refine (hX _ _ (rdp_reads ho5)).mono ?_; rintro e w6 ⟨rfl, hb6⟩))
        go_ret2
        exact ⟨by rw [HR.out]; rfl, chain (chain (chain hb2 hb4) hb5) hb6⟩
      · have e : apR s ds = (⟨#[]⟩, 91) := by rw [apR, if_neg c0, if_neg (fun h => h c1), if_pos c2]
        rw [e]
        have hne : ((bsum (stR ds) : Int) != cpl s) = true := by simpa using c2
        clear c2 hbd
        generalize bsum (stR ds) = B at *
        generalize cpl s = n at *
        go_enter Tryd.func19, Tryd.ntmps19
        go_wp2_with (first | (go_at_call 41; refine hL.mono ?_; rintro e w1 ⟨rfl, rfl⟩) | (go_at_call 42; refine hS.mono ?_; rintro e w2 ⟨u, rfl, ho2, hb2⟩) | (go_at_call 43; refine (hG _ _ (rdv_own ho2)).mono ?_; rintro e w3 ⟨rfl, rfl⟩))
        go_ret2
        exact ⟨rfl, hb2⟩
    · have e : apR s ds = (⟨#[]⟩, chk ds) := by rw [apR, if_neg c0, if_pos c1]
      rw [e]
      have hne : (chk ds != 0) = true := by simpa using c1
      clear e
      generalize chk ds = c at *
      generalize cpl s = n at *
      go_enter Tryd.func19, Tryd.ntmps19
      go_wp2_with (first | (go_at_call 41; refine hL.mono ?_; rintro e w1 ⟨rfl, rfl⟩) | (go_at_call 42; refine hS.mono ?_; rintro e w2 ⟨u, rfl, ho2, hb2⟩))
      go_ret2
      exact ⟨rfl, hb2⟩

set_option maxRecDepth 20000 in
set_option maxHeartbeats 2000000 in
theorem same_true (va vb : Value) (l : List OpD) (w : World) (hm : l.length ≤ maxLen) (ha : RdD w va l) (hb : RdD w vb l) :
    Calls Tryd.prog 16 #[va, vb] w fun e w' => e = .returned (.bool true) ∧ Below w.heap.size w w' := by
  obtain ⟨ao, ac, rfl, _, hac⟩ := ha
  obtain ⟨bo, bc, rfl, _, hbc⟩ := hb
  unfold maxLen at hm
  go_enter Tryd.func16, Tryd.ntmps16
  go_wp2
  go_loopw [5] (fun i wr => ∃ k : Nat, k ≤ l.length ∧ i = .int .i64 (k : Int) ∧ Below w.heap.size w wr) (fun i _ => l.length - (intOf i).toNat)
  case atStart => exact ⟨0, by omega, rfl, Below.refl _ _⟩
  case round =>
    obtain ⟨k, hk, rfl, hbl⟩ := hrel
    by_cases hlt : k < l.length
    · have hlt' : (k : Int) < (l.length : Int) := by omega
      obtain ⟨b1, o1, rfl, hb1, c0, c1, c2⟩ := hac k l[k] (by simp [hlt])
      obtain ⟨b2, o2, rfl, hb2, d0, d1, d2⟩ := hbc k l[k] (by simp [hlt])
      have hB1 : ∀ o, wr.cell? ⟨b1, o, none⟩ = w.cell? ⟨b1, o, none⟩ := fun o => hbl.cell (p := ⟨b1, o, none⟩) hb1
      have hB2 : ∀ o, wr.cell? ⟨b2, o, none⟩ = w.cell? ⟨b2, o, none⟩ := fun o => hbl.cell (p := ⟨b2, o, none⟩) hb2
      rw [← hB1] at c0 c1 c2
      rw [← hB2] at d0 d1 d2
      clear hB1 hB2 hac hbc
      generalize l[k] = o at *
      go_wp2
      go_quiet (fail)
      go_wp2
      go_roundw
      case rel => exact ⟨k + 1, by omega, by go_num, below_drewN hbl _⟩
      case measure => simp [intOf]; omega
    · clear hac hbc
      go_wp2
      go_ret
      exact ⟨rfl, hbl⟩
end Go.Proofs.YtofmficdfkeffaaDoor
