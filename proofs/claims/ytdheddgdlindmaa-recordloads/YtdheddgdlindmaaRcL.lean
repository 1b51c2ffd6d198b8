/-
  The reference of record: within, num, text, numbers, two, SamePairs and ints of equal rows.
-/
import Derived.Test.YtdheddgdlindmaaRcK
import Derived.Test.YtdheddgdlindmaaPkRefW
namespace Go.Proofs.Ytdheddgdlindmaa
open Go.ChangeShapes Go.WideShapes Go.ChangeAt Go.RowKit Go.PlainAid

theorem within15_any (n lo hi : Int) (w : World) : Calls Try.prog 52 #[.int .i64 n, .int .i64 lo, .int .i64 hi] w fun e w' => e = .returned (.bool (decide (lo ≤ n) && decide (n ≤ hi))) ∧ w' = w := by
  by_cases h : n ≥ lo
  · have e : decide (lo ≤ n) = true := decide_eq_true (by omega)
    rw [e, Bool.true_and]
    go_enter Try.func52, Try.ntmps52
    go_wp2_with fail
    go_ret
    exact ⟨rfl, rfl⟩
  · have e : decide (lo ≤ n) = false := decide_eq_false (by omega)
    rw [e, Bool.false_and]
    go_enter Try.func52, Try.ntmps52
    go_wp2_with fail
    go_ret
    exact ⟨rfl, rfl⟩
theorem num15_any (n : Int) (w : World) (h0 : 0 ≤ n) (h1 : n ≤ 1125899906842624) : Calls Try.prog 26 #[.int .i64 n] w fun e w' => e = .returned (.string (mk (numB n.toNat))) ∧ Below w.heap.size w w' := by
  have c := pk.refNumW_ok n.toNat w (by omega)
  rw [Int.toNat_of_nonneg h0] at c
  go_enter Try.func26, Try.ntmps26
  go_wp2_with (go_at_call 56; refine c.mono ?_; rintro e w1 ⟨rfl, hb⟩)
  go_ret
  exact ⟨rfl, hb⟩
theorem text15_any (t : ByteArray) (w : World) (h1 : t.size ≤ maxLen) : Calls Try.prog 27 #[.string t] w fun e w' => e = .returned (.string (pk.textR t).1) ∧ Below w.heap.size w w' := by
  have c := pk.refTextW_any t w h1
  generalize pk.textR t = R at *
  go_enter Try.func27, Try.ntmps27
  go_wp2_with (go_at_call 57; refine c.mono ?_; rintro e w1 ⟨rfl, hb⟩)
  go_ret
  exact ⟨rfl, hb⟩
set_option maxRecDepth 20000 in
set_option maxHeartbeats 1000000 in
theorem numbers15_any (v : Value) (l : List Int) (w : World) (hr : RdI w v l) (hl : NumsOk l) :
    Calls Try.prog 28 #[v] w fun e w' => e = .returned (.string (mk (nmB (l.length :: l.map Int.toNat)))) ∧ Below w.heap.size w w' := by
  obtain ⟨ao, cp, rfl, hcs⟩ := hr
  have hl1 := hl.1
  have c1 := num15_any (l.length : Int) w (by omega) (by omega)
  rw [Int.toNat_natCast] at c1
  obtain ⟨R, HR⟩ : ∃ R, Hid (mk (nmB (l.length :: l.map Int.toNat)) = R) := ⟨_, rfl⟩
  rw [HR.out]
  have hA : Hid (mk (numB l.length) = mk (nmB (l.length :: (l.take 0).map Int.toNat))) := by show _ = _; simp [nmB]
  go_enter Try.func28, Try.ntmps28
  go_wp2_with fail
  refine c1.mono ?_
  rintro e w1 ⟨rfl, hb1⟩
  clear c1
  go_wp2_with fail
  go_loopw [3, 4] (fun sv i wr => ∃ k : Nat, k ≤ l.length ∧ i = .int .i64 (k : Int) ∧ sv = .string (mk (nmB (l.length :: (l.take k).map Int.toNat))) ∧ Below w.heap.size w wr) (fun _ i _ => l.length - (Go.RowKit.intOf i).toNat)
  case atStart => exact ⟨0, by omega, rfl, by rw [hA.out], hb1⟩
  case round =>
    obtain ⟨k, hk, rfl, rfl, hbl⟩ := hrel
    by_cases hlt : k < l.length
    · have hlt' : (k : Int) < (l.length : Int) := by omega
      obtain ⟨b, off, rfl, hb, c0⟩ := hcs k l[k] (by simp [hlt])
      rw [← hbl.cell (p := ⟨b, off + k, none⟩) hb] at c0
      obtain ⟨hn0, hn1⟩ := hl.2 l[k] (List.getElem_mem hlt)
      have cN := num15_any l[k] wr hn0 hn1
      have hlen := nmB_len (l.length :: (l.take k).map Int.toNat)
      rw [List.length_cons, List.length_map, List.length_take] at hlen
      have hns := numB_len (n := l[k].toNat)
      have hadd := fun W => pk.add_mk (nmB (l.length :: (l.take k).map Int.toNat)) (numB l[k].toNat) W (by omega)
      have e2 : nmB (l.length :: (l.take k).map Int.toNat) ++ numB l[k].toNat = nmB (l.length :: (l.take (k + 1)).map Int.toNat) := by
        rw [List.take_succ_eq_append_getElem hlt, List.map_append]
        simp [nmB]
      rw [e2] at hadd
      obtain ⟨S2, HS2⟩ : ∃ S2, Hid (S2 = mk (nmB (l.length :: (l.take (k + 1)).map Int.toNat))) := ⟨_, rfl⟩
      rw [← HS2.out] at hadd
      generalize mk (nmB (l.length :: (l.take k).map Int.toNat)) = S1 at *
      generalize mk (numB l[k].toNat) = S0 at *
      generalize l[k] = n at *
      clear hcs e2 hlen hns hA HR
      go_wp2_with fail
      refine cN.mono ?_
      rintro e w2 ⟨rfl, hb2⟩
      clear cN c0
      go_wp2_with fail
      exact ⟨⟨k + 1, by omega, by go_num, by rw [HS2.out], hbl.trans (hb2.mono hbl.size)⟩, by simp [Go.RowKit.intOf]; omega⟩
    · have hlt' : ¬ (k : Int) < (l.length : Int) := by omega
      rw [List.take_of_length_le (by omega), HR.out]
      clear hcs
      go_wp2_with fail
      go_ret
      exact ⟨rfl, hbl⟩
set_option maxRecDepth 20000 in
set_option maxHeartbeats 1000000 in
theorem samePa_true (va vb : Value) (A : List PaD) (w : World) (hA : RdPa w va A) (hB : RdPa w vb A) (hm : A.length ≤ 9223372036854775000) :
    Calls Try.prog 11 #[va, vb] w fun e w' => e = .returned (.bool true) ∧ Below w.heap.size w w' := by
  obtain ⟨ao, ac, rfl, hac⟩ := hA
  obtain ⟨bo, bc, rfl, hbc⟩ := hB
  go_enter Try.func11, Try.ntmps11
  go_wp2_with fail
  go_loopw [5] (fun i wr => ∃ k : Nat, k ≤ A.length ∧ i = .int .i64 (k : Int) ∧ Below w.heap.size w wr) (fun i _ => A.length - (Go.RowKit.intOf i).toNat)
  case atStart => exact ⟨0, by omega, rfl, Below.refl _ _⟩
  case round =>
    obtain ⟨k, hk, rfl, hbl⟩ := hrel
    by_cases hlt : k < A.length
    · have hlt' : (k : Int) < (A.length : Int) := by omega
      obtain ⟨b1, o1, rfl, hb1, c0, c1⟩ := hac k A[k] (by simp [hlt])
      obtain ⟨b2, o2, rfl, hb2, d0, d1⟩ := hbc k A[k] (by simp [hlt])
      rw [← hbl.cell (p := ⟨b1, _, none⟩) hb1] at c0 c1
      rw [← hbl.cell (p := ⟨b2, _, none⟩) hb2] at d0 d1
      clear hac hbc
      generalize A[k] = y at *
      go_wp2_with fail
      go_region
      go_wp2_with fail
      exact ⟨⟨k + 1, by omega, by go_num, Below.drew hbl⟩, by simp [Go.RowKit.intOf]; omega⟩
    · have hlt' : ¬ (k : Int) < (A.length : Int) := by omega
      clear hac hbc
      go_wp2_with fail
      go_ret
      exact ⟨rfl, hbl⟩
set_option maxRecDepth 20000 in
set_option maxHeartbeats 1000000 in
theorem ints_true (va vb : Value) (A : List Int) (w : World) (hA : RdI w va A) (hB : RdI w vb A) (hm : A.length ≤ 9223372036854775000) :
    Calls Try.prog 30 #[va, vb] w fun e w' => e = .returned (.bool true) ∧ Below w.heap.size w w' := by
  obtain ⟨ao, ac, rfl, hac⟩ := hA
  obtain ⟨bo, bc, rfl, hbc⟩ := hB
  go_enter Try.func30, Try.ntmps30
  go_wp2_with fail
  go_loopw [5] (fun i wr => ∃ k : Nat, k ≤ A.length ∧ i = .int .i64 (k : Int) ∧ Below w.heap.size w wr) (fun i _ => A.length - (Go.RowKit.intOf i).toNat)
  case atStart => exact ⟨0, by omega, rfl, Below.refl _ _⟩
  case round =>
    obtain ⟨k, hk, rfl, hbl⟩ := hrel
    by_cases hlt : k < A.length
    · have hlt' : (k : Int) < (A.length : Int) := by omega
      obtain ⟨b1, o1, rfl, hb1, c0⟩ := hac k A[k] (by simp [hlt])
      obtain ⟨b2, o2, rfl, hb2, d0⟩ := hbc k A[k] (by simp [hlt])
      rw [← hbl.cell (p := ⟨b1, _, none⟩) hb1] at c0
      rw [← hbl.cell (p := ⟨b2, _, none⟩) hb2] at d0
      clear hac hbc
      generalize A[k] = y at *
      go_wp2_with fail
      go_region
      go_wp2_with fail
      exact ⟨⟨k + 1, by omega, by go_num, Below.drew hbl⟩, by simp [Go.RowKit.intOf]; omega⟩
    · have hlt' : ¬ (k : Int) < (A.length : Int) := by omega
      clear hac hbc
      go_wp2_with fail
      go_ret
      exact ⟨rfl, hbl⟩
end Go.Proofs.Ytdheddgdlindmaa
