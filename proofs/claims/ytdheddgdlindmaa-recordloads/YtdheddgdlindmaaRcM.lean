/-
  The reference of record: two, Name.
-/
import Derived.Test.YtdheddgdlindmaaRcL
namespace Go.Proofs.Ytdheddgdlindmaa
open Go.ChangeShapes Go.WideShapes Go.ChangeAt Go.RowKit Go.PlainAid

set_option maxRecDepth 20000 in
set_option maxHeartbeats 1000000 in
theorem two15_any (i : Int) (w : World) (h0 : 0 ≤ i) (h1 : i ≤ 65535) : Calls Try.prog 25 #[.int .i64 i] w fun e w' => e = .returned (.string (mk [UInt8.ofNat (i.toNat / 256), UInt8.ofNat i.toNat])) ∧ Below w.heap.size w w' := by
  have hk : (bv [UInt8.ofNat (i.toNat / 256), UInt8.ofNat i.toNat]).toArray = #[.int .u8 (i / 256), .int .u8 (i % 256)] := by
    have e1 : (((UInt8.ofNat (i.toNat / 256)).toNat : Nat) : Int) = i / 256 := by rw [UInt8.toNat_ofNat']; omega
    have e2 : (((UInt8.ofNat i.toNat).toNat : Nat) : Int) = i % 256 := by rw [UInt8.toNat_ofNat']; omega
    simp only [bv, List.map_cons, List.map_nil, e1, e2]
  have hc := key_conv (heap_alloc_new w (.cells (bv [UInt8.ofNat (i.toNat / 256), UInt8.ofNat i.toNat]).toArray 5))
  rw [hk] at hc
  have hal := alloc_bR w (.cells #[.int .u8 (i / 256), .int .u8 (i % 256)] 5)
  simp only [List.length_cons, List.length_nil] at hc
  generalize mk [UInt8.ofNat (i.toNat / 256), UInt8.ofNat i.toNat] = S at *
  clear hk
  have q1 : i.tdiv 256 = i / 256 := Int.tdiv_eq_ediv_of_nonneg h0
  have q2 : i.tmod 256 = i % 256 := Int.tmod_eq_emod_of_nonneg h0
  have q3 : (i / 256).tmod 256 = i / 256 := by rw [Int.tmod_eq_emod_of_nonneg (by omega)]; omega
  go_enter Try.func25, Try.ntmps25
  go_wp2_with fail
  go_ret
  exact ⟨rfl, hal⟩
theorem ch_bt {c : UInt8} {z : Int} (h : z = (c.toNat : Int)) : chOk c = ((decide (97 ≤ z) && decide (z ≤ 122)) || (decide (48 ≤ z) && decide (z ≤ 57))) := by
  subst h
  unfold chOk
  rw [decide_eq_decide.2 (show 97 ≤ c.toNat ↔ (97 : Int) ≤ (c.toNat : Int) by omega), decide_eq_decide.2 (show c.toNat ≤ 122 ↔ (c.toNat : Int) ≤ 122 by omega), decide_eq_decide.2 (show 48 ≤ c.toNat ↔ (48 : Int) ≤ (c.toNat : Int) by omega), decide_eq_decide.2 (show c.toNat ≤ 57 ↔ (c.toNat : Int) ≤ 57 by omega)]
set_option maxRecDepth 20000 in
set_option maxHeartbeats 1000000 in
theorem name15_any (s : ByteArray) (w : World) (hs : s.size ≤ 140737488355328) :
    Calls Try.prog 76 #[.string s] w fun e w' => e = .returned (.bool (nmOk s)) ∧ Below w.heap.size w w' := by
  have hdl := data_len s
  have hb := get_bt s
  have c3 := within15_any (s.size : Int) 1 12 w
  obtain ⟨R, HR⟩ : ∃ R, Hid (nmOk s = R) := ⟨_, rfl⟩
  rw [HR.out]
  go_enter Try.func76, Try.ntmps76
  go_wp2_with fail
  go_loopw [3] (fun i wr => ∃ k : Nat, k ≤ s.size ∧ i = .int .i64 (k : Int) ∧ wr = w ∧ Hid ((s.data.toList.take k).all chOk = true)) (fun i _ => s.size - (Go.RowKit.intOf i).toNat)
  case atStart => exact ⟨0, by omega, rfl, rfl, (by show _ = _; rfl)⟩
  case round =>
    obtain ⟨k, hk, rfl, rfl, HA⟩ := hrel
    by_cases hlt : k < s.size
    · have hlt' : (k : Int) < (s.size : Int) := by omega
      have hltL : k < s.data.toList.length := by omega
      have hc := ch_bt (bt_data s k hlt)
      have h0 := bt_nonneg s k
      have h1 := bt_le s k
      have Hno : chOk s.data.toList[k] = false → R = false := fun h => by
        rw [← HR.out, nmOk]
        have : s.data.toList.all chOk = false := List.all_eq_false.2 ⟨_, List.getElem_mem hltL, by rw [h]; decide⟩
        rw [this, Bool.and_false]
      have Hyes : chOk s.data.toList[k] = true → Hid ((s.data.toList.take (k + 1)).all chOk = true) := fun h => by
        show _ = _
        rw [List.take_succ_eq_append_getElem hltL, List.all_append, HA.out, Bool.true_and, List.all_cons, h, List.all_nil]
        rfl
      rw [hc] at Hno Hyes
      have w1 := within15_any (bt s k) 97 122 wr
      have w2 := within15_any (bt s k) 48 57 wr
      generalize (decide (97 ≤ bt s k) && decide (bt s k ≤ 122)) = t1 at *
      generalize (decide (48 ≤ bt s k) && decide (bt s k ≤ 57)) = t2 at *
      clear hc HA HR c3
      go_wp2_with fail
      refine w1.mono ?_
      rintro e wx ⟨rfl, rfl⟩
      cases t1 with
      | true =>
        have H2 := Hyes rfl
        clear Hno Hyes w1 w2
        go_wp2_with fail
        exact ⟨⟨k + 1, by omega, by go_num, trivial, H2⟩, by simp [Go.RowKit.intOf]; omega⟩
      | false =>
        go_wp2_with fail
        refine w2.mono ?_
        rintro e wy ⟨rfl, rfl⟩
        cases t2 with
        | true =>
          have H2 := Hyes rfl
          clear Hno Hyes w1 w2
          go_wp2_with fail
          exact ⟨⟨k + 1, by omega, by go_num, trivial, H2⟩, by simp [Go.RowKit.intOf]; omega⟩
        | false =>
          have e := Hno rfl
          subst e
          clear Hno Hyes w1 w2
          go_wp2_with fail
          go_ret
          exact ⟨rfl, Below.refl _ _⟩
    · have hlt' : ¬ (k : Int) < (s.size : Int) := by omega
      have e : R = (decide ((1 : Int) ≤ (s.size : Int)) && decide ((s.size : Int) ≤ 12)) := by
        have h := HA.out
        rw [List.take_of_length_le (by omega)] at h
        rw [← HR.out, nmOk, h, Bool.and_true, decide_eq_decide.2 (show 1 ≤ s.size ↔ (1 : Int) ≤ (s.size : Int) by omega), decide_eq_decide.2 (show s.size ≤ 12 ↔ (s.size : Int) ≤ 12 by omega)]
      generalize (decide ((1 : Int) ≤ (s.size : Int)) && decide ((s.size : Int) ≤ 12)) = t at *
      subst e
      clear HA HR
      go_wp2_with fail
      refine c3.mono ?_
      rintro e wx ⟨rfl, rfl⟩
      go_wp2_with fail
      go_ret
      exact ⟨rfl, Below.refl _ _⟩
end Go.Proofs.Ytdheddgdlindmaa
