/-
  looks: a device and the reference's that are the same are told to be.
-/
import Derived.Test.YthgdjgbikljbeaaRefE
import Derived.Test.YthgdjgbikljbeaaSame
import Derived.Test.YthgdjgbikljbeaaDevT
namespace Go.Proofs.Ythgdjgbikljbeaa
open Go.RowKit Go.Maps

/-- Block g is a row of numbers with room for n. -/
def Held (w : World) (g n : Nat) : Prop := ∃ cur, w.heap[g]? = some (.cells cur 3) ∧ n ≤ cur.size
theorem held_own {w : World} {base n : Nat} {v : Value} {L : List Value} (h : w.ownsRow base 3 1 v n L) : ∃ ao cp, v = .slice ao n cp ∧ (0 < n → ∃ g, ao = some ⟨g, 0, none⟩ ∧ base ≤ g ∧ n ≤ cp ∧ Held w g n) := by
  rcases h.2 with ⟨rfl, rfl⟩ | ⟨g, cap, cur, rfl, hb, hg, hn, _, hs, _⟩
  · exact ⟨none, 0, rfl, fun h => by omega⟩
  · exact ⟨_, cap, rfl, fun _ => ⟨g, rfl, hb, hn, cur, hg, by omega⟩⟩
theorem Held.below {w w' : World} {g n : Nat} (h : Held w g n) (hb : Below w.heap.size w w') : Held w' g n := by
  obtain ⟨cur, hg, r⟩ := h
  exact ⟨cur, (hb.block g (heap_lt hg)).trans hg, r⟩
theorem Held.cell {w : World} {g n k : Nat} (h : Held w g n) (hk : k < n) : (∃ v, w.cell? ⟨g, k, none⟩ = some v) ∧ w.frozen? ⟨g, k, none⟩ = false := by
  obtain ⟨cur, hg, r⟩ := h
  refine ⟨⟨cur[k]'(by omega), ?_⟩, frozen_at hg k⟩
  rw [cell_at hg]
  exact Array.getElem?_eq_getElem (by omega)
theorem Held.set {w : World} {g n : Nat} (h : Held w g n) (k : Nat) (v : Value) : Held (w.setCell ⟨g, k, none⟩ v) g n := by
  obtain ⟨cur, hg, r⟩ := h
  exact ⟨_, heap_setCell hg k v, by simpa using r⟩

set_option maxRecDepth 20000 in
set_option maxHeartbeats 4000000 in
theorem looks_true {w : World} {p bs bw q gs gi gw : Nat} {s : DevS} (hd : IsDev w p bs bw s) (hr : IsRef w q gs gi gw s) :
    Calls Try.prog 11 #[.pointer (some ⟨p, 0, none⟩), .pointer (some ⟨q, 0, none⟩)] w fun e w' => e = .returned (.bool true) ∧ Below w.heap.size w w' := by
  have hkl : s.keys.length ≤ 8192 := Nat.le_trans (keysF_le _ _) hd.hi
  go_enter Try.func11, Try.ntmps11
  go_wp2_with (first
    | (go_at_call 24; refine (sectors_any hd).mono ?_; rintro e w' ⟨rfl, hw⟩; rw [hw]; clear hw w')
    | (go_at_call 31; refine (rsectors_any hr).mono ?_; rintro e w' ⟨rfl, hw⟩; rw [hw]; clear hw w')
    | (go_at_call 23; refine (up_any hd).mono ?_; rintro e w' ⟨rfl, hw⟩; rw [hw]; clear hw w')
    | (go_at_call 32; refine (rup_any hr).mono ?_; rintro e w' ⟨rfl, hw⟩; rw [hw]; clear hw w')
    | (go_at_call 30; refine (age_any hd).mono ?_; rintro e w' ⟨rfl, hw⟩; rw [hw]; clear hw w')
    | (go_at_call 33; refine (rage_any hr).mono ?_; rintro e w' ⟨rfl, hw⟩; rw [hw]; clear hw w')
    | (go_at_call 21; refine (waiting_any hd).mono ?_; rintro e w1 ⟨v, rfl, hrow, _, hb1⟩)
    | (go_at_call 34; refine (rwaiting_any (hr.below hb1)).mono ?_; rintro e w2 ⟨v2, rfl, hrow2, hb2⟩)
    | (go_at_call 28; refine (same_true v v2 s.keys _ ((rdN_own hrow).below hb2) (rdN_own hrow2) hkl).mono ?_; rintro e w3 ⟨rfl, hb3⟩))
  obtain ⟨ao, cp, rfl, hao⟩ := held_own hrow
  have hB3 : Below w.heap.size w w3 := (hb1.trans (hb2.mono hb1.size)).trans (hb3.mono (Nat.le_trans hb1.size hb2.size))
  have hH3 : ∀ g, ao = some ⟨g, 0, none⟩ → 0 < s.keys.length → Held w3 g s.keys.length := by
    intro g hg h0
    obtain ⟨g', hg', _, _, hh⟩ := hao h0
    rw [hg] at hg'
    cases hg'
    exact (hh.below hb2).below hb3
  have hA : 0 < s.keys.length → ∃ g, ao = some ⟨g, 0, none⟩ ∧ w.heap.size ≤ g ∧ s.keys.length ≤ cp := fun h0 => by
    obtain ⟨g, hg, h1, h2, _⟩ := hao h0
    exact ⟨g, hg, h1, h2⟩
  clear hrow hrow2 hb1 hb2 hb3 hao
  go_loopw [7] (fun i wr => ∃ k : Nat, k ≤ s.keys.length ∧ i = .int .i64 (k : Int) ∧ Below w.heap.size w wr ∧ ∀ g, ao = some ⟨g, 0, none⟩ → 0 < s.keys.length → Held wr g s.keys.length)
    (fun i _ => s.keys.length - (intOf i).toNat)
  case atStart => exact ⟨0, Nat.zero_le _, rfl, hB3, hH3⟩
  case round =>
    obtain ⟨k, hk, rfl, hB, hH⟩ := hrel
    by_cases hlt : k < s.keys.length
    · have hlt' : (k : Int) < (s.keys.length : Int) := by omega
      obtain ⟨g, rfl, hg, hcp⟩ := hA (by omega)
      have hh := hH g rfl (by omega)
      obtain ⟨⟨u, hc⟩, hz⟩ := hh.cell hlt
      have hn := hh.set k (.int .i64 (-7))
      have hBn : Below w.heap.size w (wr.setCell ⟨g, k, none⟩ (.int .i64 (-7))) := hB.trans ((Only.setCell (S := [g]) (p := ⟨g, k, none⟩) wr (by simp) _).below hB.size (by simpa using hg))
      clear hh hH hH3 hB3 hA hd hr
      go_wp2_with fail
      go_roundw
      case rel =>
        refine ⟨k + 1, by omega, by go_num, hBn, fun g' e _ => ?_⟩
        cases e
        exact hn
      case measure => simp [intOf]; omega
    · obtain rfl : k = s.keys.length := by omega
      have hlt' : ¬ (s.keys.length : Int) < (s.keys.length : Int) := by omega
      clear hH hH3 hB3 hA
      go_wp2_with fail
      go_loopw [6, 8] (fun o i wr => ∃ z : Int, -1 ≤ z ∧ z ≤ 9 ∧ i = .int .i64 z ∧ o = .bool true ∧ Below w.heap.size w wr)
        (fun _ i _ => (9 - intOf i).toNat)
      case atStart => exact ⟨-1, by omega, by omega, rfl, rfl, hB⟩
      case round =>
        obtain ⟨z, hz0, hz1, rfl, rfl, hBz⟩ := hrel
        by_cases hzl : z ≤ 8
        · have hdz := hd.below hBz
          have hrz := hr.below hBz
          clear hd hr hB
          go_wp2_with (first
            | (go_at_call 26; refine (read_all hdz z (by omega) (by omega)).mono ?_; rintro e w5 ⟨rfl, hb5⟩; have hd5 := hdz.below hb5; have hr5 := hrz.below hb5)
            | (go_at_call 35; refine (rread_all hr5 z).mono ?_; rintro e w' ⟨rfl, hw⟩; rw [hw]; clear hw w')
            | (go_at_call 25; refine (safe_all hd5 z).mono ?_; rintro e w6 ⟨rfl, hb6⟩; have hr6 := hr5.below hb6)
            | (go_at_call 36; refine (rsafe_all hr6 z).mono ?_; rintro e w' ⟨rfl, hw⟩; rw [hw]; clear hw w'))
          have hB6 : Below w.heap.size w w6 := (hBz.trans (hb5.mono hBz.size)).trans (hb6.mono (Nat.le_trans hBz.size hb5.size))
          go_roundw
          case rel => exact ⟨z + 1, by omega, by omega, by go_num, rfl, hB6⟩
          case measure => simp [intOf]; omega
        · clear hd hr
          go_wp2_with fail
          go_ret
          exact ⟨rfl, hBz⟩
end Go.Proofs.Ythgdjgbikljbeaa
