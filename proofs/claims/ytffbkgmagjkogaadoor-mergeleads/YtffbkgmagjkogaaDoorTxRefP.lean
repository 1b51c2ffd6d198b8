/-
  The contracts of the reference's Points and Len.
-/
import Derived.Test.YtffbkgmagjkogaaDoorTxFirst
namespace Go.Proofs.YtffbkgmagjkogaaDoor
open Go.ChangeShapes Go.WideShapes Go.ChangeAt Go.RowKit Go.PlainAid

theorem suf_size (s : ByteArray) (a : Nat) : (s.extract a s.size).size = s.size - a := by rw [ByteArray.size_extract]; omega
theorem suf_bt (s : ByteArray) (a i : Nat) (h : a + i < s.size) : bt (s.extract a s.size) i = bt s (a + i) := by
  rw [bt_data _ _ (by rw [suf_size]; omega), bt_data s _ h]
  congr 2
  simp only [Lib.extract_data]
  simp
theorem suf_at {s : ByteArray} {a : Nat} {F : List UInt8} (ha : a ≤ s.size) : At (s.extract a s.size) 0 F ↔ At s a F := by
  constructor
  · rintro ⟨h1, h2⟩
    rw [suf_size] at h1
    exact ⟨by omega, fun i hi => by rw [← suf_bt s a i (by omega)]; simpa using h2 i hi⟩
  · rintro ⟨h1, h2⟩
    exact ⟨by rw [suf_size]; omega, fun i hi => by rw [Nat.zero_add, suf_bt s a i (by omega)]; exact h2 i hi⟩
theorem suf_nx (s : ByteArray) (a : Nat) (ha : a ≤ s.size) : nx (s.extract a s.size) 0 = nx s a := by
  by_cases h : (nx s a).2 = 0
  · by_cases h' : (nx (s.extract a s.size) 0).2 = 0
    · rw [nx_pair _ _ h, nx_pair _ _ h']
    · obtain ⟨n, _, g2, g3, _⟩ := nx_of h'
      have := nx_at g2 ((suf_at ha).1 g3)
      rw [this] at h
      have hl := ptB_len n
      simp only at h
      omega
  · obtain ⟨n, g1, g2, g3, g4⟩ := nx_of h
    rw [nx_at g2 ((suf_at ha).2 g3), ← g1, ← g4]
theorem suf_suf (s : ByteArray) (a b : Nat) : (s.extract a s.size).extract b (s.extract a s.size).size = s.extract (a + b) s.size := by
  apply ByteArray.ext
  apply Array.ext'
  simp only [Lib.extract_data, suf_size]
  apply List.ext_getElem?
  intro i
  simp only [List.getElem?_take, List.getElem?_drop]
  by_cases h : i < s.size - a - b
  · rw [if_pos (by omega), if_pos (by omega), if_pos (by omega)]
    congr 1; omega
  · rw [if_neg (by omega)]
    by_cases h2 : i < s.size - (a + b)
    · omega
    · rw [if_neg h2]

/-- How long a text in a slot is. -/
def szV : Value → Nat | .string s => s.size | _ => 0

theorem slice_tail (t : ByteArray) (k : Nat) (r : Int) (hr : r = (k : Int)) (W : World) (h : k ≤ t.size) :
    (Instr.slice 9 (.string t) (some (.int .i64 r)) none none).run Tryd.prog W = .ok (.string (t.extract k t.size)) W := by
  subst hr
  rw [run_slice_string_l (P := Tryd.prog) W 9 t Tryd.underlying9 .i64 (k : Int) (by omega) (by omega), show ((k : Int)).toNat = k by omega]

/-- A step of the reference, behind k code points. -/
theorem step_ok (s : ByteArray) (k : Nat) (hs : s.size ≤ 1048576) (hok : Ok s (k + 1)) :
    ∃ (t t' : ByteArray) (r1 r2 : Int), t = s.extract (pos s k) s.size ∧ t' = s.extract (pos s (k + 1)) s.size ∧ 0 < t.size ∧ t'.size < t.size ∧ t.size ≤ 1048576 ∧ (r2 == 0) = false ∧ ptL s (k + 1) = ptL s k ++ [r1] ∧
    (∀ W, Calls Tryd.prog 68 #[.string t] W fun e w' => e = .returned (.tuple #[.int .i64 r1, .int .i64 r2]) ∧ Below W.heap.size W w') ∧
    (∀ W, (Instr.slice 9 (.string t) (some (.int .i64 r2)) none none).run Tryd.prog W = .ok (.string t') W) := by
  have h1 := hok k (by omega)
  have h2 := nx_bd s _ h1.2
  have h3 := pos_succ h1.2
  have hsz := suf_size s (pos s k)
  have hnx := suf_nx s (pos s k) (by omega)
  refine ⟨s.extract (pos s k) s.size, s.extract (pos s (k + 1)) s.size, (nx s (pos s k)).1, (nx s (pos s k)).2, rfl, rfl, by omega, by rw [suf_size, suf_size]; omega, by omega, by simpa using h1.2, ptL_succ s k, fun W => ?_, fun W => ?_⟩
  · have := refFirst_any (s.extract (pos s k) s.size) W (by omega) (by omega)
    rwa [hnx] at this
  · have h4 : (nx s (pos s k)).2 = ((pos s (k + 1) - pos s k : Nat) : Int) := by omega
    rw [slice_tail _ _ _ h4 W (by rw [suf_size]; omega), suf_suf, show pos s k + (pos s (k + 1) - pos s k) = pos s (k + 1) by omega]

set_option maxRecDepth 20000 in
set_option maxHeartbeats 2000000 in
theorem refPoints_ok (s : ByteArray) (n : Nat) (w : World) (hs : s.size ≤ 1048576) (hv : Valid s n) :
    Calls Tryd.prog 39 #[.string s] w fun e w' => ∃ v, e = .returned (.tuple #[v, .bool true]) ∧ w'.ownsRow w.heap.size 3 1 v n (iv (ptL s n)) ∧ Below w.heap.size w w' := by
  have hnp := pos_le hv.1 n (Nat.le_refl _)
  obtain ⟨i0, hi, hz0, hz1, hz2⟩ := info_parts Tryd.info3
  go_enter Tryd.func39, Tryd.ntmps39
  go_wp2
  go_loopw [0, 4] (fun t v wr => ∃ (k : Nat) (T : ByteArray), k ≤ n ∧ t = .string T ∧ Hid (T = s.extract (pos s k) s.size) ∧ wr.ownsRow w.heap.size 3 1 v k (iv (ptL s k)) ∧ Below w.heap.size w wr) (fun t _ _ => szV t)
  case atStart => exact ⟨0, s, by omega, rfl, (extract_all s).symm, World.ownsRow_nil _ _ _ _, Below.refl _ _⟩
  case round =>
    obtain ⟨k, T, hk, rfl, HT, hown, hbl⟩ := hrel
    have hsz := hbl.size
    by_cases hlt : k < n
    · obtain ⟨t, t', r1, r2, e1, e2, p0, p1, p2, hne, HL0, hc, hsl⟩ := step_ok s k hs (ok_mono hv.1 (by omega))
      obtain rfl : T = t := by rw [HT.out, e1]
      have HL : Hid (ptL s (k + 1) = ptL s k ++ [r1]) := HL0
      have HT' : Hid (t' = s.extract (pos s (k + 1)) s.size) := e2
      clear e1 e2 HL0 HT
      go_wp2_with (first | (go_at_call 68; refine (hc _).mono ?_; rintro e w1 ⟨rfl, hb1⟩; have hs1 := hb1.size; have hown1 := own_below hown hb1; clear hc) | (at_builtin; refine wpList_append_own _ rfl (.tmp 17) (.tmp 19) 76 rfl w.heap.size 3 i0 (.int .i64 0) 1 8 Tryd.underlying76 hi hz0 hz1 hz2 rfl (by decide) _ _ _ rfl (hown1.alloc _) ⟨_, 0, none⟩ 1 1 [.int .i64 r1] rfl rfl (one_new _ _ _) (one_one _ rfl) (by unfold maxLen; omega) (by omega) (by simp; omega) ?_; intro v' w3 ho3 hg3 hnil3))
      have R1 := own_snocI ho3
      have R2 := below_app (Nat.le_refl _) (hbl.trans (hb1.mono hsz)) hown1 hg3
      rw [← HL.out] at R1
      clear ho3 hg3 hown hown1 hnil3
      go_roundw
      case rel => exact ⟨k + 1, t', by omega, rfl, HT', R1, R2⟩
      case measure => simp [szV]; omega
    · have e : k = n := by omega
      subst e
      have e2 : T.size = 0 := by rw [HT.out, suf_size, hv.2]; omega
      have e3 : ¬ (0 : Int) < (T.size : Int) := by omega
      clear e2
      go_wp2
      go_ret2
      exact ⟨_, rfl, hown, hbl⟩

set_option maxRecDepth 20000 in
set_option maxHeartbeats 2000000 in
theorem refPoints_bad (s : ByteArray) (n : Nat) (w : World) (hs : s.size ≤ 1048576) (hv : Bad s n) :
    Calls Tryd.prog 39 #[.string s] w fun e w' => e = .returned (.tuple #[.slice none 0 0, .bool false]) ∧ Below w.heap.size w w' := by
  have hnp := pos_le hv.1 n (Nat.le_refl _)
  obtain ⟨i0, hi, hz0, hz1, hz2⟩ := info_parts Tryd.info3
  go_enter Tryd.func39, Tryd.ntmps39
  go_wp2
  go_loopw [0, 4] (fun t v wr => ∃ (k : Nat) (T : ByteArray), k ≤ n ∧ t = .string T ∧ Hid (T = s.extract (pos s k) s.size) ∧ wr.ownsRow w.heap.size 3 1 v k (iv (ptL s k)) ∧ Below w.heap.size w wr) (fun t _ _ => szV t)
  case atStart => exact ⟨0, s, by omega, rfl, (extract_all s).symm, World.ownsRow_nil _ _ _ _, Below.refl _ _⟩
  case round =>
    obtain ⟨k, T, hk, rfl, HT, hown, hbl⟩ := hrel
    have hsz := hbl.size
    by_cases hlt : k < n
    · obtain ⟨t, t', r1, r2, e1, e2, p0, p1, p2, hne, HL0, hc, hsl⟩ := step_ok s k hs (ok_mono hv.1 (by omega))
      obtain rfl : T = t := by rw [HT.out, e1]
      have HL : Hid (ptL s (k + 1) = ptL s k ++ [r1]) := HL0
      have HT' : Hid (t' = s.extract (pos s (k + 1)) s.size) := e2
      clear e1 e2 HL0 HT
      go_wp2_with (first | (go_at_call 68; refine (hc _).mono ?_; rintro e w1 ⟨rfl, hb1⟩; have hs1 := hb1.size; have hown1 := own_below hown hb1; clear hc) | (at_builtin; refine wpList_append_own _ rfl (.tmp 17) (.tmp 19) 76 rfl w.heap.size 3 i0 (.int .i64 0) 1 8 Tryd.underlying76 hi hz0 hz1 hz2 rfl (by decide) _ _ _ rfl (hown1.alloc _) ⟨_, 0, none⟩ 1 1 [.int .i64 r1] rfl rfl (one_new _ _ _) (one_one _ rfl) (by unfold maxLen; omega) (by omega) (by simp; omega) ?_; intro v' w3 ho3 hg3 hnil3))
      have R1 := own_snocI ho3
      have R2 := below_app (Nat.le_refl _) (hbl.trans (hb1.mono hsz)) hown1 hg3
      rw [← HL.out] at R1
      clear ho3 hg3 hown hown1 hnil3
      go_roundw
      case rel => exact ⟨k + 1, t', by omega, rfl, HT', R1, R2⟩
      case measure => simp [szV]; omega
    · have e : k = n := by omega
      subst e
      obtain ⟨_, h2, h3⟩ := hv
      have p0 : 0 < T.size := by rw [HT.out, suf_size]; omega
      have hc : ∀ W, Calls Tryd.prog 68 #[.string T] W fun e w' => e = .returned (.tuple #[.int .i64 0, .int .i64 0]) ∧ Below W.heap.size W w' := fun W => by
        have h4 : T.size ≤ 1048576 := by rw [HT.out, suf_size]; omega
        have := refFirst_any T W h4 p0
        rwa [show nx T 0 = (0, 0) by rw [HT.out, suf_nx s _ (by omega)]; exact nx_pair _ _ h3] at this
      clear HT hown
      go_wp2_with (go_at_call 68; refine (hc _).mono ?_; rintro e w1 ⟨rfl, hb1⟩; clear hc)
      go_ret2
      exact ⟨rfl, hbl.trans (hb1.mono hsz)⟩
end Go.Proofs.YtffbkgmagjkogaaDoor
