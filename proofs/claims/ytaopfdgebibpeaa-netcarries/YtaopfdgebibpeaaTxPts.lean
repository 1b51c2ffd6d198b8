/-
  What text.next gives, in plain numbers; its contract, and those of first, sizeOf, tail.
-/
import Derived.Test.YtaopfdgebibpeaaRows
import Derived.Test.YtaopfdgebibpeaaTxPlain
import Derived.WalkLawsBesides
import Derived.Handy
namespace Go.Proofs.Ytaopfdgebibpeaa
open Go.ChangeShapes Go.WideShapes Go.ChangeAt Go.RowKit Go.PlainAid

/-- What a first byte tells: the bits that it carries, how many bytes there are. -/
def fstB (b : Int) : Int × Int := if b < 128 then (b, 1) else if b / 32 = 6 then (b % 32, 2) else if b / 16 = 14 then (b % 16, 3) else if b / 8 = 30 then (b % 8, 4) else (0, 0)
/-- How many bytes a code point has; 0: it is none. -/
def szI (v : Int) : Int := if v < 0 ∨ 1114111 < v ∨ (55296 ≤ v ∧ v ≤ 57343) then 0 else if v < 128 then 1 else if v < 2048 then 2 else if v < 65536 then 3 else 4
/-- The bytes behind the first one. -/
def nxGo (s : ByteArray) (at' : Nat) : Nat → Nat → Int → Option Int
  | 0, _, v => some v
  | f + 1, i, v => if bt s (at' + i) / 64 = 2 then nxGo s at' f (i + 1) (v * 64 + bt s (at' + i) % 64) else none
/-- The code point at a place, and how many bytes it has. -/
def nx (s : ByteArray) (at' : Nat) : Int × Int :=
  if (s.size : Int) - (at' : Int) < (fstB (bt s at')).2 then (0, 0)
  else match nxGo s at' ((fstB (bt s at')).2.toNat - 1) 1 (fstB (bt s at')).1 with
    | none => (0, 0)
    | some v => if szI v = (fstB (bt s at')).2 then (v, (fstB (bt s at')).2) else (0, 0)

theorem fstB_bd (b : Int) (h0 : 0 ≤ b) (h1 : b ≤ 255) : 0 ≤ (fstB b).1 ∧ (fstB b).1 ≤ 127 ∧ 0 ≤ (fstB b).2 ∧ (fstB b).2 ≤ 4 := by
  unfold fstB
  split
  · simp only; omega
  · split
    · simp only; omega
    · split
      · simp only; omega
      · split <;> simp only <;> omega

theorem first_any (b : Int) (w : World) (h0 : 0 ≤ b) (h1 : b ≤ 255) :
    Calls Try.prog 51 #[.int .u8 b] w fun e w' => e = .returned (.tuple #[.int .i64 (fstB b).1, .int .i64 (fstB b).2]) ∧ w = w' := by
  have a31 := u8_and31 (x := b) h0 (by omega)
  have a15 := u8_and15 (x := b) h0 (by omega)
  have a7 := u8_and7 (x := b) h0 (by omega)
  by_cases c1 : b < 128
  · have e : fstB b = (b, 1) := by rw [fstB, if_pos c1]
    rw [e]
    go_enter Try.func51, Try.ntmps51
    go_wp2
    go_ret2
    exact ⟨rfl, rfl⟩
  · by_cases c2 : b / 32 = 6
    · have e : fstB b = (b % 32, 2) := by rw [fstB, if_neg c1, if_pos c2]
      rw [e]
      go_enter Try.func51, Try.ntmps51
      go_wp2
      go_ret2
      exact ⟨rfl, rfl⟩
    · by_cases c3 : b / 16 = 14
      · have e : fstB b = (b % 16, 3) := by rw [fstB, if_neg c1, if_neg c2, if_pos c3]
        rw [e]
        go_enter Try.func51, Try.ntmps51
        go_wp2
        go_ret2
        exact ⟨rfl, rfl⟩
      · by_cases c4 : b / 8 = 30
        · have e : fstB b = (b % 8, 4) := by rw [fstB, if_neg c1, if_neg c2, if_neg c3, if_pos c4]
          rw [e]
          go_enter Try.func51, Try.ntmps51
          go_wp2
          go_ret2
          exact ⟨rfl, rfl⟩
        · have e : fstB b = (0, 0) := by rw [fstB, if_neg c1, if_neg c2, if_neg c3, if_neg c4]
          rw [e]
          go_enter Try.func51, Try.ntmps51
          go_wp2
          go_ret2
          exact ⟨rfl, rfl⟩

set_option maxRecDepth 20000 in
set_option maxHeartbeats 1000000 in
theorem sizeOf_any (v : Int) (w : World) : Calls Try.prog 52 #[.int .i64 v] w fun e w' => e = .returned (.int .i64 (szI v)) ∧ w = w' := by
  by_cases c1 : v < 0
  · have e : szI v = 0 := by rw [szI, if_pos (Or.inl c1)]
    rw [e]
    go_enter Try.func52, Try.ntmps52
    go_wp2
    go_ret
    exact ⟨rfl, rfl⟩
  · by_cases c2 : 1114111 < v
    · have e : szI v = 0 := by rw [szI, if_pos (Or.inr (Or.inl c2))]
      rw [e]
      go_enter Try.func52, Try.ntmps52
      go_wp2
      go_ret
      exact ⟨rfl, rfl⟩
    · by_cases c3 : v < 55296
      · by_cases d1 : v < 128
        · have e : szI v = 1 := by rw [szI, if_neg (by omega), if_pos d1]
          rw [e]
          go_enter Try.func52, Try.ntmps52
          go_wp2
          go_ret
          exact ⟨rfl, rfl⟩
        · by_cases d2 : v < 2048
          · have e : szI v = 2 := by rw [szI, if_neg (by omega), if_neg d1, if_pos d2]
            rw [e]
            go_enter Try.func52, Try.ntmps52
            go_wp2
            go_ret
            exact ⟨rfl, rfl⟩
          · have e : szI v = 3 := by rw [szI, if_neg (by omega), if_neg d1, if_neg d2, if_pos (by omega)]
            rw [e]
            go_enter Try.func52, Try.ntmps52
            go_wp2
            go_ret
            exact ⟨rfl, rfl⟩
      · by_cases c4 : v ≤ 57343
        · have e : szI v = 0 := by rw [szI, if_pos (by omega)]
          rw [e]
          go_enter Try.func52, Try.ntmps52
          go_wp2
          go_ret
          exact ⟨rfl, rfl⟩
        · by_cases d3 : v < 65536
          · have e : szI v = 3 := by rw [szI, if_neg (by omega), if_neg (by omega), if_neg (by omega), if_pos d3]
            rw [e]
            go_enter Try.func52, Try.ntmps52
            go_wp2
            go_ret
            exact ⟨rfl, rfl⟩
          · have e : szI v = 4 := by rw [szI, if_neg (by omega), if_neg (by omega), if_neg (by omega), if_neg d3]
            rw [e]
            go_enter Try.func52, Try.ntmps52
            go_wp2
            go_ret
            exact ⟨rfl, rfl⟩

theorem szI_bd (v : Int) : 0 ≤ szI v ∧ szI v ≤ 4 := by
  unfold szI; split; · omega
  split; · omega
  split; · omega
  split <;> omega

set_option maxRecDepth 20000 in
set_option maxHeartbeats 2000000 in
theorem next_any (s : ByteArray) (at' : Nat) (w : World) (hs : s.size ≤ maxLen) (hat : at' < s.size) :
    Calls Try.prog 50 #[.string s, .int .i64 (at' : Int)] w fun e w' => e = .returned (.tuple #[.int .i64 (nx s at').1, .int .i64 (nx s at').2]) ∧ w = w' := by
  unfold maxLen at hs
  have hb := get_bt s
  have hf := first_any (bt s at') w (bt_nonneg s at') (bt_le s at')
  have hbd := fstB_bd (bt s at') (bt_nonneg s at') (bt_le s at')
  have HN : Hid (nx s at' = if (s.size : Int) - (at' : Int) < (fstB (bt s at')).2 then (0, 0)
    else match nxGo s at' ((fstB (bt s at')).2.toNat - 1) 1 (fstB (bt s at')).1 with
    | none => (0, 0)
    | some v => if szI v = (fstB (bt s at')).2 then (v, (fstB (bt s at')).2) else (0, 0)) := rfl
  generalize fstB (bt s at') = r at hf hbd HN
  obtain ⟨p, z⟩ := r
  simp only at hf hbd HN
  obtain ⟨p0, p1, z0, z1⟩ := hbd
  by_cases hcut : (s.size : Int) - (at' : Int) < z
  · have HR : Hid (nx s at' = (0, 0)) := by show _ = _; rw [HN.out, if_pos hcut]
    clear HN
    go_enter Try.func50, Try.ntmps50
    go_wp2_with (go_at_call 51; refine hf.mono ?_; rintro e w1 ⟨rfl, rfl⟩)
    go_ret2
    exact ⟨by rw [HR.out]; rfl, rfl⟩
  · have HM : Hid (nx s at' = match nxGo s at' (z.toNat - 1) 1 p with
      | none => (0, 0)
      | some v => if szI v = z then (v, z) else (0, 0)) := by show _ = _; rw [HN.out, if_neg hcut]
    clear HN
    obtain ⟨zn, rfl⟩ := Int.eq_ofNat_of_zero_le z0
    simp only [Int.toNat_natCast] at HM
    go_enter Try.func50, Try.ntmps50
    go_wp2_with (go_at_call 51; refine hf.mono ?_; rintro e w1 ⟨rfl, rfl⟩)
    clear hf
    go_loop [4, 5, 6] (fun t q i => ∃ (k : Nat) (v : Int), q = .int .i64 (zn : Int) ∧ 1 ≤ k ∧ (k ≤ zn ∨ k = 1) ∧ i = .int .i64 (k : Int) ∧ t = .int .i64 v ∧ 0 ≤ v ∧ (k ≤ 1 → v ≤ 127) ∧ (k ≤ 2 → v ≤ 8191) ∧ (k ≤ 3 → v ≤ 524287) ∧ Hid (nxGo s at' (zn - 1) 1 p = nxGo s at' (zn - k) k v)) (fun _ _ i => 4 - (intOf i).toNat)
    case atStart => exact ⟨1, p, rfl, by omega, by omega, rfl, rfl, p0, by omega, by omega, by omega, rfl⟩
    case round =>
      obtain ⟨k, v, rfl, hk, hkz, rfl, rfl, v0, v1, v2, v3, HG⟩ := hrel
      by_cases hlt : k < zn
      · have hv : v ≤ 524287 := by omega
        have hin : at' + k < s.size := by omega
        have c0 := bt_nonneg s (at' + k)
        have c1 := bt_le s (at' + k)
        have hand := u8_and63 (x := bt s (at' + k)) c0 (by omega)
        have ho := i64_or6 (x := v) (y := bt s (at' + k) % 64) v0 (by omega) (by omega) (by omega)
        have hf : zn - k = (zn - (k + 1)) + 1 := by omega
        rw [hf] at HG
        by_cases htail : bt s (at' + k) / 64 = 2
        · have HR : Hid (nxGo s at' (zn - 1) 1 p = nxGo s at' (zn - (k + 1)) (k + 1) (v * 64 + bt s (at' + k) % 64)) := by show _ = _; rw [HG.out, nxGo, if_pos htail]
          have HV : Hid ((k + 1 ≤ 1 → v * 64 + bt s (at' + k) % 64 ≤ 127) ∧ (k + 1 ≤ 2 → v * 64 + bt s (at' + k) % 64 ≤ 8191) ∧ (k + 1 ≤ 3 → v * 64 + bt s (at' + k) % 64 ≤ 524287)) := ⟨by omega, by omega, by omega⟩
          clear HG v1 v2 v3
          go_wp2
          go_round
          case rel => exact ⟨k + 1, _, rfl, by omega, by omega, by go_num, rfl, by omega, HV.out.1, HV.out.2.1, HV.out.2.2, HR⟩
          case measure => simp [intOf]; omega
        · have HR : Hid (nx s at' = (0, 0)) := by
            show _ = _
            rw [HM.out, HG.out, nxGo, if_neg htail]
          clear HG HM v1 v2 v3
          go_wp2
          go_ret2
          exact ⟨by rw [HR.out]; rfl, rfl⟩
      · have hz : zn - k = 0 := by omega
        rw [hz] at HG
        have HR : Hid (nx s at' = if szI v = (zn : Int) then (v, (zn : Int)) else (0, 0)) := by
          show _ = _
          rw [HM.out, HG.out]
          rfl
        clear HG HM v1 v2 v3
        have hsz := sizeOf_any v w
        have hsb := szI_bd v
        by_cases he : szI v = (zn : Int)
        · rw [if_pos he] at HR
          rw [he] at hsz
          clear he
          go_wp2_with (go_at_call 52; refine hsz.mono ?_; rintro e w1 ⟨rfl, rfl⟩)
          go_ret2
          exact ⟨by rw [HR.out]; rfl, rfl⟩
        · rw [if_neg he] at HR
          have he' : (szI v != (zn : Int)) = true := by simpa using he
          go_wp2_with (go_at_call 52; refine hsz.mono ?_; rintro e w1 ⟨rfl, rfl⟩)
          go_ret2
          exact ⟨by rw [HR.out]; rfl, rfl⟩
end Go.Proofs.Ytaopfdgebibpeaa
