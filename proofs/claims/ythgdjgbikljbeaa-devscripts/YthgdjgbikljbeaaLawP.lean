/-
  played: a device behind a script.
-/
import Derived.Test.YthgdjgbikljbeaaLawO
import Derived.Test.YthgdjgbikljbeaaDevT
import Derived.Deep.RegionHeld3
namespace Go.Proofs.Ythgdjgbikljbeaa
open Go.RowKit Go.Maps

/-- A step of a script. -/
structure OpD where
  d : Int
  k : Int
  x : ByteArray
  f : Bool

def OpD.val (o : OpD) : Value := .agg #[.int .i64 o.d, .int .i64 o.k, .string o.x, .bool o.f]
/-- Its numbers are ints, its text is no longer than texts are. -/
structure OpD.Ok (o : OpD) : Prop where
  d0 : -9223372036854775808 ≤ o.d
  d1 : o.d ≤ 9223372036854775807
  k0 : -9223372036854775808 ≤ o.k
  k1 : o.k ≤ 9223372036854775807
  x1 : o.x.size ≤ maxLen

/-- At v lies a script. -/
def RdOps (w : World) (v : Value) (l : List OpD) : Prop :=
  ∃ ao cp, v = .slice ao l.length cp ∧ ∀ i o, l[i]? = some o → ∃ b off, ao = some ⟨b, off, none⟩ ∧ b < w.heap.size ∧ w.cell? ⟨b, off + i * 4, none⟩ = some (.int .i64 o.d) ∧ w.cell? ⟨b, off + i * 4 + 1, none⟩ = some (.int .i64 o.k) ∧ w.cell? ⟨b, off + i * 4 + 2, none⟩ = some (.string o.x) ∧ w.cell? ⟨b, off + i * 4 + 3, none⟩ = some (.bool o.f)

set_option maxRecDepth 20000 in
set_option maxHeartbeats 4000000 in
theorem played_any (c : Int) (v : Value) (l : List OpD) (w : World) (hv : RdOps w v l) (hl : l.length ≤ maxLen) (ho : ∀ o ∈ l, o.Ok) (h0 : -9223372036854775808 ≤ c) (h1 : c ≤ 9223372036854775807) :
    Calls Try.prog 20 #[.int .i64 c, v] w fun e w' => ∃ p bs bw s, e = .returned (.pointer (some ⟨p, 0, none⟩)) ∧ IsDev w' p bs bw s ∧ s.n = 8 + (pickI c 30).toNat ∧ w.heap.size ≤ p ∧ w.heap.size ≤ bs ∧ w.heap.size ≤ bw ∧ Below w.heap.size w w' := by
  have hp := pickI_bd c 30 (by omega)
  have cP := pick_any c 30 w h0 h1 (by omega) (by omega)
  obtain ⟨n, hn⟩ := Int.eq_ofNat_of_zero_le hp.1
  rw [hn] at cP hp ⊢
  rw [Int.toNat_natCast]
  have hn30 : n < 30 := by omega
  have hn30' : (n : Int) < 30 := by omega
  clear hn hp h0 h1
  obtain ⟨ao, cp, rfl, hop⟩ := hv
  unfold maxLen at hl
  have cN : Calls Try.prog 8 #[.int .i64 (8 + (n : Int))] w fun e w' => e = .returned (.tuple #[.pointer (some ⟨w.heap.size + 2, 0, none⟩), .int .i64 0]) ∧ IsDev w' (w.heap.size + 2) w.heap.size (w.heap.size + 1) (newS (8 + n)) ∧ Below w.heap.size w w' := by
    have h := new_ok (8 + n) w (by omega) (by omega)
    have e : ((8 + n : Nat) : Int) = 8 + (n : Int) := by omega
    rw [e] at h
    exact h
  go_enter Try.func20, Try.ntmps20
  go_wp2_with fail
  refine cP.mono ?_
  rintro e w0 ⟨rfl, hw⟩
  subst hw
  clear cP
  go_wp2_with fail
  refine cN.mono ?_
  rintro e w1 ⟨rfl, hd1, hb1⟩
  clear cN
  go_wp2_with fail
  refine (begun_any _).mono ?_
  rintro e w2 ⟨rfl, hb2⟩
  have hd2 := hd1.below hb2
  have hs1 := hb1.size
  have hB2 : Below w0.heap.size w0 w2 := hb1.trans (hb2.mono hs1)
  clear hd1 hb1 hb2 hs1
  go_wp2_with fail
  go_loopw [7] (fun i wr => ∃ (j : Nat) (s : DevS), j ≤ l.length ∧ i = .int .i64 (j : Int) ∧ IsDev wr (w0.heap.size + 2) w0.heap.size (w0.heap.size + 1) s ∧ s.n = 8 + n ∧ Below w0.heap.size w0 wr)
    (fun i _ => l.length - (intOf i).toNat)
  case atStart => exact ⟨0, _, Nat.zero_le _, rfl, hd2, rfl, hB2⟩
  case round =>
    obtain ⟨j, s, hj, rfl, hds, hsn, hBs⟩ := hrel
    by_cases hlt : j < l.length
    · have hlt' : (j : Int) < (l.length : Int) := by omega
      have hoj := ho l[j] (List.getElem_mem hlt)
      obtain ⟨b, off, rfl, hbl, e0, e1, e2, e3⟩ := hop j l[j] (by simp [hlt])
      have hBc : ∀ o, wr.cell? ⟨b, o, none⟩ = w0.cell? ⟨b, o, none⟩ := fun o => hBs.cell (p := ⟨b, o, none⟩) hbl
      rw [← hBc] at e0 e1 e2 e3
      generalize l[j] = o at *
      clear hBc hop ho hd2 hB2
      have hA : Only [] wr (wr.alloc (.cells #[.int .i64 o.d, .int .i64 o.k, .string o.x, .bool o.f] 35)) := Only.alloc _ _ _
      have hbox := heap_alloc_last wr (.cells #[.int .i64 o.d, .int .i64 o.k, .string o.x, .bool o.f] 35)
      have hdA := hds.kept hA (by simp) (by simp) (by simp)
      have hsz := hBs.size
      have hlt2 := hds.ltp
      have hBA : Below w0.heap.size w0 (wr.alloc (.cells #[.int .i64 o.d, .int .i64 o.k, .string o.x, .bool o.f] 35)) := hBs.trans (hA.below hsz (by simp))
      have hAs : (wr.alloc (.cells #[.int .i64 o.d, .int .i64 o.k, .string o.x, .bool o.f] 35)).heap.size = wr.heap.size + 1 := World.size_alloc _ _
      have HAs : Hid _ := hAs
      clear hAs
      by_cases q0 : o.d = 0
      · have q0' : (o.d == 0) = true := by simpa using q0
        have hdD : IsDev (wr.alloc (.cells #[.int .i64 o.d, .int .i64 o.k, .string o.x, .bool o.f] 35)).drew (w0.heap.size + 2) w0.heap.size (w0.heap.size + 1) s := hdA.kept (Only.drew [] _) (by simp) (by simp) (by simp)
        have hx := hoj.x1
        clear q0 hds hdA hoj
        go_wp2_with fail
        clear e0 e1 e2 e3
        go_region_held3 (fun W => W.cell? ⟨wr.heap.size, 0, none⟩ = some (.int .i64 o.d) ∧ W.cell? ⟨wr.heap.size, 1, none⟩ = some (.int .i64 o.k) ∧ W.cell? ⟨wr.heap.size, 2, none⟩ = some (.string o.x) ∧ W.cell? ⟨wr.heap.size, 3, none⟩ = some (.bool o.f)) (go_keep)
          (first
            | (go_at_call 27; refine (opBytes_any _ _ _ _ _ hx).mono ?_; rintro e w3 ⟨rfl, hb3⟩; have hd3 := hdD.below hb3; have hbx3 := (hb3.block wr.heap.size (by show _ < (wr.alloc _).heap.size; simp)).trans hbox; have g0 := cell_at hbx3 0; have g1 := cell_at hbx3 1; have g2 := cell_at hbx3 2; have g3 := cell_at hbx3 3)
            | (go_at_call 17; refine (write_all hd3 _ _).mono ?_; rintro e w4 ⟨rfl, hd4, ho4⟩; have hbx4 := only_heap hbx3 ho4 (by simp; omega); have g0' := cell_at hbx4 0; have g1' := cell_at hbx4 1; have g2' := cell_at hbx4 2; have g3' := cell_at hbx4 3))
        have hB4 : Below w0.heap.size w0 w4 := ((hBA.drew).trans (hb3.mono (by show _ ≤ (wr.alloc _).heap.size; rw [HAs.out]; omega))).trans (ho4.below (by have := hb3.size; have e : (wr.alloc (.cells #[.int .i64 o.d, .int .i64 o.k, .string o.x, .bool o.f] 35)).drew.heap.size = wr.heap.size + 1 := HAs.out; omega) (by simp))
        clear g0 g1 g2 g3 g0' g1' g2' g3' hbx3 hbx4 ho4 hb3 hd3 hdD hBA hbox hA
        go_wp2_with fail
        go_roundw
        case rel => exact ⟨j + 1, _, by omega, by go_num, hd4, (write_n _ _ _).trans hsn, hB4⟩
        case measure => simp [intOf]; omega
      · have q0' : (o.d == 0) = false := by simpa using q0
        by_cases q1 : o.d = 1
        · have q1' : (o.d == 1) = true := by simpa using q1
          have cS := sync_all hdA
          clear q0 q1 hdA hoj
          go_wp2_with (first | (go_at_call 19; refine cS.mono ?_; rintro e w4 ⟨rfl, hd4, ho4⟩))
          have hB4 : Below w0.heap.size w0 w4 := hBA.trans (ho4.below (by rw [HAs.out]; omega) (by simp))
          go_roundw
          case rel => exact ⟨j + 1, _, by omega, by go_num, hd4, (sync_n _).trans hsn, hB4⟩
          case measure => simp [intOf]; omega
        · have q1' : (o.d == 1) = false := by simpa using q1
          by_cases q2 : o.d = 2
          · have q2' : (o.d == 2) = true := by simpa using q2
            have cS := fuse_all hdA o.k hoj.k1
            clear q0 q1 q2 hdA hoj
            go_wp2_with (first | (go_at_call 16; refine cS.mono ?_; rintro e w4 ⟨rfl, hd4, ho4⟩))
            have hB4 : Below w0.heap.size w0 w4 := hBA.trans (ho4.below (by rw [HAs.out]; omega) (by simp))
            go_roundw
            case rel => exact ⟨j + 1, _, by omega, by go_num, hd4, (setF_n _ _).trans hsn, hB4⟩
            case measure => simp [intOf]; omega
          · have q2' : (o.d == 2) = false := by simpa using q2
            by_cases q3 : o.d = 3
            · have q3' : (o.d == 3) = true := by simpa using q3
              have cS := crash_any hdA o.x hoj.x1
              clear q0 q1 q2 q3 hdA hoj
              go_wp2_with (first | (go_at_call 22; refine cS.mono ?_; rintro e w4 ⟨rfl, hd4, ho4⟩))
              have hB4 : Below w0.heap.size w0 w4 := hBA.trans (ho4.below (by rw [HAs.out]; omega) (by simp))
              go_roundw
              case rel => exact ⟨j + 1, _, by omega, by go_num, hd4, hsn, hB4⟩
              case measure => simp [intOf]; omega
            · have q3' : (o.d == 3) = false := by simpa using q3
              clear q0 q1 q2 q3 hoj
              go_wp2_with fail
              go_roundw
              case rel => exact ⟨j + 1, _, by omega, by go_num, hdA, hsn, hBA⟩
              case measure => simp [intOf]; omega
    · go_wp2_with fail
      go_ret
      exact ⟨_, _, _, s, rfl, hds, hsn, by omega, Nat.le_refl _, by omega, hBs⟩
end Go.Proofs.Ythgdjgbikljbeaa
