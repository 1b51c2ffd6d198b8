/-
  reads, alike, untouched.
-/
import Derived.Test.YtblhmfkohbdmeaaWLawG
namespace Go.Proofs.Ytblhmfkohbdmeaa
open Go.RowKit Go.Maps

section
variable {W0 W W' : World} {A : PA} {wl wl' pl pl' : Bool} {s s' : DevS} {M : Nat → List ByteArray} {vl : Value} {late : List WrD}
theorem IsPa.first {ja : Int} (h : IsPa W0 W A wl pl s ja M vl late) (i : Nat) (hi : i < A.N) {x : ByteArray} {L : List ByteArray} (hM : M i = x :: L) : ∃ g n cp, W.cell? ⟨A.gm, i, none⟩ = some (.slice (some ⟨g, 0, none⟩) (n + 1) cp) ∧ W.cell? ⟨g, 0, none⟩ = some (.string x) := by
  obtain ⟨ao, cp, h1, h2, _⟩ := h.mayAt i hi
  obtain ⟨_, _, e, _, h3⟩ := h2
  cases e
  obtain ⟨g, cur, e1, hg, hc⟩ := h3 0 x (by rw [hM]; rfl)
  refine ⟨g, L.length, cp, ?_, by rw [cell_at hg]; exact hc⟩
  rw [h1, e1, hM]
  rfl

/-- Each sector reads as the first that may be. -/
def Heads (N : Nat) (s : DevS) (M : Nat → List ByteArray) : Prop := ∀ i, i < N → ∃ L, M i = mk (s.readAt i) :: L

theorem pread_any (h : IsP W0 W A false pl s M vl late) (hu : s.up = true) (i : Nat) (hi : i < A.N) : Calls Try.prog 21 #[.pointer (some ⟨A.r, 0, none⟩), .int .i64 (i : Int)] W fun e w' => e = .returned (.tuple #[.string (mk (s.readAt i)), .int .i64 0]) ∧ IsP W0 w' A false pl s M vl late :=
  (wread_ok h.wal h.dev i (rdy_true hu) (by have := h.n; omega)).mono fun _ _ ⟨h1, h2, h3, h4⟩ => ⟨h1, h.step h3 h2 h4 rfl⟩

set_option maxRecDepth 20000 in
set_option maxHeartbeats 2000000 in
theorem reads_any (h : IsP W0 W A false pl s M vl late) (hu : s.up = true) (hM : Heads A.N s M) :
    Calls Try.prog 79 #[.pointer (some ⟨A.q, 0, none⟩)] W fun e w' => e = .returned (.bool true) ∧ IsP W0 w' A false pl s M vl late := by
  have hN := h.n
  have hhi := h.dev.hi
  have hcap := h.cap
  go_enter Try.func79, Try.ntmps79
  go_wp2_with fail
  go_loopw [3] (fun i wr => ∃ k : Nat, k ≤ A.N ∧ i = .int .i64 (k : Int) ∧ IsP W0 wr A false pl s M vl late) (fun i _ => A.N - (intOf i).toNat)
  case atStart => exact ⟨0, Nat.zero_le _, rfl, h⟩
  case round =>
    obtain ⟨k, hk, rfl, hP⟩ := hrel
    clear h
    obtain ⟨c0, c1, c2, c3, c4⟩ := hP.cells
    by_cases hlt : k < A.N
    · have hlt' : (k : Int) < (A.N : Int) := by omega
      have cR := pread_any hP hu k hlt
      obtain ⟨L, hL⟩ := hM k hlt
      clear hP
      go_wp2_with fail
      refine cR.mono ?_
      rintro e w2 ⟨rfl, hP2⟩
      obtain ⟨g, n, cp, f1, f2⟩ := hP2.first k hlt hL
      have HP : Hid (IsP W0 w2 A false pl s M vl late) := hP2
      obtain ⟨d0, d1, d2, d3, d4⟩ := hP2.cells
      clear cR hP2 hL c0 c1 c2 c3 c4
      go_wp2_with fail
      go_roundw
      case rel => exact ⟨k + 1, by omega, by go_num, HP.out⟩
      case measure => simp [intOf]; omega
    · have hlt' : ¬ (k : Int) < (A.N : Int) := by omega
      have HP : Hid (IsP W0 wr A false pl s M vl late) := hP
      clear hP
      go_wp2_with fail
      go_ret
      exact ⟨rfl, HP.out⟩

set_option maxHeartbeats 1000000 in
theorem reads2_any (h : IsP W0 W A false pl s M vl late) (hM : Heads A.N s M) :
    Calls Try.prog 66 #[.pointer (some ⟨A.q, 0, none⟩)] W fun e w' => e = .returned (.bool true) ∧ IsP W0 w' A false pl s M vl late := by
  have cU := up_any h.dev
  obtain ⟨c0, c1, c2, c3, c4⟩ := h.cells
  cases hu : s.up with
  | false =>
    rw [hu] at cU
    have HP : Hid (IsP W0 W A false pl s M vl late) := h
    clear h hu hM
    go_enter Try.func66, Try.ntmps66
    go_wp2_with (first | (go_at_call 25; refine cU.mono ?_; rintro e w' ⟨rfl, hw⟩; rw [hw]; clear hw w'))
    go_ret
    exact ⟨rfl, HP.out⟩
  | true =>
    rw [hu] at cU
    have cR := reads_any h hu hM
    clear h hu hM
    go_enter Try.func66, Try.ntmps66
    go_wp2_with (first
      | (go_at_call 25; refine cU.mono ?_; rintro e w' ⟨rfl, hw⟩; rw [hw]; clear hw w')
      | (go_at_call 79; refine cR.mono ?_; rintro e w2 ⟨rfl, hP2⟩))
    go_ret
    exact ⟨rfl, hP2⟩
end

set_option maxRecDepth 20000 in
set_option maxHeartbeats 2000000 in
theorem alike_any {W : World} {v1 v2 : Value} {l : List WrD} (h1 : RdWr W v1 l) (h2 : RdWr W v2 l) (hl : l.length ≤ 5864062014800) :
    Calls Try.prog 64 #[v1, v2] W fun e w' => e = .returned (.bool true) ∧ Below W.heap.size W w' := by
  obtain ⟨ao, cp, rfl, _, g1⟩ := h1
  obtain ⟨ao2, cp2, rfl, _, g2⟩ := h2
  go_enter Try.func64, Try.ntmps64
  go_wp2_with fail
  go_loopw [5] (fun i wr => ∃ k : Nat, k ≤ l.length ∧ i = .int .i64 (k : Int) ∧ ∃ q, wr = W.drewN q) (fun i _ => l.length - (intOf i).toNat)
  case atStart => exact ⟨0, Nat.zero_le _, rfl, 0, rfl⟩
  case round =>
    obtain ⟨k, hk, rfl, q, rfl⟩ := hrel
    by_cases hlt : k < l.length
    · have hlt' : (k : Int) < (l.length : Int) := by omega
      obtain ⟨b, off, rfl, _, e0, e1⟩ := g1 k l[k] (by simp [hlt])
      obtain ⟨b', off', rfl, _, d0, d1⟩ := g2 k l[k] (by simp [hlt])
      clear g1 g2
      generalize l[k] = o at *
      go_wp2_with fail
      go_quiet (fail)
      go_wp2_with fail
      go_roundw
      case rel => exact ⟨k + 1, by omega, by go_num, _, rfl⟩
      case measure => simp [intOf]; omega
    · have hlt' : ¬ (k : Int) < (l.length : Int) := by omega
      clear g1 g2
      go_wp2_with fail
      go_ret
      exact ⟨rfl, (Only.drewN [] W q).nil_below⟩

set_option maxRecDepth 20000 in
set_option maxHeartbeats 2000000 in
theorem untouched_any {W : World} {p bs bw p' bs' bw' : Nat} {s : DevS} (h1 : IsDev W p bs bw s) (h2 : IsDev W p' bs' bw' s) :
    Calls Try.prog 65 #[.pointer (some ⟨p, 0, none⟩), .pointer (some ⟨p', 0, none⟩)] W fun e w' => e = .returned (.bool true) ∧ Below W.heap.size W w' := by
  have hkl : s.keys.length ≤ 8192 := Nat.le_trans (keysF_le _ _) h1.hi
  have cW := waiting_any h1
  go_enter Try.func65, Try.ntmps65
  go_wp2_with fail
  refine cW.mono ?_
  rintro e w1 ⟨v1, rfl, hr1, _, hb1⟩
  obtain ⟨ao1, cp1, rfl, hao1⟩ := own_shape hr1
  clear cW hr1
  have cW := waiting_any (h2.below hb1)
  go_wp2_with fail
  refine cW.mono ?_
  rintro e w2 ⟨v2, rfl, hr2, _, hb2⟩
  obtain ⟨ao2, cp2, rfl, hao2⟩ := own_shape hr2
  clear cW hr2
  have hB := hb1.trans (hb2.mono hb1.size)
  have cU1 := up_any (h1.below hB)
  have cU2 := up_any (h2.below hB)
  have hbb : (s.up != s.up) = false := by simp
  have g1 : ∀ (j : Nat) (hj : j < s.keys.length), ∃ g, ao1 = some ⟨g, 0, none⟩ ∧ w2.cell? ⟨g, j, none⟩ = some (.int .i64 (s.keys[j] : Int)) := fun j hj => by
    obtain ⟨g, e, h3, h4, h5, hcell⟩ := hao1 (by omega)
    refine ⟨g, e, ?_⟩
    rw [hb2.cell (p := ⟨g, j, none⟩) h4, hcell j hj]
    simp [iv, hj]
  have g2 : ∀ (j : Nat) (hj : j < s.keys.length), ∃ g, ao2 = some ⟨g, 0, none⟩ ∧ w2.cell? ⟨g, j, none⟩ = some (.int .i64 (s.keys[j] : Int)) := fun j hj => by
    obtain ⟨g, e, h3, h4, h5, hcell⟩ := hao2 (by omega)
    refine ⟨g, e, ?_⟩
    rw [hcell j hj]
    simp [iv, hj]
  clear hao1 hao2 h1 h2 hb1 hb2
  generalize s.up = su at *
  generalize s.keys = ks at *
  go_wp2_with fail
  refine cU1.mono ?_
  rintro e w' ⟨rfl, hw⟩
  rw [hw]
  clear hw w' cU1
  go_wp2_with fail
  refine cU2.mono ?_
  rintro e w' ⟨rfl, hw⟩
  rw [hw]
  clear hw w' cU2
  go_wp2_with fail
  go_loopw [7] (fun i wr => ∃ k : Nat, k ≤ ks.length ∧ i = .int .i64 (k : Int) ∧ ∃ q, wr = w2.drewN q) (fun i _ => ks.length - (intOf i).toNat)
  case atStart => exact ⟨0, Nat.zero_le _, rfl, 0, rfl⟩
  case round =>
    obtain ⟨k, hk, rfl, q, rfl⟩ := hrel
    by_cases hlt : k < ks.length
    · have hlt' : (k : Int) < (ks.length : Int) := by omega
      obtain ⟨g, rfl, e0⟩ := g1 k hlt
      obtain ⟨g', rfl, d0⟩ := g2 k hlt
      clear g1 g2
      generalize ks[k] = o at *
      go_wp2_with fail
      go_quiet (fail)
      go_wp2_with fail
      go_roundw
      case rel => exact ⟨k + 1, by omega, by go_num, _, rfl⟩
      case measure => simp [intOf]; omega
    · have hlt' : ¬ (k : Int) < (ks.length : Int) := by omega
      clear g1 g2
      go_wp2_with fail
      go_ret
      exact ⟨rfl, hB.trans ((Only.drewN [] w2 q).below hB.size (by simp))⟩
end Go.Proofs.Ytblhmfkohbdmeaa
