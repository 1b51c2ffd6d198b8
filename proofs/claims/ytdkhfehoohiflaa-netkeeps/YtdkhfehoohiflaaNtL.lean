/-
  The contracts of pick and begun, and of the reference's New.
-/
import Derived.Test.YtdkhfehoohiflaaNtK
namespace Go.Proofs.Ytdkhfehoohiflaa.nt
open Go.Maps Go.WideShapes Go.RowKit Go.ChangeShapes Go.ChangeAt Go.PlainAid

/-- A net that was made behind the world w. -/
structure Fr (w W : World) (N : NtS) : Prop where
  bel : Below w.heap.size w W
  net : IsNet W N
  new : ∀ b ∈ N.bl, w.heap.size ≤ b
theorem Fr.aft {w W W' : World} {N N' : NtS} {L : List LtD} (h : Fr w W N) (ha : Aft W W' N L N') : Fr w W' N' := by
  refine ⟨h.bel.trans (ha.on.below h.bel.size h.new), ha.net, fun b hb => ?_⟩
  rcases ha.bl b hb with hb | hb
  · exact h.new b hb
  · have := h.bel.size; omega
theorem Fr.below {w W W' : World} {N : NtS} (h : Fr w W N) (hb : Below W.heap.size W W') : Fr w W' N := ⟨chain h.bel hb, h.net.below hb, h.new⟩
theorem grow1 (w : World) (o : Obj) : Below w.heap.size w (w.alloc o) := (Below.refl _ _).alloc (Nat.le_refl _) _
theorem new_fr (room : Int) (w : World) (h1 : 1 ≤ room) (h2 : room ≤ 3000) : Calls Try.prog 7 #[.int .i64 room] w fun e w' =>
    ∃ N, e = .returned (.tuple #[.pointer (some ⟨N.p, 0, none⟩), .int .i64 0]) ∧ N.room = room ∧ N.L = [] ∧ N.n = 0 ∧ Fr w w' N := by
  refine (new_ok room w h1 h2).mono ?_
  rintro e w1 ⟨rfl, hN, hb⟩
  exact ⟨_, rfl, rfl, rfl, rfl, hb, hN, fun b hb => by simp [NtS.bl, Value.ownBlock] at hb; omega⟩

/-- What pick gives. -/
def pickD (c : Int) (n : Nat) : Nat := (if c < 0 then -(c + 1) else c).toNat % n
set_option maxRecDepth 20000 in
theorem pick_any (c : Int) (n : Nat) (w : World) (h0 : 0 < n) (hn : n ≤ 9223372036854775807) (b0 : -9223372036854775808 ≤ c) (b1 : c ≤ 9223372036854775807) :
    Calls Try.prog 12 #[.int .i64 c, .int .i64 (n : Int)] w fun e w' => e = .returned (.int .i64 (pickD c n : Int)) ∧ w' = w := by
  have hn0 : ¬ (n : Int) = 0 := by omega
  by_cases hc : c < 0
  · obtain ⟨p, hp⟩ : ∃ p : Nat, -(c + 1) = (p : Int) := ⟨(-(c + 1)).toNat, by omega⟩
    have hm : (p : Int).tmod (n : Int) = ((p % n : Nat) : Int) := rfl
    have hm2 : (p : Int) % (n : Int) = ((p % n : Nat) : Int) := by simp
    have hE : Hid (pickD c n = p % n) := by show _ = _; unfold pickD; rw [if_pos hc, hp]; rfl
    generalize p % n = q at *
    clear hm2
    go_enter Try.func12, Try.ntmps12
    go_wp2
    go_ret
    rw [hE.out]
    exact ⟨rfl, rfl⟩
  · obtain ⟨p, rfl⟩ : ∃ p : Nat, c = (p : Int) := ⟨c.toNat, by omega⟩
    have hm : (p : Int).tmod (n : Int) = ((p % n : Nat) : Int) := rfl
    have hE : Hid (pickD p n = p % n) := by show _ = _; unfold pickD; rw [if_neg hc]; rfl
    generalize p % n = q at *
    go_enter Try.func12, Try.ntmps12
    go_wp2
    go_ret
    rw [hE.out]
    exact ⟨rfl, rfl⟩

def bL : LtD := ⟨3, ⟨#[98]⟩⟩
theorem sd_begun {N : NtS} (hr : N.room = 2) (hL : N.L = []) : N.sdE bL = 0 ∧ N.sdL bL = [bL] := by
  have e : N.sdE bL = 0 := by
    unfold NtS.sdE
    rw [if_neg (by simp [bL]), if_neg (by decide), if_neg (by rw [hL, hr]; simp)]
  exact ⟨e, by unfold NtS.sdL; rw [e, hL]; rfl⟩
theorem db_begun {N : NtS} (hr : N.room = 2) (hL : N.L = [bL]) : N.dbE 0 = 0 ∧ N.dbL 0 = [bL, bL] := by
  have e : N.dbE 0 = 0 := by
    unfold NtS.dbE
    rw [if_pos (hasI_iff.2 ⟨by omega, by rw [hL]; decide⟩), if_neg (by rw [hL, hr]; decide)]
  exact ⟨e, by unfold NtS.dbL; rw [e, hL]; rfl⟩
theorem tk_begun {N : NtS} (hL : N.L = [bL, bL]) : N.tkV 0 = bL ∧ N.tkE 0 = 0 ∧ N.tkL 0 = [bL] := by
  have e : N.hasI 0 = true := hasI_iff.2 ⟨by omega, by rw [hL]; decide⟩
  exact ⟨by unfold NtS.tkV; rw [if_pos e, hL]; rfl, by unfold NtS.tkE; rw [if_pos e], by unfold NtS.tkL; rw [if_pos e, hL]; rfl⟩

set_option maxRecDepth 20000 in
set_option maxHeartbeats 1000000 in
theorem begun_any (w : World) : Calls Try.prog 9 #[] w fun e w' => e = .returned (.bool true) ∧ Below w.heap.size w w' := by
  have c1 := new_fr 2 w (by decide) (by decide)
  go_enter Try.func9, Try.ntmps9
  go_wp2_with fail
  refine c1.mono ?_
  rintro e w1 ⟨N1, rfl, r1, L1, n1, f1⟩
  have c2 := send_any N1 bL w1 f1.net (by omega)
  rw [(sd_begun r1 L1).1, (sd_begun r1 L1).2] at c2
  unfold LtD.v bL at c2
  clear c1
  go_wp2_with fail
  refine c2.mono ?_
  rintro e w2 ⟨rfl, N2, a2⟩
  have f2 := f1.aft a2
  have r2 := a2.room.trans r1
  have c3 := double_any N2 0 w2 f2.net (by have := a2.n; omega)
  rw [(db_begun r2 a2.L).1, (db_begun r2 a2.L).2, a2.p] at c3
  clear c2
  go_wp2_with fail
  refine c3.mono ?_
  rintro e w3 ⟨rfl, N3, a3⟩
  have f3 := f2.aft a3
  have p3 := a3.p.trans a2.p
  have c4 := len_any N3 w3 f3.net
  rw [a3.L, p3] at c4
  clear c3
  go_wp2_with fail
  refine c4.mono ?_
  rintro e w4 ⟨rfl, rfl⟩
  have c5 := take_any N3 0 w4 f3.net (by have := a3.n; have := a2.n; omega)
  rw [(tk_begun a3.L).1, (tk_begun a3.L).2.1, (tk_begun a3.L).2.2, p3] at c5
  unfold LtD.v bL at c5
  clear c4
  go_wp2_with fail
  refine c5.mono ?_
  rintro e w5 ⟨rfl, N5, a5⟩
  have f5 := f3.aft a5
  have p5 := a5.p.trans p3
  have hb6 := grow1 w5 (.cells #[.int .i64 3, .string ⟨#[98]⟩] 37)
  have c6 := len_any N5 _ (f5.below hb6).net
  rw [a5.L, p5] at c6
  clear c5
  have hB := (f5.below hb6).bel
  go_wp2_with fail
  refine c6.mono ?_
  rintro e w6 ⟨rfl, rfl⟩
  go_wp2_with fail
  go_ret
  exact ⟨rfl, hB⟩

set_option maxRecDepth 20000 in
theorem rnew_bad (room : Int) (w : World) (h : room < 1 ∨ 3000 < room) : Calls Try.prog 8 #[.int .i64 room] w fun e w' => e = .returned (.tuple #[.pointer none, .int .i64 1]) ∧ w' = w := by
  by_cases h1 : room < 1
  · go_enter Try.func8, Try.ntmps8
    go_wp2
    go_ret2
    exact ⟨rfl, rfl⟩
  · have h2 : 3000 < room := by omega
    go_enter Try.func8, Try.ntmps8
    go_wp2
    go_ret2
    exact ⟨rfl, rfl⟩
set_option maxRecDepth 20000 in
theorem rnew_ok (room : Int) (w : World) (h1 : 1 ≤ room) (h2 : room ≤ 3000) : Calls Try.prog 8 #[.int .i64 room] w fun e w' =>
    e = .returned (.tuple #[.pointer (some ⟨w.heap.size, 0, none⟩), .int .i64 0]) ∧ w' = w.alloc (.cells #[.int .i64 room, .slice none 0 0] 62) := by
  go_enter Try.func8, Try.ntmps8
  go_wp2
  go_ret2
  exact ⟨rfl, rfl⟩
end Go.Proofs.Ytdkhfehoohiflaa.nt
