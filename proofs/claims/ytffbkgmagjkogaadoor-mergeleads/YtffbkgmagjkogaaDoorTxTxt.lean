/-
  The bytes of code points; the contracts of appendPoint and Text.
-/
import Derived.Test.YtffbkgmagjkogaaDoorTxRun
namespace Go.Proofs.YtffbkgmagjkogaaDoor
open Go.ChangeShapes Go.WideShapes Go.ChangeAt Go.RowKit Go.PlainAid

theorem Tryd.info5 : (Tryd.prog.info? 5).map (fun i => (i.zero, i.size, i.bytes)) = some (some (.int .u8 0), 1, 1) := by kernel_rfl

/-- The bytes of a code point. -/
def ptB (n : Nat) : List UInt8 :=
  if n < 128 then [UInt8.ofNat n]
  else if n < 2048 then [UInt8.ofNat (192 + n / 64), UInt8.ofNat (128 + n % 64)]
  else if n < 65536 then [UInt8.ofNat (224 + n / 4096), UInt8.ofNat (128 + n / 64 % 64), UInt8.ofNat (128 + n % 64)]
  else [UInt8.ofNat (240 + n / 262144), UInt8.ofNat (128 + n / 4096 % 64), UInt8.ofNat (128 + n / 64 % 64), UInt8.ofNat (128 + n % 64)]

theorem ptB1 {n : Nat} (h : n < 128) : ptB n = [UInt8.ofNat n] := by rw [ptB, if_pos h]
theorem ptB2 {n : Nat} (h1 : 128 ≤ n) (h : n < 2048) : ptB n = [UInt8.ofNat (192 + n / 64), UInt8.ofNat (128 + n % 64)] := by rw [ptB, if_neg (by omega), if_pos h]
theorem ptB3 {n : Nat} (h1 : 2048 ≤ n) (h : n < 65536) : ptB n = [UInt8.ofNat (224 + n / 4096), UInt8.ofNat (128 + n / 64 % 64), UInt8.ofNat (128 + n % 64)] := by rw [ptB, if_neg (by omega), if_neg (by omega), if_pos h]
theorem ptB4 {n : Nat} (h1 : 65536 ≤ n) : ptB n = [UInt8.ofNat (240 + n / 262144), UInt8.ofNat (128 + n / 4096 % 64), UInt8.ofNat (128 + n / 64 % 64), UInt8.ofNat (128 + n % 64)] := by rw [ptB, if_neg (by omega), if_neg (by omega), if_neg (by omega)]

theorem ptB_len (n : Nat) : 1 ≤ (ptB n).length ∧ (ptB n).length ≤ 4 := by
  unfold ptB; split; · simp
  split; · simp
  split <;> simp

theorem bv_one {x : Nat} {y : Int} (h : x < 256) (e : (x : Int) = y) : Value.int .u8 ((UInt8.ofNat x).toNat : Int) = .int .u8 y := by rw [byte_nat x h, e]

theorem many_new (wr : World) (l : List Value) (e : Nat) : ∀ j u, l[j]? = some u → (wr.alloc (.cells l.toArray e)).cell? ((⟨wr.heap.size, 0, none⟩ : Addr).add j) = some u := by
  intro j u hj
  have hadd : (⟨wr.heap.size, 0, none⟩ : Addr).add j = ⟨wr.heap.size, j, none⟩ := by unfold Addr.add; split <;> simp_all
  rw [hadd, cell_of_row _ _ j l.toArray e (0, 0) (heap_alloc_new wr _)]
  simpa using hj

theorem many_one (l : List Int) : ∀ u ∈ l.map (Value.int .u8), u.oneCell' = true := by
  intro u hu
  simp only [List.mem_map] at hu
  obtain ⟨x, _, rfl⟩ := hu
  rfl

theorem own_more {w1 : World} {base e n m : Nat} {v' : Value} {L M : List UInt8} {xs : List Value} (h : w1.ownsRow base e 1 v' (n + m) (bv L ++ xs)) (hn : L.length = n) (hm : M.length = m) (hx : bv M = xs) :
    w1.ownsRow base e 1 v' (L ++ M).length (bv (L ++ M)) := by
  subst hx; subst hn; subst hm
  rw [bv_append, List.length_append]
  exact h

set_option maxRecDepth 20000 in
set_option maxHeartbeats 2000000 in
theorem appendPoint_any (base : Nat) (v : Value) (l : List UInt8) (n : Nat) (w : World) (hb : base ≤ w.heap.size) (hok : szI (n : Int) ≠ 0) (hl : l.length ≤ 70368744177664) (hown : w.ownsRow base 5 1 v l.length (bv l)) :
    Calls Tryd.prog 72 #[v, .int .i64 (n : Int)] w fun e w' => ∃ v', e = .returned v' ∧ w'.ownsRow base 5 1 v' (l ++ ptB n).length (bv (l ++ ptB n)) ∧ Below base w w' := by
  obtain ⟨i0, hi, hz0, hz1, hz2⟩ := info_parts Tryd.info5
  have hr : ¬ ((n : Int) < 0 ∨ 1114111 < (n : Int) ∨ (55296 ≤ (n : Int) ∧ (n : Int) ≤ 57343)) := fun h => hok (by rw [szI, if_pos h])
  have hsz := sizeOf_any (n : Int)
  have a0 := u8_and63 (x := (n : Int) % 256) (by omega) (by omega)
  have a1 := u8_and63 (x := (n : Int) / 64 % 256) (by omega) (by omega)
  have a2 := u8_and63 (x := (n : Int) / 4096 % 256) (by omega) (by omega)
  rw [show (n : Int) % 256 % 64 = (n : Int) % 64 by omega] at a0
  rw [show (n : Int) / 64 % 256 % 64 = (n : Int) / 64 % 64 by omega] at a1
  rw [show (n : Int) / 4096 % 256 % 64 = (n : Int) / 4096 % 64 by omega] at a2
  have o0 := u8_or128 (y := (n : Int) % 64) (by omega) (by omega)
  have o1 := u8_or128 (y := (n : Int) / 64 % 64) (by omega) (by omega)
  have o2 := u8_or128 (y := (n : Int) / 4096 % 64) (by omega) (by omega)
  by_cases c1 : (n : Int) < 128
  · have e : szI (n : Int) = 1 := by rw [szI, if_neg hr, if_pos c1]
    rw [e] at hsz
    clear e hok
    go_enter Tryd.func72, Tryd.ntmps72
    go_wp2_with (first | (go_at_call 71; refine (hsz _).mono ?_; rintro e w1 ⟨rfl, rfl⟩) | (at_builtin; refine wpList_append_own _ rfl (.tmp 9) (.tmp 12) 89 rfl base 5 i0 (.int .u8 0) 1 1 Tryd.underlying89 hi hz0 hz1 hz2 rfl (by decide) _ _ _ rfl (hown.alloc _) ⟨_, 0, none⟩ 1 1 [.int .u8 (n : Int)] rfl rfl (one_new _ _ _) (one_one _ rfl) (by unfold maxLen; omega) (by omega) (by simp; omega) ?_; intro v' w3 ho3 hg3 hnil3) | go_in)
    have R2 := below_app hb (Below.refl _ _) hown hg3
    go_ret
    exact ⟨_, rfl, own_more ho3 rfl (by rw [ptB1 (by omega)]; rfl) (by rw [ptB1 (by omega)]; simp only [bv, List.map_cons, List.map_nil]; rw [bv_one (by omega) rfl]), R2⟩
  · by_cases c2 : (n : Int) < 2048
    · have e : szI (n : Int) = 2 := by rw [szI, if_neg hr, if_neg c1, if_pos c2]
      rw [e] at hsz
      have q0 := u8_or192 (y := (n : Int) / 64) (by omega) (by omega)
      clear e hok
      go_enter Tryd.func72, Tryd.ntmps72
      go_wp2_with (first | (go_at_call 71; refine (hsz _).mono ?_; rintro e w1 ⟨rfl, rfl⟩) | (at_builtin; refine wpList_append_own _ rfl (.tmp 16) (.tmp 23) 89 rfl base 5 i0 (.int .u8 0) 1 1 Tryd.underlying89 hi hz0 hz1 hz2 rfl (by decide) _ _ _ rfl (hown.alloc _) ⟨_, 0, none⟩ 2 2 [.int .u8 (192 + (n : Int) / 64), .int .u8 (128 + (n : Int) % 64)] rfl rfl (many_new _ _ _) (many_one [_, _]) (by unfold maxLen; omega) (by omega) (by simp; omega) ?_; intro v' w3 ho3 hg3 hnil3) | go_in)
      have R2 := below_app hb (Below.refl _ _) hown hg3
      go_ret
      exact ⟨_, rfl, own_more ho3 rfl (by rw [ptB2 (by omega) (by omega)]; rfl) (by rw [ptB2 (by omega) (by omega)]; simp only [bv, List.map_cons, List.map_nil]; rw [bv_one (y := 192 + (n : Int) / 64) (by omega) (by omega), bv_one (y := 128 + (n : Int) % 64) (by omega) (by omega)]), R2⟩
    · by_cases c3 : (n : Int) < 65536
      · have e : szI (n : Int) = 3 := by rw [szI, if_neg hr, if_neg c1, if_neg c2, if_pos c3]
        rw [e] at hsz
        have q0 := u8_or224 (y := (n : Int) / 4096) (by omega) (by omega)
        clear e hok
        go_enter Tryd.func72, Tryd.ntmps72
        go_wp2_with (first | (go_at_call 71; refine (hsz _).mono ?_; rintro e w1 ⟨rfl, rfl⟩) | (at_builtin; refine wpList_append_own _ rfl (.tmp 27) (.tmp 36) 89 rfl base 5 i0 (.int .u8 0) 1 1 Tryd.underlying89 hi hz0 hz1 hz2 rfl (by decide) _ _ _ rfl (hown.alloc _) ⟨_, 0, none⟩ 3 3 [.int .u8 (224 + (n : Int) / 4096), .int .u8 (128 + (n : Int) / 64 % 64), .int .u8 (128 + (n : Int) % 64)] rfl rfl (many_new _ _ _) (many_one [_, _, _]) (by unfold maxLen; omega) (by omega) (by simp; omega) ?_; intro v' w3 ho3 hg3 hnil3) | go_in)
        have R2 := below_app hb (Below.refl _ _) hown hg3
        go_ret
        exact ⟨_, rfl, own_more ho3 rfl (by rw [ptB3 (by omega) (by omega)]; rfl) (by rw [ptB3 (by omega) (by omega)]; simp only [bv, List.map_cons, List.map_nil]; rw [bv_one (y := 224 + (n : Int) / 4096) (by omega) (by omega), bv_one (y := 128 + (n : Int) / 64 % 64) (by omega) (by omega), bv_one (y := 128 + (n : Int) % 64) (by omega) (by omega)]), R2⟩
      · have e : szI (n : Int) = 4 := by rw [szI, if_neg hr, if_neg c1, if_neg c2, if_neg c3]
        rw [e] at hsz
        have q0 := u8_or240 (y := (n : Int) / 262144) (by omega) (by omega)
        clear e hok
        go_enter Tryd.func72, Tryd.ntmps72
        go_wp2_with (first | (go_at_call 71; refine (hsz _).mono ?_; rintro e w1 ⟨rfl, rfl⟩) | (at_builtin; refine wpList_append_own _ rfl (.tmp 40) (.tmp 51) 89 rfl base 5 i0 (.int .u8 0) 1 1 Tryd.underlying89 hi hz0 hz1 hz2 rfl (by decide) _ _ _ rfl (hown.alloc _) ⟨_, 0, none⟩ 4 4 [.int .u8 (240 + (n : Int) / 262144), .int .u8 (128 + (n : Int) / 4096 % 64), .int .u8 (128 + (n : Int) / 64 % 64), .int .u8 (128 + (n : Int) % 64)] rfl rfl (many_new _ _ _) (many_one [_, _, _, _]) (by unfold maxLen; omega) (by omega) (by simp; omega) ?_; intro v' w3 ho3 hg3 hnil3) | go_in)
        have R2 := below_app hb (Below.refl _ _) hown hg3
        go_ret
        exact ⟨_, rfl, own_more ho3 rfl (by rw [ptB4 (by omega)]; rfl) (by rw [ptB4 (by omega)]; simp only [bv, List.map_cons, List.map_nil]; rw [bv_one (y := 240 + (n : Int) / 262144) (by omega) (by omega), bv_one (y := 128 + (n : Int) / 4096 % 64) (by omega) (by omega), bv_one (y := 128 + (n : Int) / 64 % 64) (by omega) (by omega), bv_one (y := 128 + (n : Int) % 64) (by omega) (by omega)]), R2⟩
end Go.Proofs.YtffbkgmagjkogaaDoor
