/-
  begun: it answers true.
-/
import Derived.Test.YthgdjgbikljbeaaLawA
namespace Go.Proofs.Ythgdjgbikljbeaa
open Go.RowKit Go.Maps

theorem bytes_a (w : World) : Calls Try.prog 18 #[.int .u8 97] w fun e w' => e = .returned (.string (mk (List.replicate 64 97))) ∧ Below w.heap.size w w' := bytes_any 97 w
theorem bytes_0 (w : World) : Calls Try.prog 18 #[.int .u8 0] w fun e w' => e = .returned (.string (mk zeroS)) ∧ Below w.heap.size w w' := bytes_any 0 w
theorem bytes_1 (w : World) : Calls Try.prog 18 #[.int .u8 1] w fun e w' => e = .returned (.string (mk (List.replicate 64 1))) ∧ Below w.heap.size w w' := bytes_any 1 w

theorem mk_size (l : List UInt8) : (mk l).size = l.length := by unfold mk; simp [ByteArray.size]

def aaa : Sec := List.replicate 64 97
def begS : DevS := { newS 8 with waits := putF (newS 8).waits 1 aaa, fuse := burnt (newS 8).fuse }
theorem begS_keys : begS.keys = [1] := by decide +kernel
theorem begS_read : begS.readAt 1 = aaa := rfl
theorem begS_safe : begS.safeAt 1 = zeroS := rfl
theorem begS_up : begS.up = true := by decide
theorem newS_up (n : Nat) : (newS n).up = true := rfl

set_option maxRecDepth 20000 in
set_option maxHeartbeats 2000000 in
theorem begun_any (w : World) : Calls Try.prog 10 #[] w fun e w' => e = .returned (.bool true) ∧ Below w.heap.size w w' := by
  have cN : Calls Try.prog 8 #[.int .i64 8] w fun e w' => e = .returned (.tuple #[.pointer (some ⟨w.heap.size + 2, 0, none⟩), .int .i64 0]) ∧ IsDev w' (w.heap.size + 2) w.heap.size (w.heap.size + 1) (newS 8) ∧ Below w.heap.size w w' := new_ok 8 w (by omega) (by omega)
  go_enter Try.func10, Try.ntmps10
  go_wp2_with fail
  refine cN.mono ?_
  rintro e w1 ⟨rfl, hd1, hb1⟩
  clear cN
  go_wp2_with fail
  refine (sectors_any hd1).mono ?_
  rintro e w1' ⟨rfl, hw⟩
  subst hw
  have e8 : (newS 8).n = 8 := rfl
  rw [e8]
  clear e8
  go_wp2_with fail
  refine (bytes_a _).mono ?_
  rintro e w2 ⟨rfl, hb2⟩
  have hd2 := hd1.below hb2
  clear hd1
  have cW : Calls Try.prog 17 #[.pointer (some ⟨w.heap.size + 2, 0, none⟩), .int .i64 1, .string (mk (List.replicate 64 97))] w2 fun e w' => e = .returned (.int .i64 0) ∧ IsDev w' (w.heap.size + 2) w.heap.size (w.heap.size + 1) begS ∧ Only [w.heap.size + 2, w.heap.size + 1] w2 w' :=
    write_ok hd2 1 _ (by decide) (newS_up 8) (by rw [mk_size]; rfl)
  go_wp2_with fail
  refine cW.mono ?_
  rintro e w3 ⟨rfl, hd3, ho3⟩
  clear cW hd2
  have hb3 : Below w.heap.size w2 w3 := ho3.below (by have := hb2.size; have := hb1.size; omega) (by simp)
  have cR : Calls Try.prog 26 #[.pointer (some ⟨w.heap.size + 2, 0, none⟩), .int .i64 1] w3 fun e w' => e = .returned (.tuple #[.string (mk aaa), .int .i64 0]) ∧ Below w3.heap.size w3 w' := read_ok hd3 1 (by decide) begS_up
  go_wp2_with fail
  refine cR.mono ?_
  rintro e w4 ⟨rfl, hb4⟩
  have hd4 := hd3.below hb4
  clear cR hd3
  have cS : Calls Try.prog 25 #[.pointer (some ⟨w.heap.size + 2, 0, none⟩), .int .i64 1] w4 fun e w' => e = .returned (.tuple #[.string (mk zeroS), .int .i64 0]) ∧ Below w4.heap.size w4 w' := safe_ok hd4 1 (by decide)
  go_wp2_with fail
  refine cS.mono ?_
  rintro e w5 ⟨rfl, hb5⟩
  have hd5 := hd4.below hb5
  clear cS hd4
  go_wp2_with fail
  refine (bytes_a _).mono ?_
  rintro e w6 ⟨rfl, hb6⟩
  have hd6 := hd5.below hb6
  clear hd5
  have eA : mk (List.replicate 64 97) = mk aaa := rfl
  rw [eA]
  clear eA
  have cZ := bytes_0
  have cC : ∀ W, IsDev W (w.heap.size + 2) w.heap.size (w.heap.size + 1) begS → Calls Try.prog 22 #[.pointer (some ⟨w.heap.size + 2, 0, none⟩), .string ⟨#[]⟩] W fun e w' => e = .returned (.int .i64 1) ∧ IsDev w' (w.heap.size + 2) w.heap.size (w.heap.size + 1) (begS.crashed []) ∧ Only [w.heap.size + 2, w.heap.size, w.heap.size + 1] W w' := fun W hW => by
    have h := crash_any hW ⟨#[]⟩ (by decide)
    rw [begS_keys] at h
    exact h
  have cA : ∀ W, IsDev W (w.heap.size + 2) w.heap.size (w.heap.size + 1) (begS.crashed []) → Calls Try.prog 30 #[.pointer (some ⟨w.heap.size + 2, 0, none⟩)] W fun e w' => e = .returned (.int .i64 1) ∧ w' = W := fun W hW => by
    have h := age_any hW
    have e : (begS.crashed []).age = 1 := by show wrap64 (0 + 1) = 1; unfold wrap64; omega
    rw [e] at h
    exact h
  generalize mk aaa = A
  generalize mk zeroS = Z at *
  go_wp2_with fail
  refine (cZ _).mono ?_
  rintro e w7 ⟨rfl, hb7⟩
  have hd7 := hd6.below hb7
  clear cZ hd6
  go_wp2_with fail
  refine (cC _ hd7).mono ?_
  rintro e w8 ⟨rfl, hd8, ho8⟩
  clear cC hd7
  go_wp2_with fail
  refine (cA _ hd8).mono ?_
  rintro e w9 ⟨rfl, hw⟩
  subst hw
  clear cA hd8
  go_wp2_with fail
  go_ret
  have s1 := hb1.size
  have s2 := hb2.size
  have s3 := ho3.size
  have s4 := hb4.size
  have s5 := hb5.size
  have s6 := hb6.size
  have s7 := hb7.size
  have hb8 := ho8.below (B := w.heap.size) (by omega) (by simp)
  exact ⟨rfl, ((((((hb1.trans (hb2.mono (by omega))).trans hb3).trans (hb4.mono (by omega))).trans (hb5.mono (by omega))).trans (hb6.mono (by omega))).trans (hb7.mono (by omega))).trans hb8⟩
end Go.Proofs.Ythgdjgbikljbeaa
