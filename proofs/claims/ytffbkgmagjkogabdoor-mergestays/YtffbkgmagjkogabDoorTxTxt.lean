/-
  The bytes of code points; the contracts of appendPoint and Text.
-/
import Derived.Test.YtffbkgmagjkogabDoorTxRun
namespace Go.Proofs.YtffbkgmagjkogabDoor
open Go.ChangeShapes Go.WideShapes Go.ChangeAt Go.RowKit Go.PlainAid

theorem Tryd.info5 : (Tryd.prog.info? 5).map (fun i => (i.zero, i.size, i.bytes)) = some (some (.int .u8 0), 1, 1) := by kernel_rfl

/-- The bytes of a code point. -/
def ptB (n : Nat) : List UInt8 :=
  if n < 128 then [UInt8.ofNat n]
  else if n < 2048 then [UInt8.ofNat (192 + n / 64), UInt8.ofNat (128 + n % 64)]
  else if n < 65536 then [UInt8.ofNat (224 + n / 4096), UInt8.ofNat (128 + n / 64 % 64), UInt8.ofNat (128 + n % 64)]
  else [UInt8.ofNat (240 + n / 262144), UInt8.ofNat (128 + n / 4096 % 64), UInt8.ofNat (128 + n / 64 % 64), UInt8.ofNat (128 + n % 64)]

theorem ptB1 {n : Nat} (h : n < 128) : ptB n = [UInt8.ofNat n] := by rw [ptB, if_pos h]
theorem ptB2 {n : Nat} (h1 : 128 ≤ n) (h : n < 2048) : ptB n = [UInt8.ofNat (192 + n / 64), UInt8.ofNat (128 + n % 64)] := by rw [ptB, if_neg (by omega), if_pos h]
theorem ptB3 {n : Nat} (h1 : 2048 ≤ n) (h : n < 65536) : ptB n = [UInt8.ofNat (224 + n / 4096), UInt8.ofNat (128 + n / 64 % 64), UInt8.ofNat (128 + n % 64)] := by rw [ptB, if_neg (by omega), if_neg (by omega), if_pos h]
theorem ptB4 {n : Nat} (h1 : 65536 ≤ n) : ptB n = [UInt8.ofNat (240 + n / 262144), UInt8.ofNat (128 + n / 4096 % 64), UInt8.ofNat (128 + n / 64 % 64), UInt8.ofNat (128 + n % 64)] := by rw [ptB, if_neg (by omega), if_neg (by omega), if_neg (by omega)]

theorem ptB_len (n : Nat) : 1 ≤ (ptB n).length ∧ (ptB n).length ≤ 4 := by
  unfold ptB; split; · simp
  split; · simp
  split <;> simp

theorem bv_one {x : Nat} {y : Int} (h : x < 256) (e : (x : Int) = y) : Value.int .u8 ((UInt8.ofNat x).toNat : Int) = .int .u8 y := by rw [byte_nat x h, e]

theorem many_new (wr : World) (l : List Value) (e : Nat) : ∀ j u, l[j]? = some u → (wr.alloc (.cells l.toArray e)).cell? ((⟨wr.heap.size, 0, none⟩ : Addr).add j) = some u := by
  intro j u hj
  have hadd : (⟨wr.heap.size, 0, none⟩ : Addr).add j = ⟨wr.heap.size, j, none⟩ := by unfold Addr.add; split <;> simp_all
  rw [hadd, cell_of_row _ _ j l.toArray e (0, 0) (heap_alloc_new wr _)]
  simpa using hj

theorem many_one (l : List Int) : ∀ u ∈ l.map (Value.int .u8), u.oneCell' = true := by
  intro u hu
  simp only [List.mem_map] at hu
  obtain ⟨x, _, rfl⟩ := hu
  rfl

theorem own_more {w1 : World} {base e n m : Nat} {v' : Value} {L M : List UInt8} {xs : List Value} (h : w1.ownsRow base e 1 v' (n + m) (bv L ++ xs)) (hn : L.length = n) (hm : M.length = m) (hx : bv M = xs) :
    w1.ownsRow base e 1 v' (L ++ M).length (bv (L ++ M)) := by
  subst hx; subst hn; subst hm
  rw [bv_append, List.length_append]
  exact h

end Go.Proofs.YtffbkgmagjkogabDoor
