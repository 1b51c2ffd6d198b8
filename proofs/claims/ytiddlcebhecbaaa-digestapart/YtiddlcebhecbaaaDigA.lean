/-
  The digest: the document's number, and the walks of both sides.
-/
import Derived.Test.YtiddlcebhecbaaaRows
import Derived.WalkKit
import Derived.ProofKit
import Derived.OpenShut
import Derived.PlainAid
import Derived.Laws.BitsLemmas
import Derived.Laws.BitsAllLaws
import Derived.Laws.IdiomStrings
import Derived.Lib.BufferRead
import Derived.WalkLawsBesides
import Derived.Handy
import Derived.Outline
namespace Go.Proofs.Ytiddlcebhecbaaa
open Go.RowKit Go.ChangeShapes Go.WideShapes Go.ChangeAt

/-- Bytes as a text. -/
def mk (l : List UInt8) : ByteArray := ⟨l.toArray⟩
theorem mk_list (l : List UInt8) : (mk l).toList = l := by rw [Go.ByteArray.toList_eq]; rfl
theorem ret_bool {b : Bool} (h : b = true) : Ending.returned (.bool b) = .returned (.bool true) := by rw [h]
theorem ret_int {k : IntKind} {a b : Int} (h : a = b) : Ending.returned (.int k a) = .returned (.int k b) := by rw [h]

/-- Times the document's factor. -/
@[irreducible] def tim (n : Nat) : Nat := n * 16777619 % 4294967296
theorem tim_eq (n : Nat) : tim n = n * 16777619 % 4294967296 := by unfold tim; rfl
/-- One byte more. -/
@[irreducible] def fnv (n : Nat) (b : UInt8) : Nat := tim (n ^^^ b.toNat)
theorem fnv_eq (n : Nat) (b : UInt8) : fnv n b = tim (n ^^^ b.toNat) := by unfold fnv; rfl
/-- Bytes more. -/
def ext (n : Nat) (l : List UInt8) : Nat := l.foldl fnv n

theorem fnv_lt (n : Nat) (b : UInt8) : fnv n b < 4294967296 := by
  rw [fnv_eq, tim_eq]
  exact Nat.mod_lt _ (by decide)
theorem ext_append (n : Nat) (a b : List UInt8) : ext n (a ++ b) = ext (ext n a) b := List.foldl_append
theorem ext_lt {n : Nat} (h : n < 4294967296) (l : List UInt8) : ext n l < 4294967296 := by
  induction l generalizing n with
  | nil => exact h
  | cons b l ih => exact ih (fnv_lt n b)
theorem ext_take (n : Nat) (x : ByteArray) (i : Nat) (h : i < x.size) : ext n (x.data.toList.take (i + 1)) = fnv (ext n (x.data.toList.take i)) x[i] := by
  have hk : i < x.data.toList.length := by rw [Array.length_toList]; exact h
  have e : x.data.toList[i] = x[i] := rfl
  rw [List.take_add_one, ext_append, List.getElem?_eq_getElem hk, Option.toList_some, e]
  unfold ext
  rw [List.foldl_cons, List.foldl_nil]

theorem xor_lt (n : Nat) (b : UInt8) (h : n < 4294967296) : n ^^^ b.toNat < 4294967296 := by
  have := b.toNat_lt
  exact Nat.xor_lt_two_pow (n := 32) h (by omega)

set_option maxHeartbeats 400000 in
theorem times_any (n : Nat) (w : World) (h : n < 4294967296) :
    Calls Try.prog 14 #[.int .u32 (n : Int)] w fun e w' => e = .returned (.int .u32 (tim n : Nat)) ∧ w' = w := by
  have h' : (n : Int) < 4294967296 := by omega
  go_enter Try.func14, Try.ntmps14
  go_wp2
  go_ret
  exact ⟨ret_int (by rw [tim_eq]; omega), rfl⟩

set_option maxHeartbeats 1000000 in
theorem extend_any (n : Nat) (x : ByteArray) (w : World) (h : n < 4294967296) (hx : x.size ≤ maxLen) :
    Calls Try.prog 10 #[.int .u32 (n : Int), .string x] w fun e w' => e = .returned (.int .u32 (ext n x.data.toList : Nat)) ∧ w' = w := by
  unfold maxLen at hx
  go_enter Try.func10, Try.ntmps10
  go_wp2
  go_loopw [0, 8] (fun s i wr => ∃ k : Nat, k ≤ x.size ∧ i = .int .i64 (k : Int) ∧ s = .int .u32 (ext n (x.data.toList.take k) : Nat) ∧ wr = w) (fun _ i _ => x.size - (intOf i).toNat)
  case atStart => exact ⟨0, Nat.zero_le _, rfl, rfl, rfl⟩
  case round =>
    obtain ⟨k, hk, rfl, rfl, rfl⟩ := hrel
    have hm := ext_lt h (x.data.toList.take k)
    have hs := ext_take n x k
    by_cases hlt : k < x.size
    · have hlt' : (k : Int) < (x.size : Int) := by omega
      have hs' := hs hlt
      generalize ext n (x.data.toList.take k) = m at *
      have hxo := u32_xor_nat m x[k].toNat hm (by have := x[k].toNat_lt; omega)
      have cT := times_any (m ^^^ x[k].toNat) wr (xor_lt m _ hm)
      clear hm hs h
      have hmd : (x[k].toNat : Int) % 4294967296 = (x[k].toNat : Int) := by have := x[k].toNat_lt; omega
      go_wp2_with fail
      refine cT.mono ?_
      rintro e w' ⟨rfl, hw⟩
      rw [hw]
      clear hw w'
      go_wp2
      go_roundw
      case rel => exact ⟨k + 1, by omega, by go_num, by rw [hs', fnv_eq], trivial⟩
      case measure => simp [intOf]; omega
    · obtain rfl : k = x.size := by omega
      have hlt' : ¬ (x.size : Int) < (x.size : Int) := by omega
      go_wp2
      go_ret
      exact ⟨ret_int (by rw [List.take_of_length_le (by rw [Array.length_toList]; exact Nat.le_refl _)]), rfl⟩

theorem sum_any (x : ByteArray) (w : World) (hx : x.size ≤ maxLen) :
    Calls Try.prog 8 #[.string x] w fun e w' => e = .returned (.int .u32 (ext 2166136261 x.data.toList : Nat)) ∧ w' = w := by
  have c : Calls Try.prog 10 #[.int .u32 2166136261, .string x] w fun e w' => e = .returned (.int .u32 (ext 2166136261 x.data.toList : Nat)) ∧ w' = w := extend_any 2166136261 x w (by decide) hx
  go_enter Try.func8, Try.ntmps8
  go_wp2_with fail
  refine c.mono ?_
  rintro e w' ⟨rfl, hw⟩
  rw [hw]
  clear hw w'
  go_wp2
  go_ret
  exact ⟨rfl, rfl⟩

theorem low_xor (n : Nat) (b : Nat) (hb : b < 256) : n - n % 256 + ((n % 256) ^^^ b) = n ^^^ b := by
  have h1 : n % 256 = n % 2 ^ 8 := rfl
  have hb' : b < 2 ^ 8 := hb
  have hx : (n % 2 ^ 8) ^^^ b < 2 ^ 8 := Nat.xor_lt_two_pow (Nat.mod_lt _ (by decide)) hb'
  have e1 : (n ^^^ b) % 2 ^ 8 = (n % 2 ^ 8) ^^^ b := by rw [Nat.xor_mod_two_pow, Nat.mod_eq_of_lt hb']
  have e2 : (n ^^^ b) / 2 ^ 8 = n / 2 ^ 8 := by
    rw [Nat.xor_div_two_pow, Nat.div_eq_of_lt hb', Nat.xor_zero]
  have e3 := Nat.div_add_mod (n ^^^ b) (2 ^ 8)
  have e4 := Nat.div_add_mod n (2 ^ 8)
  rw [e1, e2] at e3
  rw [h1]
  omega

theorem w1 {q : Nat} (h : q < 256) : wrap64 (q : Int) = (q : Int) := by unfold wrap64; omega
theorem w2 {m q r : Nat} (hm : m < 4294967296) (h : m - m % 256 + q = r) (hr : r < 4294967296) : wrap64 ((m : Int) - (m : Int) % 256 + (q : Int)) = (r : Int) := by unfold wrap64; omega
theorem w3 {r : Nat} (h : r < 4294967296) : wrap64 ((r : Int) * 16777619) = (r : Int) * 16777619 := by unfold wrap64; omega
theorem w4 {r : Nat} (_h : r < 4294967296) : ((r : Int) * 16777619).tmod 4294967296 = (tim r : Nat) := by
  rw [tim_eq, Int.tmod_eq_emod_of_nonneg (by omega)]
  omega

set_option maxHeartbeats 1000000 in
theorem rextend_any (n : Nat) (x : ByteArray) (w : World) (h : n < 4294967296) (hx : x.size ≤ maxLen) :
    Calls Try.prog 11 #[.int .u32 (n : Int), .string x] w fun e w' => e = .returned (.int .u32 (ext n x.data.toList : Nat)) ∧ w' = w := by
  unfold maxLen at hx
  have h' : (n : Int) < 4294967296 := by omega
  go_enter Try.func11, Try.ntmps11
  go_wp2
  go_loopw [5, 6] (fun s i wr => ∃ k : Nat, k ≤ x.size ∧ i = .int .i64 (k : Int) ∧ s = .int .i64 (ext n (x.data.toList.take k) : Nat) ∧ wr = w) (fun _ i _ => x.size - (intOf i).toNat)
  case atStart => exact ⟨0, Nat.zero_le _, rfl, rfl, rfl⟩
  case round =>
    obtain ⟨k, hk, rfl, rfl, rfl⟩ := hrel
    have hm := ext_lt h (x.data.toList.take k)
    have hs := ext_take n x k
    by_cases hlt : k < x.size
    · have hlt' : (k : Int) < (x.size : Int) := by omega
      have hs' := hs hlt
      generalize ext n (x.data.toList.take k) = m at *
      have hm' : (m : Int) < 4294967296 := by omega
      have hb := x[k].toNat_lt
      have hlx := low_xor m x[k].toNat hb
      have hxl := xor_lt m x[k] hm
      have hxb : (m % 256) ^^^ x[k].toNat < 256 := Nat.xor_lt_two_pow (n := 8) (by omega) hb
      have hxo : bits .xor .u8 ((m : Int) % 256) (x[k].toNat : Int) = (((m % 256) ^^^ x[k].toNat : Nat) : Int) := u8_xor_nat (m % 256) x[k].toNat (by omega) hb
      rw [fnv_eq] at hs'
      have hw2 := w2 hm hlx hxl
      generalize (m % 256) ^^^ x[k].toNat = q at *
      generalize m ^^^ x[k].toNat = r at *
      have hw1 := w1 hxb
      have hw3 := w3 hxl
      have hw4 := w4 hxl
      rw [← hs'] at hw4
      obtain ⟨z, hz⟩ : ∃ z, z = ext n (List.take (k + 1) x.data.toList) := ⟨_, rfl⟩
      rw [← hz] at hw4
      clear hs hs' hlx hxl hm hb hxb
      go_wp2
      go_roundw
      case rel => exact ⟨k + 1, by omega, by go_num, rfl, trivial⟩
      case measure => simp [intOf]; omega
    · obtain rfl : k = x.size := by omega
      have hlt' : ¬ (x.size : Int) < (x.size : Int) := by omega
      rw [List.take_of_length_le (by rw [Array.length_toList]; exact Nat.le_refl _)] at hm ⊢
      have hz : ((ext n x.data.toList : Nat) : Int) % 4294967296 = ((ext n x.data.toList : Nat) : Int) := by omega
      clear hm hs h h'
      go_wp2
      go_ret
      exact ⟨rfl, rfl⟩

theorem rsum_any (x : ByteArray) (w : World) (hx : x.size ≤ maxLen) :
    Calls Try.prog 9 #[.string x] w fun e w' => e = .returned (.int .u32 (ext 2166136261 x.data.toList : Nat)) ∧ w' = w := by
  have c : Calls Try.prog 11 #[.int .u32 2166136261, .string x] w fun e w' => e = .returned (.int .u32 (ext 2166136261 x.data.toList : Nat)) ∧ w' = w := rextend_any 2166136261 x w (by decide) hx
  go_enter Try.func9, Try.ntmps9
  go_wp2_with fail
  refine c.mono ?_
  rintro e w' ⟨rfl, hw⟩
  rw [hw]
  clear hw w'
  go_wp2
  go_ret
  exact ⟨rfl, rfl⟩

/-- The four bytes of a word. -/
def wordB (x : Nat) : List UInt8 := [UInt8.ofNat (x / 16777216), UInt8.ofNat (x / 65536 % 256), UInt8.ofNat (x / 256 % 256), UInt8.ofNat (x % 256)]
theorem byte_nat (x : Nat) (h : x < 256) : ((UInt8.ofNat x).toNat : Int) = (x : Int) := by
  rw [UInt8.toNat_ofNat', Nat.mod_eq_of_lt (by omega)]

theorem word_conv (x : Nat) (h1 : x ≤ 4294967295) (u : World) : (convert 30 9 (Value.slice (some { block := u.heap.size, off := 0 }) 4 4)).run Try.prog (u.alloc (Obj.cells #[Value.int IntKind.u8 ((x : Int) / 16777216), Value.int IntKind.u8 ((x : Int) / 65536 % 256), Value.int IntKind.u8 ((x : Int) / 256 % 256), Value.int IntKind.u8 ((x : Int) % 256)] 5)) = .ok (.string (mk (wordB x))) (u.alloc (Obj.cells #[Value.int IntKind.u8 ((x : Int) / 16777216), Value.int IntKind.u8 ((x : Int) / 65536 % 256), Value.int IntKind.u8 ((x : Int) / 256 % 256), Value.int IntKind.u8 ((x : Int) % 256)] 5)) :=
  run_convert_bytes_back _ 30 9 5 ⟨u.heap.size, 0, none⟩ 4 (wordB x) Try.underlying30 Try.underlying5 Try.underlying9 (fun j hj => by
    have e0 := byte_nat (x / 16777216) (by omega)
    have e1 := byte_nat (x / 65536 % 256) (by omega)
    have e2 := byte_nat (x / 256 % 256) (by omega)
    have e3 := byte_nat (x % 256) (by omega)
    match j, hj with
    | 0, _ => simp only [wordB, List.getElem_cons_zero, e0]; simp [Addr.add]
    | 1, _ => simp only [wordB, List.getElem_cons_zero, List.getElem_cons_succ, e1]; simp [Addr.add]
    | 2, _ => simp only [wordB, List.getElem_cons_zero, List.getElem_cons_succ, e2]; simp [Addr.add]
    | 3, _ => simp only [wordB, List.getElem_cons_zero, List.getElem_cons_succ, e3]; simp [Addr.add])

set_option maxHeartbeats 400000 in
theorem name_any (x : Nat) (w : World) (h1 : x ≤ 4294967295) :
    Calls Try.prog 12 #[.int .u32 (x : Int)] w fun e w' => e = .returned (.string (mk (wordB x))) ∧ Below w.heap.size w w' := by
  have h2 : (x : Int) ≤ 4294967295 := by omega
  have hc := word_conv x h1
  go_enter Try.func12, Try.ntmps12
  go_wp2
  go_ret
  exact ⟨rfl, (Below.refl _ _).alloc (Nat.le_refl _) _⟩

set_option maxHeartbeats 400000 in
theorem rname_any (x : Nat) (w : World) (h1 : x ≤ 4294967295) :
    Calls Try.prog 13 #[.int .u32 (x : Int)] w fun e w' => e = .returned (.string (mk (wordB x))) ∧ Below w.heap.size w w' := by
  have h2 : (x : Int) ≤ 4294967295 := by omega
  have hc := word_conv x h1
  go_enter Try.func13, Try.ntmps13
  go_wp2
  go_ret
  exact ⟨rfl, (Below.refl _ _).alloc (Nat.le_refl _) _⟩
end Go.Proofs.Ytiddlcebhecbaaa
