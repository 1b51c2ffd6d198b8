/-
  Plain words for the proofs of this seat: bytes as values, bytes that stand in a text.
-/
import Derived.WalkKit
import Derived.ProofKit
import Derived.OpenShut
import Derived.PlainAid
import Derived.Laws.BitsLemmas
import Derived.Laws.IdiomStrings
import Derived.Lib.BufferRead
import Derived.Lib.Strings
import Derived.Test.YtjimolafoihnpaaDoorRows
import Derived.WalkLawsBesides
import Derived.Handy
import Derived.Lib.AppendStr
namespace Go.Proofs.YtjimolafoihnpaaDoor
open Go.RowKit

/-- Bytes as the cells of a row. -/
def bv (l : List UInt8) : List Value := l.map (fun b => Value.int .u8 b.toNat)
/-- Bytes as a text. -/
def mk (l : List UInt8) : ByteArray := ⟨l.toArray⟩

theorem bv_length (l : List UInt8) : (bv l).length = l.length := by simp [bv]
theorem bv_append (a b : List UInt8) : bv (a ++ b) = bv a ++ bv b := by simp [bv]
theorem mk_size (l : List UInt8) : (mk l).size = l.length := by simp [mk, ByteArray.size]
theorem mk_toList (l : List UInt8) : (mk l).data.toList = l := by simp [mk]
theorem mk_list (l : List UInt8) : (mk l).toList = l := by rw [Go.ByteArray.toList_eq]; rfl
theorem ret_bool {b : Bool} (h : b = true) : Ending.returned (.bool b) = .returned (.bool true) := by rw [h]
theorem mk_data (s : ByteArray) : mk s.data.toList = s := by simp [mk]

/-- What is owned, as bytes, is that text. -/
theorem conv_own {P : Program} {w : World} {base src dst e : Nat} {v : Value} {n : Nat} {l : List UInt8} (hs : P.underlying src = some (.slice e)) (he : P.underlying e = some (.int .u8)) (hd : P.underlying dst = some .string)
    (h : w.ownsRow base e 1 v n (bv l)) : (convert src dst v).run P w = .ok (.string (mk l)) w := by
  have hl := h.1
  rw [bv_length] at hl
  rcases h.2 with ⟨rfl, rfl⟩ | ⟨g, cap, cur, rfl, _⟩
  · have : l = [] := List.eq_nil_of_length_eq_zero (by omega)
    subst this
    exact Lib.run_convert_nil_bytes w src dst e 0 hs he hd
  · have hn : n = l.length := by omega
    subst hn
    exact run_convert_bytes_back w src dst e ⟨g, 0, none⟩ cap l hs he hd (fun j hj => h.cells (g := g) rfl j _ (by simp [bv, hj]))

/-- One byte more, as the law on append leaves it. -/
theorem own_snoc {w1 : World} {base e n : Nat} {v' : Value} {L : List UInt8} {b : UInt8} {x : Int} (h : w1.ownsRow base e 1 v' (n + 1) (bv L ++ [.int .u8 x])) (hn : L.length = n) (hx : (b.toNat : Int) = x) :
    w1.ownsRow base e 1 v' (L ++ [b]).length (bv (L ++ [b])) := by
  subst hx; subst hn
  rw [bv_append]
  simpa [bv] using h

/-- Behind an append of what the call owns, old memory is as it was. -/
theorem below_app {base : Nat} {w wr w1 : World} {e n : Nat} {v : Value} {xs : List Value} {o : Obj} (hb : base ≤ w.heap.size) (hbl : Below base w wr) (hown : wr.ownsRow base e 1 v n xs) (hg : (wr.alloc o).grownBy w1 v.ownBlock) : Below base w w1 :=
  (hbl.alloc (Nat.le_trans hb hbl.size) o).grown hg (by have := hbl.size; simp; omega) (fun k hk => (hown.lt k hk).1)

theorem one_one (x : Value) (h : x.oneCell' = true) : ∀ u ∈ [x], u.oneCell' = true := by intro u hu; simp at hu; subst hu; exact h
theorem one_new (wr : World) (x : Value) (e : Nat) : ∀ j u, [x][j]? = some u → (wr.alloc (.cells #[x] e)).cell? ((⟨wr.heap.size, 0, none⟩ : Addr).add j) = some u := by
  intro j u hj
  match j, hj with
  | 0, hj => simp at hj; subst hj; simp [Addr.add]

theorem byte_val (x : Int) (h0 : 0 ≤ x) (h1 : x < 256) : ((UInt8.ofNat x.toNat).toNat : Int) = x := by
  simp; omega
theorem byte_nat (x : Nat) (h1 : x < 256) : (((UInt8.ofNat x).toNat : Nat) : Int) = (x : Int) := by
  simp; omega

theorem wraps_i64 (n : Int) (h₀ : 0 ≤ n) (h₁ : n < 2 ^ 62) : IntKind.i64.wrap n = n := by rw [IntKind.wrap_i64]; omega
theorem i64_and127 {x : Int} (h₀ : 0 ≤ x) (h₁ : x ≤ 1125899906842624) : bits .and .i64 x 127 = x % 128 := bits_mask .i64 62 (by decide) wraps_i64 7 (by decide) x h₀ (by omega)
theorem u8_and127 {x : Int} (h₀ : 0 ≤ x) (h₁ : x < 256) : bits .and .u8 x 127 = x % 128 := bits_mask .u8 8 (by decide) wraps_u8 7 (by decide) x h₀ h₁
theorem u8_or128' {y : Int} (h₀ : 0 ≤ y) (h₁ : y < 128) : bits .or .u8 128 y = 128 + y := bits_join .u8 8 (by decide) wraps_u8 7 128 y (by decide) (by decide) (by decide) h₀ h₁ (by omega)

theorem i64_or6 {x y : Int} (h0 : 0 ≤ x) (h1 : x ≤ 33554431) (h2 : 0 ≤ y) (h3 : y < 64) : bits .or .i64 (x * 64) y = x * 64 + y :=
  bits_join .i64 62 (by decide) wraps_i64 6 (x * 64) y (by omega) (by omega) (by omega) h2 (by omega) (by omega)
theorem chain {w a b : World} (h : Below w.heap.size w a) (k : Below a.heap.size a b) : Below w.heap.size w b := h.trans (k.mono h.size)
theorem data_len (t : ByteArray) : t.data.toList.length = t.size := by rw [Array.length_toList]; rfl
theorem ofNat_toNat {x : Nat} (h : x < 256) : (UInt8.ofNat x).toNat = x := by simp; omega

open Go.PlainAid
/-- The bytes F stand in s from place a on. -/
def At (s : ByteArray) (a : Nat) (F : List UInt8) : Prop := a + F.length ≤ s.size ∧ ∀ i (h : i < F.length), bt s (a + i) = (F[i].toNat : Int)

theorem at_append {s : ByteArray} {a : Nat} {F G : List UInt8} : At s a (F ++ G) ↔ At s a F ∧ At s (a + F.length) G := by
  constructor
  · rintro ⟨h1, h2⟩
    rw [List.length_append] at h1
    refine ⟨⟨by omega, fun i h => ?_⟩, ⟨by omega, fun i h => ?_⟩⟩
    · rw [h2 i (by rw [List.length_append]; omega), List.getElem_append_left h]
    · rw [show a + F.length + i = a + (F.length + i) by omega, h2 (F.length + i) (by rw [List.length_append]; omega), List.getElem_append_right (by omega)]
      simp
  · rintro ⟨⟨h1, h2⟩, ⟨h3, h4⟩⟩
    refine ⟨by rw [List.length_append]; omega, fun i h => ?_⟩
    by_cases hi : i < F.length
    · rw [h2 i hi, List.getElem_append_left hi]
    · rw [List.length_append] at h
      have e := h4 (i - F.length) (by omega)
      rw [show a + F.length + (i - F.length) = a + i by omega] at e
      rw [e, List.getElem_append_right (by omega)]

theorem at_one {s : ByteArray} {a : Nat} {b : UInt8} : At s a [b] ↔ a < s.size ∧ bt s a = (b.toNat : Int) := by
  constructor
  · rintro ⟨h1, h2⟩
    exact ⟨by simp at h1; omega, by simpa using h2 0 (by simp)⟩
  · rintro ⟨h1, h2⟩
    refine ⟨by simp; omega, fun i h => ?_⟩
    simp at h
    subst h
    simpa using h2

theorem at_cons {s : ByteArray} {a : Nat} {b : UInt8} {F : List UInt8} : At s a (b :: F) ↔ (a < s.size ∧ bt s a = (b.toNat : Int)) ∧ At s (a + 1) F := by
  rw [show b :: F = [b] ++ F by rfl, at_append, at_one]
  simp

theorem bt_data (s : ByteArray) (k : Nat) (h : k < s.size) : bt s k = ((s.data.toList[k]'(by rw [Array.length_toList]; exact h)).toNat : Int) := by
  rw [← get_bt s k h]
  rfl

theorem at_extract {s : ByteArray} {a : Nat} {F : List UInt8} (h : At s a F) : s.extract a (a + F.length) = mk F := by
  obtain ⟨h1, h2⟩ := h
  apply ByteArray.ext
  apply Array.ext'
  rw [Lib.extract_data]
  apply List.ext_getElem
  · simp [mk]
    have e : s.data.size = s.size := rfl
    omega
  · intro i g1 g2
    have hi : i < F.length := by simpa [mk] using g2
    have e := h2 i hi
    rw [bt_data s (a + i) (by omega)] at e
    have e' : s.data.toList[a + i]'(by rw [Array.length_toList]; have : s.data.size = s.size := rfl; omega) = F[i] := by
      apply UInt8.toNat_inj.1
      exact_mod_cast e
    simp [mk]
    simpa using e'

/-- Two texts that agree up to a place have the same forms there. -/
theorem at_agree {s s' : ByteArray} {a : Nat} {F : List UInt8} (h : At s a F) (hs : a + F.length ≤ s'.size) (he : ∀ i, i < a + F.length → bt s' i = bt s i) : At s' a F :=
  ⟨hs, fun i hi => by rw [he _ (by omega)]; exact h.2 i hi⟩

/-- The form of a number: groups of seven bits, the lowest first; at most so many and one. -/
def numF : Nat → Nat → List UInt8
  | 0, n => [UInt8.ofNat n]
  | f + 1, n => if n < 128 then [UInt8.ofNat n] else UInt8.ofNat (128 + n % 128) :: numF f (n / 128)

theorem numF_succ : ∀ (f n : Nat), n < 128 ^ (f + 1) → numF (f + 1) n = numF f n
  | 0, n, h => by simp at h; simp [numF, h]
  | f + 1, n, h => by
    have hd : n / 128 < 128 ^ (f + 1) := by rw [Nat.div_lt_iff_lt_mul (by omega)]; rw [Nat.pow_succ] at h; exact h
    show (if n < 128 then [UInt8.ofNat n] else UInt8.ofNat (128 + n % 128) :: numF (f + 1) (n / 128)) = (if n < 128 then [UInt8.ofNat n] else UInt8.ofNat (128 + n % 128) :: numF f (n / 128))
    rw [numF_succ f _ hd]

/-- The form of a number. -/
def numB (n : Nat) : List UInt8 := numF 9 n

theorem numB_low {n : Nat} (h : n < 128) : numB n = [UInt8.ofNat n] := by rw [numB, numF, if_pos h]
theorem numB_high {n : Nat} (h : 128 ≤ n) (h2 : n ≤ 1125899906842624) : numB n = UInt8.ofNat (128 + n % 128) :: numB (n / 128) := by
  rw [numB, numF, if_neg (by omega), ← numF_succ 8 (n / 128) (by omega)]
  rfl

theorem numF_len : ∀ (f n : Nat), (numF f n).length ≤ f + 1
  | 0, n => by simp [numF]
  | f + 1, n => by
    rw [numF]
    split
    · simp
    · have := numF_len f (n / 128); simp; omega

theorem numB_len {n : Nat} : (numB n).length ≤ 10 := numF_len 9 n

theorem numF_len_of : ∀ (k f n : Nat), n < 128 ^ (k + 1) → (numF f n).length ≤ k + 1
  | k, 0, n, _ => by simp [numF]
  | 0, f + 1, n, h => by rw [numF, if_pos (by simpa using h)]; simp
  | k + 1, f + 1, n, h => by
    rw [numF]
    split
    · simp
    · have hd : n / 128 < 128 ^ (k + 1) := by rw [Nat.div_lt_iff_lt_mul (by omega)]; rw [Nat.pow_succ] at h; exact h
      have := numF_len_of k f (n / 128) hd
      simp; omega
theorem numB_len8 {n : Nat} (h : n ≤ 1125899906842624) : (numB n).length ≤ 8 := numF_len_of 7 9 n (by omega)

theorem numB_pos (n : Nat) : 0 < (numB n).length := by
  rw [numB, numF]; split <;> simp


/-- A group laid above the others. -/
theorem or_shift {k : Nat} {N c : Int} (hk : k < 8) (h0 : 0 ≤ N) (h1 : N < 2 ^ (k * 7)) (c0 : 0 ≤ c) (c1 : c < 128) :
    bits .or .i64 N (wrap64 (c * 2 ^ (k * 7))) = N + c * 2 ^ (k * 7) ∧ 0 ≤ N + c * 2 ^ (k * 7) ∧ N + c * 2 ^ (k * 7) < 2 ^ ((k + 1) * 7) := by
  obtain ⟨n, rfl⟩ := Int.eq_ofNat_of_zero_le h0
  obtain ⟨d, rfl⟩ := Int.eq_ofNat_of_zero_le c0
  have hn : n < 2 ^ (k * 7) := by exact_mod_cast h1
  have hd : d < 128 := by omega
  have e7 : 2 ^ ((k + 1) * 7) = 2 ^ (k * 7) * 128 := by rw [Nat.add_mul, Nat.pow_add]
  have hp : 2 ^ (k * 7) ≤ 2 ^ 49 := Nat.pow_le_pow_right (by decide) (by omega)
  have hm : d * 2 ^ (k * 7) ≤ 127 * 2 ^ (k * 7) := Nat.mul_le_mul_right _ (by omega)
  have hw : wrap64 (((d * 2 ^ (k * 7) : Nat) : Int)) = ((d * 2 ^ (k * 7) : Nat) : Int) := by
    generalize d * 2 ^ (k * 7) = q at *
    unfold wrap64
    omega
  have ecast : ((d : Int) * 2 ^ (k * 7)) = ((d * 2 ^ (k * 7) : Nat) : Int) := by simp
  rw [ecast, hw, (bits_nat .i64 62 (by decide) wraps_i64 n (d * 2 ^ (k * 7)) (by omega) (by omega)).2]
  have ej : n ||| d * 2 ^ (k * 7) = n + d * 2 ^ (k * 7) := by
    rw [Nat.or_comm, Nat.mul_comm, ← Nat.two_pow_add_eq_or_of_lt hn d, Nat.add_comm]
  have e8 : ((2 : Int) ^ ((k + 1) * 7)) = ((2 ^ ((k + 1) * 7) : Nat) : Int) := by simp
  rw [ej, e8, e7]
  generalize d * 2 ^ (k * 7) = q at *
  generalize 2 ^ (k * 7) = r at *
  refine ⟨by simp, by omega, by omega⟩
end Go.Proofs.YtjimolafoihnpaaDoor

/-
  What text.next gives, in plain numbers; its contract, and those of first, sizeOf, tail.
-/
namespace Go.Proofs.YtjimolafoihnpaaDoor
open Go.ChangeShapes Go.WideShapes Go.ChangeAt Go.RowKit Go.PlainAid

/-- What a first byte tells: the bits that it carries, how many bytes there are. -/
def fstB (b : Int) : Int × Int := if b < 128 then (b, 1) else if b / 32 = 6 then (b % 32, 2) else if b / 16 = 14 then (b % 16, 3) else if b / 8 = 30 then (b % 8, 4) else (0, 0)
/-- How many bytes a code point has; 0: it is none. -/
def szI (v : Int) : Int := if v < 0 ∨ 1114111 < v ∨ (55296 ≤ v ∧ v ≤ 57343) then 0 else if v < 128 then 1 else if v < 2048 then 2 else if v < 65536 then 3 else 4
/-- The bytes behind the first one. -/
def nxGo (s : ByteArray) (at' : Nat) : Nat → Nat → Int → Option Int
  | 0, _, v => some v
  | f + 1, i, v => if bt s (at' + i) / 64 = 2 then nxGo s at' f (i + 1) (v * 64 + bt s (at' + i) % 64) else none
/-- The code point at a place, and how many bytes it has. -/
def nx (s : ByteArray) (at' : Nat) : Int × Int :=
  if (s.size : Int) - (at' : Int) < (fstB (bt s at')).2 then (0, 0)
  else match nxGo s at' ((fstB (bt s at')).2.toNat - 1) 1 (fstB (bt s at')).1 with
    | none => (0, 0)
    | some v => if szI v = (fstB (bt s at')).2 then (v, (fstB (bt s at')).2) else (0, 0)

theorem fstB_bd (b : Int) (h0 : 0 ≤ b) (h1 : b ≤ 255) : 0 ≤ (fstB b).1 ∧ (fstB b).1 ≤ 127 ∧ 0 ≤ (fstB b).2 ∧ (fstB b).2 ≤ 4 := by
  unfold fstB
  split
  · simp only; omega
  · split
    · simp only; omega
    · split
      · simp only; omega
      · split <;> simp only <;> omega

theorem first_any (b : Int) (w : World) (h0 : 0 ≤ b) (h1 : b ≤ 255) :
    Calls Tryd.prog 98 #[.int .u8 b] w fun e w' => e = .returned (.tuple #[.int .i64 (fstB b).1, .int .i64 (fstB b).2]) ∧ w = w' := by
  have a31 := u8_and31 (x := b) h0 (by omega)
  have a15 := u8_and15 (x := b) h0 (by omega)
  have a7 := u8_and7 (x := b) h0 (by omega)
  by_cases c1 : b < 128
  · have e : fstB b = (b, 1) := by rw [fstB, if_pos c1]
    rw [e]
    go_enter Tryd.func98, Tryd.ntmps98
    go_wp2
    go_ret2
    exact ⟨rfl, rfl⟩
  · by_cases c2 : b / 32 = 6
    · have e : fstB b = (b % 32, 2) := by rw [fstB, if_neg c1, if_pos c2]
      rw [e]
      go_enter Tryd.func98, Tryd.ntmps98
      go_wp2
      go_ret2
      exact ⟨rfl, rfl⟩
    · by_cases c3 : b / 16 = 14
      · have e : fstB b = (b % 16, 3) := by rw [fstB, if_neg c1, if_neg c2, if_pos c3]
        rw [e]
        go_enter Tryd.func98, Tryd.ntmps98
        go_wp2
        go_ret2
        exact ⟨rfl, rfl⟩
      · by_cases c4 : b / 8 = 30
        · have e : fstB b = (b % 8, 4) := by rw [fstB, if_neg c1, if_neg c2, if_neg c3, if_pos c4]
          rw [e]
          go_enter Tryd.func98, Tryd.ntmps98
          go_wp2
          go_ret2
          exact ⟨rfl, rfl⟩
        · have e : fstB b = (0, 0) := by rw [fstB, if_neg c1, if_neg c2, if_neg c3, if_neg c4]
          rw [e]
          go_enter Tryd.func98, Tryd.ntmps98
          go_wp2
          go_ret2
          exact ⟨rfl, rfl⟩

set_option maxRecDepth 20000 in
set_option maxHeartbeats 1000000 in
theorem sizeOf_any (v : Int) (w : World) : Calls Tryd.prog 94 #[.int .i64 v] w fun e w' => e = .returned (.int .i64 (szI v)) ∧ w = w' := by
  by_cases c1 : v < 0
  · have e : szI v = 0 := by rw [szI, if_pos (Or.inl c1)]
    rw [e]
    go_enter Tryd.func94, Tryd.ntmps94
    go_wp2
    go_ret
    exact ⟨rfl, rfl⟩
  · by_cases c2 : 1114111 < v
    · have e : szI v = 0 := by rw [szI, if_pos (Or.inr (Or.inl c2))]
      rw [e]
      go_enter Tryd.func94, Tryd.ntmps94
      go_wp2
      go_ret
      exact ⟨rfl, rfl⟩
    · by_cases c3 : v < 55296
      · by_cases d1 : v < 128
        · have e : szI v = 1 := by rw [szI, if_neg (by omega), if_pos d1]
          rw [e]
          go_enter Tryd.func94, Tryd.ntmps94
          go_wp2
          go_ret
          exact ⟨rfl, rfl⟩
        · by_cases d2 : v < 2048
          · have e : szI v = 2 := by rw [szI, if_neg (by omega), if_neg d1, if_pos d2]
            rw [e]
            go_enter Tryd.func94, Tryd.ntmps94
            go_wp2
            go_ret
            exact ⟨rfl, rfl⟩
          · have e : szI v = 3 := by rw [szI, if_neg (by omega), if_neg d1, if_neg d2, if_pos (by omega)]
            rw [e]
            go_enter Tryd.func94, Tryd.ntmps94
            go_wp2
            go_ret
            exact ⟨rfl, rfl⟩
      · by_cases c4 : v ≤ 57343
        · have e : szI v = 0 := by rw [szI, if_pos (by omega)]
          rw [e]
          go_enter Tryd.func94, Tryd.ntmps94
          go_wp2
          go_ret
          exact ⟨rfl, rfl⟩
        · by_cases d3 : v < 65536
          · have e : szI v = 3 := by rw [szI, if_neg (by omega), if_neg (by omega), if_neg (by omega), if_pos d3]
            rw [e]
            go_enter Tryd.func94, Tryd.ntmps94
            go_wp2
            go_ret
            exact ⟨rfl, rfl⟩
          · have e : szI v = 4 := by rw [szI, if_neg (by omega), if_neg (by omega), if_neg (by omega), if_neg d3]
            rw [e]
            go_enter Tryd.func94, Tryd.ntmps94
            go_wp2
            go_ret
            exact ⟨rfl, rfl⟩

theorem szI_bd (v : Int) : 0 ≤ szI v ∧ szI v ≤ 4 := by
  unfold szI; split; · omega
  split; · omega
  split; · omega
  split <;> omega

set_option maxRecDepth 20000 in
set_option maxHeartbeats 2000000 in
theorem next_any (s : ByteArray) (at' : Nat) (w : World) (hs : s.size ≤ maxLen) (hat : at' < s.size) :
    Calls Tryd.prog 90 #[.string s, .int .i64 (at' : Int)] w fun e w' => e = .returned (.tuple #[.int .i64 (nx s at').1, .int .i64 (nx s at').2]) ∧ w = w' := by
  unfold maxLen at hs
  have hb := get_bt s
  have hf := first_any (bt s at') w (bt_nonneg s at') (bt_le s at')
  have hbd := fstB_bd (bt s at') (bt_nonneg s at') (bt_le s at')
  have HN : Hid (nx s at' = if (s.size : Int) - (at' : Int) < (fstB (bt s at')).2 then (0, 0)
    else match nxGo s at' ((fstB (bt s at')).2.toNat - 1) 1 (fstB (bt s at')).1 with
    | none => (0, 0)
    | some v => if szI v = (fstB (bt s at')).2 then (v, (fstB (bt s at')).2) else (0, 0)) := rfl
  generalize fstB (bt s at') = r at hf hbd HN
  obtain ⟨p, z⟩ := r
  simp only at hf hbd HN
  obtain ⟨p0, p1, z0, z1⟩ := hbd
  by_cases hcut : (s.size : Int) - (at' : Int) < z
  · have HR : Hid (nx s at' = (0, 0)) := by show _ = _; rw [HN.out, if_pos hcut]
    clear HN
    go_enter Tryd.func90, Tryd.ntmps90
    go_wp2_with (go_at_call 98; refine hf.mono ?_; rintro e w1 ⟨rfl, rfl⟩)
    go_ret2
    exact ⟨by rw [HR.out]; rfl, rfl⟩
  · have HM : Hid (nx s at' = match nxGo s at' (z.toNat - 1) 1 p with
      | none => (0, 0)
      | some v => if szI v = z then (v, z) else (0, 0)) := by show _ = _; rw [HN.out, if_neg hcut]
    clear HN
    obtain ⟨zn, rfl⟩ := Int.eq_ofNat_of_zero_le z0
    simp only [Int.toNat_natCast] at HM
    go_enter Tryd.func90, Tryd.ntmps90
    go_wp2_with (go_at_call 98; refine hf.mono ?_; rintro e w1 ⟨rfl, rfl⟩)
    clear hf
    go_loop [4, 5, 6] (fun t q i => ∃ (k : Nat) (v : Int), q = .int .i64 (zn : Int) ∧ 1 ≤ k ∧ (k ≤ zn ∨ k = 1) ∧ i = .int .i64 (k : Int) ∧ t = .int .i64 v ∧ 0 ≤ v ∧ (k ≤ 1 → v ≤ 127) ∧ (k ≤ 2 → v ≤ 8191) ∧ (k ≤ 3 → v ≤ 524287) ∧ Hid (nxGo s at' (zn - 1) 1 p = nxGo s at' (zn - k) k v)) (fun _ _ i => 4 - (intOf i).toNat)
    case atStart => exact ⟨1, p, rfl, by omega, by omega, rfl, rfl, p0, by omega, by omega, by omega, rfl⟩
    case round =>
      obtain ⟨k, v, rfl, hk, hkz, rfl, rfl, v0, v1, v2, v3, HG⟩ := hrel
      by_cases hlt : k < zn
      · have hv : v ≤ 524287 := by omega
        have hin : at' + k < s.size := by omega
        have c0 := bt_nonneg s (at' + k)
        have c1 := bt_le s (at' + k)
        have hand := u8_and63 (x := bt s (at' + k)) c0 (by omega)
        have ho := i64_or6 (x := v) (y := bt s (at' + k) % 64) v0 (by omega) (by omega) (by omega)
        have hf : zn - k = (zn - (k + 1)) + 1 := by omega
        rw [hf] at HG
        by_cases htail : bt s (at' + k) / 64 = 2
        · have HR : Hid (nxGo s at' (zn - 1) 1 p = nxGo s at' (zn - (k + 1)) (k + 1) (v * 64 + bt s (at' + k) % 64)) := by show _ = _; rw [HG.out, nxGo, if_pos htail]
          have HV : Hid ((k + 1 ≤ 1 → v * 64 + bt s (at' + k) % 64 ≤ 127) ∧ (k + 1 ≤ 2 → v * 64 + bt s (at' + k) % 64 ≤ 8191) ∧ (k + 1 ≤ 3 → v * 64 + bt s (at' + k) % 64 ≤ 524287)) := ⟨by omega, by omega, by omega⟩
          clear HG v1 v2 v3
          go_wp2
          go_round
          case rel => exact ⟨k + 1, _, rfl, by omega, by omega, by go_num, rfl, by omega, HV.out.1, HV.out.2.1, HV.out.2.2, HR⟩
          case measure => simp [intOf]; omega
        · have HR : Hid (nx s at' = (0, 0)) := by
            show _ = _
            rw [HM.out, HG.out, nxGo, if_neg htail]
          clear HG HM v1 v2 v3
          go_wp2
          go_ret2
          exact ⟨by rw [HR.out]; rfl, rfl⟩
      · have hz : zn - k = 0 := by omega
        rw [hz] at HG
        have HR : Hid (nx s at' = if szI v = (zn : Int) then (v, (zn : Int)) else (0, 0)) := by
          show _ = _
          rw [HM.out, HG.out]
          rfl
        clear HG HM v1 v2 v3
        have hsz := sizeOf_any v w
        have hsb := szI_bd v
        by_cases he : szI v = (zn : Int)
        · rw [if_pos he] at HR
          rw [he] at hsz
          clear he
          go_wp2_with (go_at_call 94; refine hsz.mono ?_; rintro e w1 ⟨rfl, rfl⟩)
          go_ret2
          exact ⟨by rw [HR.out]; rfl, rfl⟩
        · rw [if_neg he] at HR
          have he' : (szI v != (zn : Int)) = true := by simpa using he
          go_wp2_with (go_at_call 94; refine hsz.mono ?_; rintro e w1 ⟨rfl, rfl⟩)
          go_ret2
          exact ⟨by rw [HR.out]; rfl, rfl⟩
end Go.Proofs.YtjimolafoihnpaaDoor

/-
  A text, code point by code point; the contracts of Len, skip and Points.
-/
namespace Go.Proofs.YtjimolafoihnpaaDoor
open Go.ChangeShapes Go.WideShapes Go.ChangeAt Go.RowKit Go.PlainAid

theorem Tryd.info3 : (Tryd.prog.info? 3).map (fun i => (i.zero, i.size, i.bytes)) = some (some (.int .i64 0), 1, 8) := by kernel_rfl

/-- The place behind so many code points. -/
def pos (s : ByteArray) : Nat → Nat
  | 0 => 0
  | k + 1 => pos s k + (nx s (pos s k)).2.toNat
/-- Code point number k. -/
def pt (s : ByteArray) (k : Nat) : Int := (nx s (pos s k)).1
/-- The first k code points. -/
def ptL (s : ByteArray) (k : Nat) : List Int := (List.range k).map (pt s)
/-- There are k code points at the beginning. -/
def Ok (s : ByteArray) (k : Nat) : Prop := ∀ j, j < k → pos s j < s.size ∧ (nx s (pos s j)).2 ≠ 0
/-- The text is n code points. -/
def Valid (s : ByteArray) (n : Nat) : Prop := Ok s n ∧ pos s n = s.size
/-- Behind k code points there is none, but something. -/
def Bad (s : ByteArray) (k : Nat) : Prop := Ok s k ∧ pos s k < s.size ∧ (nx s (pos s k)).2 = 0

theorem nx_bd (s : ByteArray) (a : Nat) (h : (nx s a).2 ≠ 0) : 1 ≤ (nx s a).2 ∧ (nx s a).2 ≤ 4 ∧ (a : Int) + (nx s a).2 ≤ s.size ∧ szI (nx s a).1 = (nx s a).2 := by
  have hb := fstB_bd (bt s a) (bt_nonneg s a) (bt_le s a)
  unfold nx at h ⊢
  split at h
  · simp at h
  · rename_i h1
    rw [if_neg h1]
    split at h
    · simp at h
    · rename_i v hv
      split at h
      · rename_i h2
        rw [if_pos h2]
        simp only at h ⊢
        omega
      · simp at h

theorem nx_zero (s : ByteArray) (a : Nat) : 0 ≤ (nx s a).2 := by
  by_cases h : (nx s a).2 = 0
  · omega
  · have := nx_bd s a h; omega

theorem pos_succ {s : ByteArray} {k : Nat} (h : (nx s (pos s k)).2 ≠ 0) : ((pos s (k + 1) : Nat) : Int) = (pos s k : Int) + (nx s (pos s k)).2 := by
  have := nx_bd s _ h
  rw [pos]; omega

theorem pos_le {s : ByteArray} {n : Nat} (h : Ok s n) : ∀ k, k ≤ n → k ≤ pos s k ∧ pos s k ≤ s.size
  | 0, _ => by simp [pos]
  | k + 1, hk => by
    have ih := pos_le h k (by omega)
    have h1 := (h k (by omega)).2
    have h2 := nx_bd s _ h1
    have h3 := pos_succ h1
    omega

theorem ok_mono {s : ByteArray} {n k : Nat} (h : Ok s n) (hk : k ≤ n) : Ok s k := fun j hj => h j (by omega)

theorem valid_lt {s : ByteArray} {n k : Nat} (h : Valid s n) (hk : k < n) : pos s k < s.size := (h.1 k hk).1

theorem valid_or_bad (s : ByteArray) : (∃ n, Valid s n) ∨ ∃ k, Bad s k := by
  have step : ∀ f k, Ok s k → s.size - pos s k ≤ f → (∃ n, Valid s n) ∨ ∃ k, Bad s k := by
    intro f
    induction f with
    | zero =>
      intro k hk hf
      have := pos_le hk k (Nat.le_refl _)
      exact .inl ⟨k, hk, by omega⟩
    | succ f ih =>
      intro k hk hf
      have hp := pos_le hk k (Nat.le_refl _)
      by_cases h1 : pos s k = s.size
      · exact .inl ⟨k, hk, h1⟩
      · by_cases h2 : (nx s (pos s k)).2 = 0
        · exact .inr ⟨k, hk, by omega, h2⟩
        · have h3 := nx_bd s _ h2
          have h4 := pos_succ h2
          refine ih (k + 1) (fun j hj => ?_) (by omega)
          by_cases e : j = k
          · subst e; exact ⟨by omega, h2⟩
          · exact hk j (by omega)
  exact step s.size 0 (fun j hj => by omega) (by simp [pos])

theorem not_both {s : ByteArray} {n k : Nat} (h : Valid s n) (hb : Bad s k) : False := by
  rcases Nat.lt_trichotomy k n with h1 | h1 | h1
  · exact (h.1 k h1).2 hb.2.2
  · subst h1; have := h.2; have := hb.2.1; omega
  · have := (hb.1 n h1).1; have := h.2; omega

set_option maxRecDepth 20000 in
set_option maxHeartbeats 1000000 in
theorem len_ok (s : ByteArray) (n : Nat) (w : World) (hs : s.size ≤ maxLen) (hv : Valid s n) :
    Calls Tryd.prog 74 #[.string s] w fun e w' => e = .returned (.int .i64 (n : Int)) ∧ w = w' := by
  have hs' := hs
  unfold maxLen at hs
  have hnp := pos_le hv.1 n (Nat.le_refl _)
  go_enter Tryd.func74, Tryd.ntmps74
  go_wp2
  go_loop [3, 4] (fun c t => ∃ k : Nat, k ≤ n ∧ c = .int .i64 (k : Int) ∧ t = .int .i64 (pos s k : Int)) (fun c _ => n - (intOf c).toNat)
  case atStart => exact ⟨0, by omega, rfl, rfl⟩
  case round =>
    obtain ⟨k, hk, rfl, rfl⟩ := hrel
    by_cases hlt : k < n
    · have h1 := hv.1 k hlt
      have h2 := nx_bd s _ h1.2
      have HP : Hid (((pos s (k + 1) : Nat) : Int) = (pos s k : Int) + (nx s (pos s k)).2) := pos_succ h1.2
      have hc := next_any s (pos s k) w hs' h1.1
      have hlt2 := h1.1
      have hne : ((nx s (pos s k)).2 == 0) = false := by simpa using h1.2
      clear h1
      generalize pos s k = a at *
      generalize nx s a = r at *
      obtain ⟨r1, r2⟩ := r
      simp only at hc h2 HP hne
      go_wp2_with (go_at_call 90; refine hc.mono ?_; rintro e w1 ⟨rfl, rfl⟩)
      go_round
      case rel => exact ⟨k + 1, by omega, by go_num, by rw [HP.out]⟩
      case measure => simp [intOf]; omega
    · have e : k = n := by omega
      subst e
      have e2 : ¬ (pos s k : Int) < (s.size : Int) := by rw [hv.2]; omega
      go_wp2
      go_ret
      exact ⟨rfl, rfl⟩

set_option maxRecDepth 20000 in
set_option maxHeartbeats 1000000 in
theorem len_bad (s : ByteArray) (n : Nat) (w : World) (hs : s.size ≤ maxLen) (hv : Bad s n) :
    Calls Tryd.prog 74 #[.string s] w fun e w' => e = .returned (.int .i64 (-1)) ∧ w = w' := by
  have hs' := hs
  unfold maxLen at hs
  have hnp := pos_le hv.1 n (Nat.le_refl _)
  go_enter Tryd.func74, Tryd.ntmps74
  go_wp2
  go_loop [3, 4] (fun c t => ∃ k : Nat, k ≤ n ∧ c = .int .i64 (k : Int) ∧ t = .int .i64 (pos s k : Int)) (fun c _ => n + 1 - (intOf c).toNat)
  case atStart => exact ⟨0, by omega, rfl, rfl⟩
  case round =>
    obtain ⟨k, hk, rfl, rfl⟩ := hrel
    by_cases hlt : k < n
    · have h1 := hv.1 k hlt
      have h2 := nx_bd s _ h1.2
      have HP : Hid (((pos s (k + 1) : Nat) : Int) = (pos s k : Int) + (nx s (pos s k)).2) := pos_succ h1.2
      have hc := next_any s (pos s k) w hs' h1.1
      have hlt2 := h1.1
      have hne : ((nx s (pos s k)).2 == 0) = false := by simpa using h1.2
      clear h1
      generalize pos s k = a at *
      generalize nx s a = r at *
      obtain ⟨r1, r2⟩ := r
      simp only at hc h2 HP hne
      go_wp2_with (go_at_call 90; refine hc.mono ?_; rintro e w1 ⟨rfl, rfl⟩)
      go_round
      case rel => exact ⟨k + 1, by omega, by go_num, by rw [HP.out]⟩
      case measure => simp [intOf]; omega
    · have e : k = n := by omega
      subst e
      obtain ⟨_, hlt2, hz⟩ := hv
      have hc := next_any s (pos s k) w hs' hlt2
      rw [hz] at hc
      go_wp2_with (go_at_call 90; refine hc.mono ?_; rintro e w1 ⟨rfl, rfl⟩)
      go_ret
      exact ⟨rfl, rfl⟩

/-- Numbers as the cells of a row. -/
def iv (l : List Int) : List Value := l.map (Value.int .i64)
theorem iv_length (l : List Int) : (iv l).length = l.length := by simp [iv]
theorem iv_append (a b : List Int) : iv (a ++ b) = iv a ++ iv b := by simp [iv]
theorem ptL_length (s : ByteArray) (k : Nat) : (ptL s k).length = k := by simp [ptL]
theorem ptL_succ (s : ByteArray) (k : Nat) : ptL s (k + 1) = ptL s k ++ [pt s k] := by simp [ptL, List.range_succ]

theorem own_snocI {w1 : World} {base e n : Nat} {v' : Value} {L : List Int} {x : Int} (h : w1.ownsRow base e 1 v' (n + 1) (iv L ++ [.int .i64 x])) :
    w1.ownsRow base e 1 v' (n + 1) (iv (L ++ [x])) := by
  rw [iv_append]
  simpa [iv] using h

theorem points_bad (s : ByteArray) (n : Nat) (w : World) (hs : s.size ≤ maxLen) (hv : Bad s n) :
    Calls Tryd.prog 81 #[.string s] w fun e w' => e = .returned (.tuple #[.slice none 0 0, .bool false]) ∧ w = w' := by
  have hc := len_bad s n w hs hv
  go_enter Tryd.func81, Tryd.ntmps81
  go_wp2_with (go_at_call 74; refine hc.mono ?_; rintro e w1 ⟨rfl, rfl⟩)
  go_ret2
  exact ⟨rfl, rfl⟩

set_option maxRecDepth 20000 in
set_option maxHeartbeats 2000000 in
theorem points_ok (s : ByteArray) (n : Nat) (w : World) (hs : s.size ≤ 8796093022208) (hv : Valid s n) :
    Calls Tryd.prog 81 #[.string s] w fun e w' => ∃ v, e = .returned (.tuple #[v, .bool true]) ∧ w'.ownsRow w.heap.size 3 1 v n (iv (ptL s n)) ∧ Below w.heap.size w w' := by
  have hs' : s.size ≤ maxLen := by unfold maxLen; omega
  have hnp := pos_le hv.1 n (Nat.le_refl _)
  obtain ⟨i0, hi, hz0, hz1, hz2⟩ := info_parts Tryd.info3
  have hcl := len_ok s n w hs' hv
  go_enter Tryd.func81, Tryd.ntmps81
  go_wp2_with (first | (go_at_call 74; refine hcl.mono ?_; rintro e w1 ⟨rfl, rfl⟩) | (refine wpList_make_own _ rfl _ (.tmp 13) 68 rfl w.heap.size 3 i0 (.int .i64 0) 1 Tryd.underlying68 hi hz0 hz1 .i64 .i64 (n : Int) n rfl rfl rfl (by rw [hz2]; omega) (by unfold maxLen; omega) (Nat.le_refl _) ?_; intro w2 ho2 hg2))
  have hb2 : Below w.heap.size w w2 := ⟨hg2.os, hg2.tape, hg2.output, hg2.size, fun k hk => hg2.block k hk (by simp)⟩
  clear hcl hg2
  go_loopw [5, 6] (fun v t wr => ∃ k : Nat, k ≤ n ∧ t = .int .i64 (pos s k : Int) ∧ wr.ownsRow w.heap.size 3 1 v k (iv (ptL s k)) ∧ Below w.heap.size w wr) (fun _ t _ => s.size - (intOf t).toNat)
  case atStart => exact ⟨0, by omega, rfl, ho2, hb2⟩
  case round =>
    obtain ⟨k, hk, rfl, hown, hbl⟩ := hrel
    have hsz := hbl.size
    by_cases hlt : k < n
    · have h1 := hv.1 k hlt
      have h2 := nx_bd s _ h1.2
      have HP : Hid (((pos s (k + 1) : Nat) : Int) = (pos s k : Int) + (nx s (pos s k)).2 ∧ ptL s (k + 1) = ptL s k ++ [(nx s (pos s k)).1]) := ⟨pos_succ h1.2, ptL_succ s k⟩
      have hc := next_any s (pos s k) wr hs' h1.1
      have hlt2 := h1.1
      clear h1 ho2
      generalize pos s k = a at *
      generalize nx s a = r at *
      obtain ⟨r1, r2⟩ := r
      simp only at hc h2 HP
      go_wp2_with (first | (go_at_call 90; refine hc.mono ?_; rintro e w1 ⟨rfl, rfl⟩) | (at_builtin; refine wpList_append_own _ rfl (.tmp 25) (.tmp 27) 68 rfl w.heap.size 3 i0 (.int .i64 0) 1 8 Tryd.underlying68 hi hz0 hz1 hz2 rfl (by decide) _ _ _ rfl (hown.alloc _) ⟨_, 0, none⟩ 1 1 [.int .i64 r1] rfl rfl (one_new _ _ _) (one_one _ rfl) (by unfold maxLen; omega) (by omega) (by simp; omega) ?_; intro v' w3 ho3 hg3 hnil3))
      have R1 := own_snocI ho3
      have R2 := below_app (Nat.le_refl _) hbl hown hg3
      rw [← HP.out.2] at R1
      clear ho3 hg3 hown hnil3 hc
      go_roundw
      case rel => exact ⟨k + 1, by omega, by rw [HP.out.1], R1, R2⟩
      case measure => simp [intOf]; omega
    · have e : k = n := by omega
      subst e
      have e2 : ¬ (pos s k : Int) < (s.size : Int) := by rw [hv.2]; omega
      clear ho2
      go_wp2
      go_ret2
      exact ⟨_, rfl, hown, hbl⟩
end Go.Proofs.YtjimolafoihnpaaDoor

/-
  The bytes of code points; the contracts of appendPoint and Text.
-/
namespace Go.Proofs.YtjimolafoihnpaaDoor
open Go.ChangeShapes Go.WideShapes Go.ChangeAt Go.RowKit Go.PlainAid

theorem Tryd.info5 : (Tryd.prog.info? 5).map (fun i => (i.zero, i.size, i.bytes)) = some (some (.int .u8 0), 1, 1) := by kernel_rfl

/-- The bytes of a code point. -/
def ptB (n : Nat) : List UInt8 :=
  if n < 128 then [UInt8.ofNat n]
  else if n < 2048 then [UInt8.ofNat (192 + n / 64), UInt8.ofNat (128 + n % 64)]
  else if n < 65536 then [UInt8.ofNat (224 + n / 4096), UInt8.ofNat (128 + n / 64 % 64), UInt8.ofNat (128 + n % 64)]
  else [UInt8.ofNat (240 + n / 262144), UInt8.ofNat (128 + n / 4096 % 64), UInt8.ofNat (128 + n / 64 % 64), UInt8.ofNat (128 + n % 64)]

theorem ptB1 {n : Nat} (h : n < 128) : ptB n = [UInt8.ofNat n] := by rw [ptB, if_pos h]
theorem ptB2 {n : Nat} (h1 : 128 ≤ n) (h : n < 2048) : ptB n = [UInt8.ofNat (192 + n / 64), UInt8.ofNat (128 + n % 64)] := by rw [ptB, if_neg (by omega), if_pos h]
theorem ptB3 {n : Nat} (h1 : 2048 ≤ n) (h : n < 65536) : ptB n = [UInt8.ofNat (224 + n / 4096), UInt8.ofNat (128 + n / 64 % 64), UInt8.ofNat (128 + n % 64)] := by rw [ptB, if_neg (by omega), if_neg (by omega), if_pos h]
theorem ptB4 {n : Nat} (h1 : 65536 ≤ n) : ptB n = [UInt8.ofNat (240 + n / 262144), UInt8.ofNat (128 + n / 4096 % 64), UInt8.ofNat (128 + n / 64 % 64), UInt8.ofNat (128 + n % 64)] := by rw [ptB, if_neg (by omega), if_neg (by omega), if_neg (by omega)]

theorem ptB_len (n : Nat) : 1 ≤ (ptB n).length ∧ (ptB n).length ≤ 4 := by
  unfold ptB; split; · simp
  split; · simp
  split <;> simp

theorem bv_one {x : Nat} {y : Int} (h : x < 256) (e : (x : Int) = y) : Value.int .u8 ((UInt8.ofNat x).toNat : Int) = .int .u8 y := by rw [byte_nat x h, e]

theorem many_new (wr : World) (l : List Value) (e : Nat) : ∀ j u, l[j]? = some u → (wr.alloc (.cells l.toArray e)).cell? ((⟨wr.heap.size, 0, none⟩ : Addr).add j) = some u := by
  intro j u hj
  have hadd : (⟨wr.heap.size, 0, none⟩ : Addr).add j = ⟨wr.heap.size, j, none⟩ := by unfold Addr.add; split <;> simp_all
  rw [hadd, cell_of_row _ _ j l.toArray e (0, 0) (heap_alloc_new wr _)]
  simpa using hj

theorem many_one (l : List Int) : ∀ u ∈ l.map (Value.int .u8), u.oneCell' = true := by
  intro u hu
  simp only [List.mem_map] at hu
  obtain ⟨x, _, rfl⟩ := hu
  rfl

theorem own_more {w1 : World} {base e n m : Nat} {v' : Value} {L M : List UInt8} {xs : List Value} (h : w1.ownsRow base e 1 v' (n + m) (bv L ++ xs)) (hn : L.length = n) (hm : M.length = m) (hx : bv M = xs) :
    w1.ownsRow base e 1 v' (L ++ M).length (bv (L ++ M)) := by
  subst hx; subst hn; subst hm
  rw [bv_append, List.length_append]
  exact h

set_option maxRecDepth 20000 in
set_option maxHeartbeats 2000000 in
theorem appendPoint_any (base : Nat) (v : Value) (l : List UInt8) (n : Nat) (w : World) (hb : base ≤ w.heap.size) (hok : szI (n : Int) ≠ 0) (hl : l.length ≤ 70368744177664) (hown : w.ownsRow base 5 1 v l.length (bv l)) :
    Calls Tryd.prog 95 #[v, .int .i64 (n : Int)] w fun e w' => ∃ v', e = .returned v' ∧ w'.ownsRow base 5 1 v' (l ++ ptB n).length (bv (l ++ ptB n)) ∧ Below base w w' := by
  obtain ⟨i0, hi, hz0, hz1, hz2⟩ := info_parts Tryd.info5
  have hr : ¬ ((n : Int) < 0 ∨ 1114111 < (n : Int) ∨ (55296 ≤ (n : Int) ∧ (n : Int) ≤ 57343)) := fun h => hok (by rw [szI, if_pos h])
  have hsz := sizeOf_any (n : Int)
  have a0 := u8_and63 (x := (n : Int) % 256) (by omega) (by omega)
  have a1 := u8_and63 (x := (n : Int) / 64 % 256) (by omega) (by omega)
  have a2 := u8_and63 (x := (n : Int) / 4096 % 256) (by omega) (by omega)
  rw [show (n : Int) % 256 % 64 = (n : Int) % 64 by omega] at a0
  rw [show (n : Int) / 64 % 256 % 64 = (n : Int) / 64 % 64 by omega] at a1
  rw [show (n : Int) / 4096 % 256 % 64 = (n : Int) / 4096 % 64 by omega] at a2
  have o0 := u8_or128 (y := (n : Int) % 64) (by omega) (by omega)
  have o1 := u8_or128 (y := (n : Int) / 64 % 64) (by omega) (by omega)
  have o2 := u8_or128 (y := (n : Int) / 4096 % 64) (by omega) (by omega)
  by_cases c1 : (n : Int) < 128
  · have e : szI (n : Int) = 1 := by rw [szI, if_neg hr, if_pos c1]
    rw [e] at hsz
    clear e hok
    go_enter Tryd.func95, Tryd.ntmps95
    go_wp2_with (first | (go_at_call 94; refine (hsz _).mono ?_; rintro e w1 ⟨rfl, rfl⟩) | (at_builtin; refine wpList_append_own _ rfl (.tmp 9) (.tmp 12) 155 rfl base 5 i0 (.int .u8 0) 1 1 Tryd.underlying155 hi hz0 hz1 hz2 rfl (by decide) _ _ _ rfl (hown.alloc _) ⟨_, 0, none⟩ 1 1 [.int .u8 (n : Int)] rfl rfl (one_new _ _ _) (one_one _ rfl) (by unfold maxLen; omega) (by omega) (by simp; omega) ?_; intro v' w3 ho3 hg3 hnil3) | go_in)
    have R2 := below_app hb (Below.refl _ _) hown hg3
    go_ret
    exact ⟨_, rfl, own_more ho3 rfl (by rw [ptB1 (by omega)]; rfl) (by rw [ptB1 (by omega)]; simp only [bv, List.map_cons, List.map_nil]; rw [bv_one (by omega) rfl]), R2⟩
  · by_cases c2 : (n : Int) < 2048
    · have e : szI (n : Int) = 2 := by rw [szI, if_neg hr, if_neg c1, if_pos c2]
      rw [e] at hsz
      have q0 := u8_or192 (y := (n : Int) / 64) (by omega) (by omega)
      clear e hok
      go_enter Tryd.func95, Tryd.ntmps95
      go_wp2_with (first | (go_at_call 94; refine (hsz _).mono ?_; rintro e w1 ⟨rfl, rfl⟩) | (at_builtin; refine wpList_append_own _ rfl (.tmp 16) (.tmp 23) 155 rfl base 5 i0 (.int .u8 0) 1 1 Tryd.underlying155 hi hz0 hz1 hz2 rfl (by decide) _ _ _ rfl (hown.alloc _) ⟨_, 0, none⟩ 2 2 [.int .u8 (192 + (n : Int) / 64), .int .u8 (128 + (n : Int) % 64)] rfl rfl (many_new _ _ _) (many_one [_, _]) (by unfold maxLen; omega) (by omega) (by simp; omega) ?_; intro v' w3 ho3 hg3 hnil3) | go_in)
      have R2 := below_app hb (Below.refl _ _) hown hg3
      go_ret
      exact ⟨_, rfl, own_more ho3 rfl (by rw [ptB2 (by omega) (by omega)]; rfl) (by rw [ptB2 (by omega) (by omega)]; simp only [bv, List.map_cons, List.map_nil]; rw [bv_one (y := 192 + (n : Int) / 64) (by omega) (by omega), bv_one (y := 128 + (n : Int) % 64) (by omega) (by omega)]), R2⟩
    · by_cases c3 : (n : Int) < 65536
      · have e : szI (n : Int) = 3 := by rw [szI, if_neg hr, if_neg c1, if_neg c2, if_pos c3]
        rw [e] at hsz
        have q0 := u8_or224 (y := (n : Int) / 4096) (by omega) (by omega)
        clear e hok
        go_enter Tryd.func95, Tryd.ntmps95
        go_wp2_with (first | (go_at_call 94; refine (hsz _).mono ?_; rintro e w1 ⟨rfl, rfl⟩) | (at_builtin; refine wpList_append_own _ rfl (.tmp 27) (.tmp 36) 155 rfl base 5 i0 (.int .u8 0) 1 1 Tryd.underlying155 hi hz0 hz1 hz2 rfl (by decide) _ _ _ rfl (hown.alloc _) ⟨_, 0, none⟩ 3 3 [.int .u8 (224 + (n : Int) / 4096), .int .u8 (128 + (n : Int) / 64 % 64), .int .u8 (128 + (n : Int) % 64)] rfl rfl (many_new _ _ _) (many_one [_, _, _]) (by unfold maxLen; omega) (by omega) (by simp; omega) ?_; intro v' w3 ho3 hg3 hnil3) | go_in)
        have R2 := below_app hb (Below.refl _ _) hown hg3
        go_ret
        exact ⟨_, rfl, own_more ho3 rfl (by rw [ptB3 (by omega) (by omega)]; rfl) (by rw [ptB3 (by omega) (by omega)]; simp only [bv, List.map_cons, List.map_nil]; rw [bv_one (y := 224 + (n : Int) / 4096) (by omega) (by omega), bv_one (y := 128 + (n : Int) / 64 % 64) (by omega) (by omega), bv_one (y := 128 + (n : Int) % 64) (by omega) (by omega)]), R2⟩
      · have e : szI (n : Int) = 4 := by rw [szI, if_neg hr, if_neg c1, if_neg c2, if_neg c3]
        rw [e] at hsz
        have q0 := u8_or240 (y := (n : Int) / 262144) (by omega) (by omega)
        clear e hok
        go_enter Tryd.func95, Tryd.ntmps95
        go_wp2_with (first | (go_at_call 94; refine (hsz _).mono ?_; rintro e w1 ⟨rfl, rfl⟩) | (at_builtin; refine wpList_append_own _ rfl (.tmp 40) (.tmp 51) 155 rfl base 5 i0 (.int .u8 0) 1 1 Tryd.underlying155 hi hz0 hz1 hz2 rfl (by decide) _ _ _ rfl (hown.alloc _) ⟨_, 0, none⟩ 4 4 [.int .u8 (240 + (n : Int) / 262144), .int .u8 (128 + (n : Int) / 4096 % 64), .int .u8 (128 + (n : Int) / 64 % 64), .int .u8 (128 + (n : Int) % 64)] rfl rfl (many_new _ _ _) (many_one [_, _, _, _]) (by unfold maxLen; omega) (by omega) (by simp; omega) ?_; intro v' w3 ho3 hg3 hnil3) | go_in)
        have R2 := below_app hb (Below.refl _ _) hown hg3
        go_ret
        exact ⟨_, rfl, own_more ho3 rfl (by rw [ptB4 (by omega)]; rfl) (by rw [ptB4 (by omega)]; simp only [bv, List.map_cons, List.map_nil]; rw [bv_one (y := 240 + (n : Int) / 262144) (by omega) (by omega), bv_one (y := 128 + (n : Int) / 4096 % 64) (by omega) (by omega), bv_one (y := 128 + (n : Int) / 64 % 64) (by omega) (by omega), bv_one (y := 128 + (n : Int) % 64) (by omega) (by omega)]), R2⟩
end Go.Proofs.YtjimolafoihnpaaDoor

/-
  The contracts of text.Text and the reference's point, bytes and Text.
-/
namespace Go.Proofs.YtjimolafoihnpaaDoor
open Go.ChangeShapes Go.WideShapes Go.ChangeAt Go.RowKit Go.PlainAid

/-- The slice v reads as these numbers. -/
def ReadsI (w : World) (v : Value) (zs : List Int) : Prop :=
  (zs = [] ∧ ∃ ao cp, v = .slice ao 0 cp) ∨ ∃ b off cp, v = .slice (some ⟨b, off, none⟩) zs.length cp ∧ ∀ i, i < zs.length → w.cell? ⟨b, off + i, none⟩ = some (.int .i64 (zs.getD i 0))

theorem readsI_below {w w' : World} {v : Value} {zs : List Int} (h : ReadsI w v zs) (hb : Below w.heap.size w w') : ReadsI w' v zs := by
  rcases h with h | ⟨b, off, cp, rfl, h⟩
  · exact .inl h
  · exact .inr ⟨b, off, cp, rfl, fun i hi => (hb.cell (World.block_lt_of_cell? w _ (h i hi))).trans (h i hi)⟩

theorem readsI_own {w : World} {base : Nat} {v : Value} {zs : List Int} (h : w.ownsRow base 3 1 v zs.length (iv zs)) : ReadsI w v zs := by
  rcases h.2 with ⟨rfl, h0⟩ | ⟨g, cap, cur, rfl, _⟩
  · exact .inl ⟨List.eq_nil_of_length_eq_zero h0, _, _, rfl⟩
  · refine .inr ⟨g, 0, cap, rfl, fun i hi => ?_⟩
    have := h.cells (g := g) rfl i (.int .i64 (zs.getD i 0)) (by simp [iv, hi])
    have hadd : (⟨g, 0, none⟩ : Addr).add i = ⟨g, 0 + i, none⟩ := by unfold Addr.add; split <;> simp_all
    rw [hadd] at this
    exact this

theorem readsI_at {w : World} {v : Value} {zs : List Int} (h : ReadsI w v zs) : ∃ ao cp, v = .slice ao zs.length cp ∧ (0 < zs.length → ∃ b off, ao = some ⟨b, off, none⟩ ∧ ∀ i, i < zs.length → w.cell? ⟨b, off + i, none⟩ = some (.int .i64 (zs.getD i 0))) := by
  rcases h with ⟨rfl, ao, cp, rfl⟩ | ⟨b, off, cp, rfl, h⟩
  · exact ⟨ao, cp, rfl, fun h => by simp at h⟩
  · exact ⟨_, cp, rfl, fun _ => ⟨b, off, rfl, h⟩⟩

/-- The bytes of numbers. -/
def enc (zs : List Int) : List UInt8 := (zs.map (fun z => ptB z.toNat)).flatten
theorem enc_nil : enc [] = [] := rfl
theorem enc_append (a b : List Int) : enc (a ++ b) = enc a ++ enc b := by simp [enc]
theorem enc_one (z : Int) : enc [z] = ptB z.toNat := by simp [enc]
theorem enc_len (zs : List Int) : (enc zs).length ≤ 4 * zs.length := by
  induction zs with
  | nil => simp [enc]
  | cons z zs ih =>
    have h := ptB_len z.toNat
    have e : enc (z :: zs) = ptB z.toNat ++ enc zs := by simp [enc]
    rw [e, List.length_append, List.length_cons]
    omega
theorem take_snocI (zs : List Int) (k : Nat) (h : k < zs.length) : zs.take (k + 1) = zs.take k ++ [zs.getD k 0] := by
  rw [List.take_succ_eq_append_getElem h]; simp [h]
theorem enc_succ (zs : List Int) (k : Nat) (h : k < zs.length) : enc (zs.take (k + 1)) = enc (zs.take k) ++ ptB (zs.getD k 0).toNat := by
  rw [take_snocI zs k h, enc_append, enc_one]
theorem enc_take_len (zs : List Int) (k : Nat) : (enc (zs.take k)).length ≤ 4 * zs.length := by
  have h1 := enc_len (zs.take k)
  have h2 : (zs.take k).length ≤ zs.length := List.length_take_le' ..
  omega

/-- What making a text of numbers gives. -/
def textR (zs : List Int) : ByteArray × Bool := if ∀ z ∈ zs, szI z ≠ 0 then (mk (enc zs), true) else (⟨#[]⟩, false)

theorem szI_nonneg {z : Int} (h : szI z ≠ 0) : 0 ≤ z ∧ z ≤ 1114111 ∧ ¬ (55296 ≤ z ∧ z ≤ 57343) := by
  by_cases hc : z < 0 ∨ 1114111 < z ∨ (55296 ≤ z ∧ z ≤ 57343)
  · exact absurd (by rw [szI, if_pos hc]) h
  · omega

set_option maxRecDepth 20000 in
set_option maxHeartbeats 2000000 in
theorem text_any (v : Value) (zs : List Int) (w : World) (hm : zs.length ≤ 17592186044416) (hr : ReadsI w v zs) :
    Calls Tryd.prog 82 #[v] w fun e w' => e = .returned (.tuple #[.string (textR zs).1, .bool (textR zs).2]) ∧ Below w.heap.size w w' := by
  obtain ⟨i0, hi, hz0, hz1, hz2⟩ := info_parts Tryd.info5
  obtain ⟨ao, cp, rfl, hao⟩ := readsI_at hr
  clear hr
  go_enter Tryd.func82, Tryd.ntmps82
  go_wp2_with (refine wpList_make_own _ rfl _ (.tmp 8) 155 rfl w.heap.size 5 i0 (.int .u8 0) 1 Tryd.underlying155 hi hz0 hz1 .i64 .i64 (zs.length : Int) zs.length rfl rfl rfl (by rw [hz2]; omega) (by unfold maxLen; omega) (Nat.le_refl _) ?_; intro w2 ho2 hg2)
  have hb2 : Below w.heap.size w w2 := ⟨hg2.os, hg2.tape, hg2.output, hg2.size, fun k hk => hg2.block k hk (by simp)⟩
  clear hg2
  go_loopw [4, 12] (fun t i wr => ∃ k : Nat, k ≤ zs.length ∧ i = .int .i64 (k : Int) ∧ wr.ownsRow w.heap.size 5 1 t (enc (zs.take k)).length (bv (enc (zs.take k))) ∧ Below w.heap.size w wr ∧ Hid (∀ j, j < k → szI (zs.getD j 0) ≠ 0)) (fun _ i _ => zs.length - (intOf i).toNat)
  case atStart => exact ⟨0, by omega, rfl, ho2, hb2, fun j hj => by omega⟩
  case round =>
    obtain ⟨k, hk, rfl, hown, hbl, hall⟩ := hrel
    clear ho2
    by_cases hlt : k < zs.length
    · obtain ⟨b, off, rfl, hcell⟩ := hao (by omega)
      have g1 := hcell k hlt
      have c1 := (hbl.cell (World.block_lt_of_cell? w _ g1)).trans g1
      have HX : Hid (zs.getD k 0 ∈ zs) := by
        show _ ∈ _
        simp [hlt]
      have HK : Hid (∀ j, j < k + 1 → szI (zs.getD k 0) ≠ 0 → szI (zs.getD j 0) ≠ 0) := fun j hj hx => by
        by_cases e : j = k
        · subst e; exact hx
        · exact hall.out j (by omega)
      have HP : Hid (enc (zs.take (k + 1)) = enc (zs.take k) ++ ptB (zs.getD k 0).toNat) := enc_succ zs k hlt
      have hel := enc_take_len zs k
      clear hcell g1 hao
      generalize zs.getD k 0 = z at c1 HX HK HP
      have hsz := sizeOf_any z
      by_cases hok : szI z = 0
      · have HR : Hid (textR zs = (⟨#[]⟩, false)) := by
          show _ = _
          rw [textR, if_neg (fun h => h z HX.out hok)]
        rw [hok] at hsz
        clear HK HX HP
        go_wp2_with (go_at_call 94; refine (hsz _).mono ?_; rintro e w1 ⟨rfl, rfl⟩)
        go_ret2
        exact ⟨by rw [HR.out]; rfl, hbl⟩
      · have hz := szI_nonneg hok
        have hne : (szI z == 0) = false := by simpa using hok
        obtain ⟨n, rfl⟩ := Int.eq_ofNat_of_zero_le hz.1
        have hc := appendPoint_any w.heap.size _ (enc (zs.take k)) n wr hbl.size hok (by omega) hown
        simp only [Int.toNat_natCast] at HP
        go_wp2_with (first | (go_at_call 94; refine (hsz _).mono ?_; rintro e w1 ⟨rfl, rfl⟩) | (go_at_call 95; refine hc.mono ?_; rintro e w3 ⟨v3, rfl, ho3, hb3⟩))
        rw [← HP.out] at ho3
        clear hc hown
        go_roundw
        case rel => exact ⟨k + 1, by omega, by go_num, ho3, hbl.trans hb3, fun j hj => HK.out j hj hok⟩
        case measure => simp [intOf]; omega
    · have hall' : ∀ z ∈ zs, szI z ≠ 0 := fun z hz => by
        obtain ⟨j, hj, rfl⟩ := List.getElem_of_mem hz
        have := hall.out j (by omega)
        simpa [hj] using this
      have HR : Hid (textR zs = (mk (enc zs), true)) := by
        show _ = _
        rw [textR, if_pos hall']
      have hq' : k = zs.length := by omega
      subst hq'
      rw [List.take_length] at hown
      have hc := conv_own (dst := 9) Tryd.underlying155 Tryd.underlying5 Tryd.underlying9 hown
      clear hall' hall hown hao
      go_wp2
      go_ret2
      exact ⟨by rw [HR.out]; rfl, hbl⟩

set_option maxRecDepth 20000 in
set_option maxHeartbeats 1000000 in
theorem refPoint_any (z : Int) (w : World) : Calls Tryd.prog 84 #[.int .i64 z] w fun e w' => e = .returned (.bool (decide (szI z ≠ 0))) ∧ w = w' := by
  by_cases c1 : z < 0
  · have e : decide (szI z ≠ 0) = false := by simp [szI, c1]
    rw [e]
    go_enter Tryd.func84, Tryd.ntmps84
    go_wp2
    go_ret
    exact ⟨rfl, rfl⟩
  · by_cases c2 : 1114111 < z
    · have e : decide (szI z ≠ 0) = false := by simp [szI, c2]
      rw [e]
      go_enter Tryd.func84, Tryd.ntmps84
      go_wp2
      go_ret
      exact ⟨rfl, rfl⟩
    · by_cases c3 : z < 55296
      · have e : decide (szI z ≠ 0) = true := by
          simp only [decide_eq_true_eq]
          rw [szI, if_neg (by omega)]
          split; · omega
          split; · omega
          split <;> omega
        rw [e]
        go_enter Tryd.func84, Tryd.ntmps84
        go_wp2
        go_ret
        exact ⟨rfl, rfl⟩
      · by_cases c4 : 57343 < z
        · have e : decide (szI z ≠ 0) = true := by
            simp only [decide_eq_true_eq]
            rw [szI, if_neg (by omega)]
            split; · omega
            split; · omega
            split <;> omega
          rw [e]
          go_enter Tryd.func84, Tryd.ntmps84
          go_wp2
          go_ret
          exact ⟨rfl, rfl⟩
        · have e : decide (szI z ≠ 0) = false := by
            have : szI z = 0 := by rw [szI, if_pos (by omega)]
            simp [this]
          rw [e]
          go_enter Tryd.func84, Tryd.ntmps84
          go_wp2
          go_ret
          exact ⟨rfl, rfl⟩

theorem conv_lit (F : List UInt8) (xs : List Value) (k : Nat) (hk : F.length = k) (hx : bv F = xs) (u : World) :
    (convert 155 9 (.slice (some ⟨u.heap.size, 0, none⟩) k k)).run Tryd.prog (u.alloc (.cells xs.toArray 5)) = .ok (.string (mk F)) (u.alloc (.cells xs.toArray 5)) := by
  subst hk
  exact run_convert_bytes_back _ 155 9 5 ⟨u.heap.size, 0, none⟩ F.length F Tryd.underlying155 Tryd.underlying5 Tryd.underlying9 (fun j hj => many_new u xs 5 j _ (by rw [← hx]; simp [bv, hj]))

set_option maxRecDepth 20000 in
set_option maxHeartbeats 1000000 in
theorem refBytes_any (n : Nat) (w : World) (hn : n ≤ 1114111) :
    Calls Tryd.prog 85 #[.int .i64 (n : Int)] w fun e w' => e = .returned (.string (mk (ptB n))) ∧ Below w.heap.size w w' := by
  have hn' : (n : Int) ≤ 1114111 := by omega
  by_cases c1 : (n : Int) < 128
  · have hc := conv_lit (ptB n) [.int .u8 (n : Int)] 1 (by rw [ptB1 (by omega)]; rfl) (by rw [ptB1 (by omega)]; simp only [bv, List.map_cons, List.map_nil]; rw [bv_one (by omega) rfl])
    generalize mk (ptB n) = F at hc
    go_enter Tryd.func85, Tryd.ntmps85
    go_wp2
    go_ret
    exact ⟨rfl, (Below.refl _ _).alloc (Nat.le_refl _) _⟩
  · by_cases c2 : (n : Int) < 2048
    · have hc := conv_lit (ptB n) [.int .u8 (192 + (n : Int) / 64), .int .u8 (128 + (n : Int) % 64)] 2 (by rw [ptB2 (by omega) (by omega)]; rfl) (by rw [ptB2 (by omega) (by omega)]; simp only [bv, List.map_cons, List.map_nil]; rw [bv_one (y := 192 + (n : Int) / 64) (by omega) (by omega), bv_one (y := 128 + (n : Int) % 64) (by omega) (by omega)])
      generalize mk (ptB n) = F at hc
      go_enter Tryd.func85, Tryd.ntmps85
      go_wp2
      go_ret
      exact ⟨rfl, (Below.refl _ _).alloc (Nat.le_refl _) _⟩
    · by_cases c3 : (n : Int) < 65536
      · have hc := conv_lit (ptB n) [.int .u8 (224 + (n : Int) / 4096), .int .u8 (128 + (n : Int) / 64 % 64), .int .u8 (128 + (n : Int) % 64)] 3 (by rw [ptB3 (by omega) (by omega)]; rfl) (by rw [ptB3 (by omega) (by omega)]; simp only [bv, List.map_cons, List.map_nil]; rw [bv_one (y := 224 + (n : Int) / 4096) (by omega) (by omega), bv_one (y := 128 + (n : Int) / 64 % 64) (by omega) (by omega), bv_one (y := 128 + (n : Int) % 64) (by omega) (by omega)])
        generalize mk (ptB n) = F at hc
        go_enter Tryd.func85, Tryd.ntmps85
        go_wp2
        go_ret
        exact ⟨rfl, (Below.refl _ _).alloc (Nat.le_refl _) _⟩
      · have hc := conv_lit (ptB n) [.int .u8 (240 + (n : Int) / 262144), .int .u8 (128 + (n : Int) / 4096 % 64), .int .u8 (128 + (n : Int) / 64 % 64), .int .u8 (128 + (n : Int) % 64)] 4 (by rw [ptB4 (by omega)]; rfl) (by rw [ptB4 (by omega)]; simp only [bv, List.map_cons, List.map_nil]; rw [bv_one (y := 240 + (n : Int) / 262144) (by omega) (by omega), bv_one (y := 128 + (n : Int) / 4096 % 64) (by omega) (by omega), bv_one (y := 128 + (n : Int) / 64 % 64) (by omega) (by omega), bv_one (y := 128 + (n : Int) % 64) (by omega) (by omega)])
        generalize mk (ptB n) = F at hc
        go_enter Tryd.func85, Tryd.ntmps85
        go_wp2
        go_ret
        exact ⟨rfl, (Below.refl _ _).alloc (Nat.le_refl _) _⟩

theorem own_text {w1 : World} {base e n : Nat} {v' : Value} {L M : List UInt8} (h : w1.ownsRow base e 1 v' (n + (mk M).size) (bv L ++ Lib.strCells (mk M))) (hn : L.length = n) :
    w1.ownsRow base e 1 v' (L ++ M).length (bv (L ++ M)) := by
  subst hn
  rw [bv_append, List.length_append]
  rw [mk_size] at h
  exact h

theorem below_grown {base : Nat} {w wr w1 : World} {e n : Nat} {v : Value} {xs : List Value} (hb : base ≤ w.heap.size) (hbl : Below base w wr) (hown : wr.ownsRow base e 1 v n xs) (hg : wr.grownBy w1 v.ownBlock) : Below base w w1 :=
  hbl.grown hg (Nat.le_trans hb hbl.size) (fun k hk => (hown.lt k hk).1)
theorem own_below {w w' : World} {base e n : Nat} {v : Value} {L : List Value} (h : w.ownsRow base e 1 v n L) (hb : Below w.heap.size w w') : w'.ownsRow base e 1 v n L :=
  h.kept (row := none) ⟨hb.os, hb.tape, hb.output, hb.size, fun k hk _ => hb.block k hk⟩ (by cases v.ownBlock <;> simp)

set_option maxRecDepth 20000 in
set_option maxHeartbeats 2000000 in
theorem refText_any (v : Value) (zs : List Int) (w : World) (hm : zs.length ≤ 17592186044416) (hr : ReadsI w v zs) :
    Calls Tryd.prog 57 #[v] w fun e w' => e = .returned (.tuple #[.string (textR zs).1, .bool (textR zs).2]) ∧ Below w.heap.size w w' := by
  obtain ⟨i0, hi, hz0, hz1, hz2⟩ := info_parts Tryd.info5
  obtain ⟨ao, cp, rfl, hao⟩ := readsI_at hr
  clear hr
  go_enter Tryd.func57, Tryd.ntmps57
  go_wp2
  go_loopw [4, 5] (fun t i wr => ∃ k : Nat, k ≤ zs.length ∧ i = .int .i64 (k : Int) ∧ wr.ownsRow w.heap.size 5 1 t (enc (zs.take k)).length (bv (enc (zs.take k))) ∧ Below w.heap.size w wr ∧ Hid (∀ j, j < k → szI (zs.getD j 0) ≠ 0)) (fun _ i _ => zs.length - (intOf i).toNat)
  case atStart => exact ⟨0, by omega, rfl, World.ownsRow_nil _ _ _ _, Below.refl _ _, fun j hj => by omega⟩
  case round =>
    obtain ⟨k, hk, rfl, hown, hbl, hall⟩ := hrel
    by_cases hlt : k < zs.length
    · obtain ⟨b, off, rfl, hcell⟩ := hao (by omega)
      have g1 := hcell k hlt
      have c1 := (hbl.cell (World.block_lt_of_cell? w _ g1)).trans g1
      have HX : Hid (zs.getD k 0 ∈ zs) := by
        show _ ∈ _
        simp [hlt]
      have HK : Hid (∀ j, j < k + 1 → szI (zs.getD k 0) ≠ 0 → szI (zs.getD j 0) ≠ 0) := fun j hj hx => by
        by_cases e : j = k
        · subst e; exact hx
        · exact hall.out j (by omega)
      have HP : Hid (enc (zs.take (k + 1)) = enc (zs.take k) ++ ptB (zs.getD k 0).toNat) := enc_succ zs k hlt
      have hel := enc_take_len zs k
      have hsz := hbl.size
      clear hcell g1 hao
      generalize zs.getD k 0 = z at c1 HX HK HP
      have hpt := refPoint_any z
      by_cases hok : szI z = 0
      · have HR : Hid (textR zs = (⟨#[]⟩, false)) := by
          show _ = _
          rw [textR, if_neg (fun h => h z HX.out hok)]
        rw [show decide (szI z ≠ 0) = false by simp [hok]] at hpt
        clear HK HX HP hok
        go_wp2_with (go_at_call 84; refine (hpt _).mono ?_; rintro e w1 ⟨rfl, rfl⟩)
        go_ret2
        exact ⟨by rw [HR.out]; rfl, hbl⟩
      · have hz := szI_nonneg hok
        rw [show decide (szI z ≠ 0) = true by simp [hok]] at hpt
        obtain ⟨n, rfl⟩ := Int.eq_ofNat_of_zero_le hz.1
        have hc := refBytes_any n wr (by omega)
        have hpl := ptB_len n
        have hmk : (mk (ptB n)).size = (ptB n).length := mk_size _
        simp only [Int.toNat_natCast] at HP
        go_wp2_with (first | (go_at_call 84; refine (hpt _).mono ?_; rintro e w1 ⟨rfl, rfl⟩) | (go_at_call 85; refine hc.mono ?_; rintro e w3 ⟨rfl, hb3⟩; have hs3 := hb3.size; have hown3 := own_below hown hb3) | (at_builtin; refine Lib.wpList_append_own_string _ rfl (.tmp 18) (.tmp 23) 155 9 rfl w.heap.size 5 i0 Tryd.underlying155 Tryd.underlying9 hi hz0 hz1 hz2 _ _ _ rfl hown3 (mk (ptB n)) rfl (by rw [hmk]; unfold maxLen; omega) (by rw [hmk]; omega) (by omega) ?_; intro v4 w4 ho4 hg4 hnil4))
        have R1 := own_text ho4 rfl
        have R2 := below_grown (Nat.le_refl _) (hbl.trans (hb3.mono hsz)) hown3 hg4
        rw [← HP.out] at R1
        clear hc hown hown3 ho4 hg4 hnil4
        go_roundw
        case rel => exact ⟨k + 1, by omega, by go_num, R1, R2, fun j hj => HK.out j hj hok⟩
        case measure => simp [intOf]; omega
    · have hall' : ∀ z ∈ zs, szI z ≠ 0 := fun z hz => by
        obtain ⟨j, hj, rfl⟩ := List.getElem_of_mem hz
        have := hall.out j (by omega)
        simpa [hj] using this
      have HR : Hid (textR zs = (mk (enc zs), true)) := by
        show _ = _
        rw [textR, if_pos hall']
      have hq' : k = zs.length := by omega
      subst hq'
      rw [List.take_length] at hown
      have hc := conv_own (dst := 9) Tryd.underlying155 Tryd.underlying5 Tryd.underlying9 hown
      clear hall' hall hown hao
      go_wp2
      go_ret2
      exact ⟨by rw [HR.out]; rfl, hbl⟩
end Go.Proofs.YtjimolafoihnpaaDoor
