/-
  Plain words for the proofs of this seat: bytes as values, bytes that stand in a text.
-/
import Derived.WalkKit
import Derived.ProofKit
import Derived.OpenShut
import Derived.PlainAid
import Derived.Laws.BitsLemmas
import Derived.Laws.IdiomStrings
import Derived.Lib.BufferRead
import Derived.Lib.Strings
namespace Go.Proofs.Ytaopfdgebibpeaa
open Go.RowKit

/-- Bytes as the cells of a row. -/
def bv (l : List UInt8) : List Value := l.map (fun b => Value.int .u8 b.toNat)
/-- Bytes as a text. -/
def mk (l : List UInt8) : ByteArray := ⟨l.toArray⟩

theorem bv_length (l : List UInt8) : (bv l).length = l.length := by simp [bv]
theorem bv_append (a b : List UInt8) : bv (a ++ b) = bv a ++ bv b := by simp [bv]
theorem mk_size (l : List UInt8) : (mk l).size = l.length := by simp [mk, ByteArray.size]
theorem mk_toList (l : List UInt8) : (mk l).data.toList = l := by simp [mk]
theorem mk_list (l : List UInt8) : (mk l).toList = l := by rw [Go.ByteArray.toList_eq]; rfl
theorem ret_bool {b : Bool} (h : b = true) : Ending.returned (.bool b) = .returned (.bool true) := by rw [h]
theorem mk_data (s : ByteArray) : mk s.data.toList = s := by simp [mk]

/-- What is owned, as bytes, is that text. -/
theorem conv_own {P : Program} {w : World} {base src dst e : Nat} {v : Value} {n : Nat} {l : List UInt8} (hs : P.underlying src = some (.slice e)) (he : P.underlying e = some (.int .u8)) (hd : P.underlying dst = some .string)
    (h : w.ownsRow base e 1 v n (bv l)) : (convert src dst v).run P w = .ok (.string (mk l)) w := by
  have hl := h.1
  rw [bv_length] at hl
  rcases h.2 with ⟨rfl, rfl⟩ | ⟨g, cap, cur, rfl, _⟩
  · have : l = [] := List.eq_nil_of_length_eq_zero (by omega)
    subst this
    exact Lib.run_convert_nil_bytes w src dst e 0 hs he hd
  · have hn : n = l.length := by omega
    subst hn
    exact run_convert_bytes_back w src dst e ⟨g, 0, none⟩ cap l hs he hd (fun j hj => h.cells (g := g) rfl j _ (by simp [bv, hj]))

/-- One byte more, as the law on append leaves it. -/
theorem own_snoc {w1 : World} {base e n : Nat} {v' : Value} {L : List UInt8} {b : UInt8} {x : Int} (h : w1.ownsRow base e 1 v' (n + 1) (bv L ++ [.int .u8 x])) (hn : L.length = n) (hx : (b.toNat : Int) = x) :
    w1.ownsRow base e 1 v' (L ++ [b]).length (bv (L ++ [b])) := by
  subst hx; subst hn
  rw [bv_append]
  simpa [bv] using h

/-- Behind an append of what the call owns, old memory is as it was. -/
theorem below_app {base : Nat} {w wr w1 : World} {e n : Nat} {v : Value} {xs : List Value} {o : Obj} (hb : base ≤ w.heap.size) (hbl : Below base w wr) (hown : wr.ownsRow base e 1 v n xs) (hg : (wr.alloc o).grownBy w1 v.ownBlock) : Below base w w1 :=
  (hbl.alloc (Nat.le_trans hb hbl.size) o).grown hg (by have := hbl.size; simp; omega) (fun k hk => (hown.lt k hk).1)

theorem one_one (x : Value) (h : x.oneCell' = true) : ∀ u ∈ [x], u.oneCell' = true := by intro u hu; simp at hu; subst hu; exact h
theorem one_new (wr : World) (x : Value) (e : Nat) : ∀ j u, [x][j]? = some u → (wr.alloc (.cells #[x] e)).cell? ((⟨wr.heap.size, 0, none⟩ : Addr).add j) = some u := by
  intro j u hj
  match j, hj with
  | 0, hj => simp at hj; subst hj; simp [Addr.add]

theorem byte_val (x : Int) (h0 : 0 ≤ x) (h1 : x < 256) : ((UInt8.ofNat x.toNat).toNat : Int) = x := by
  simp; omega
theorem byte_nat (x : Nat) (h1 : x < 256) : (((UInt8.ofNat x).toNat : Nat) : Int) = (x : Int) := by
  simp; omega

theorem wraps_i64 (n : Int) (h₀ : 0 ≤ n) (h₁ : n < 2 ^ 62) : IntKind.i64.wrap n = n := by rw [IntKind.wrap_i64]; omega
theorem i64_and127 {x : Int} (h₀ : 0 ≤ x) (h₁ : x ≤ 1125899906842624) : bits .and .i64 x 127 = x % 128 := bits_mask .i64 62 (by decide) wraps_i64 7 (by decide) x h₀ (by omega)
theorem u8_and127 {x : Int} (h₀ : 0 ≤ x) (h₁ : x < 256) : bits .and .u8 x 127 = x % 128 := bits_mask .u8 8 (by decide) wraps_u8 7 (by decide) x h₀ h₁
theorem u8_or128' {y : Int} (h₀ : 0 ≤ y) (h₁ : y < 128) : bits .or .u8 128 y = 128 + y := bits_join .u8 8 (by decide) wraps_u8 7 128 y (by decide) (by decide) (by decide) h₀ h₁ (by omega)

theorem i64_or6 {x y : Int} (h0 : 0 ≤ x) (h1 : x ≤ 33554431) (h2 : 0 ≤ y) (h3 : y < 64) : bits .or .i64 (x * 64) y = x * 64 + y :=
  bits_join .i64 62 (by decide) wraps_i64 6 (x * 64) y (by omega) (by omega) (by omega) h2 (by omega) (by omega)
theorem chain {w a b : World} (h : Below w.heap.size w a) (k : Below a.heap.size a b) : Below w.heap.size w b := h.trans (k.mono h.size)
theorem data_len (t : ByteArray) : t.data.toList.length = t.size := by rw [Array.length_toList]; rfl
theorem ofNat_toNat {x : Nat} (h : x < 256) : (UInt8.ofNat x).toNat = x := by simp; omega

open Go.PlainAid
/-- The bytes F stand in s from place a on. -/
def At (s : ByteArray) (a : Nat) (F : List UInt8) : Prop := a + F.length ≤ s.size ∧ ∀ i (h : i < F.length), bt s (a + i) = (F[i].toNat : Int)

theorem at_append {s : ByteArray} {a : Nat} {F G : List UInt8} : At s a (F ++ G) ↔ At s a F ∧ At s (a + F.length) G := by
  constructor
  · rintro ⟨h1, h2⟩
    rw [List.length_append] at h1
    refine ⟨⟨by omega, fun i h => ?_⟩, ⟨by omega, fun i h => ?_⟩⟩
    · rw [h2 i (by rw [List.length_append]; omega), List.getElem_append_left h]
    · rw [show a + F.length + i = a + (F.length + i) by omega, h2 (F.length + i) (by rw [List.length_append]; omega), List.getElem_append_right (by omega)]
      simp
  · rintro ⟨⟨h1, h2⟩, ⟨h3, h4⟩⟩
    refine ⟨by rw [List.length_append]; omega, fun i h => ?_⟩
    by_cases hi : i < F.length
    · rw [h2 i hi, List.getElem_append_left hi]
    · rw [List.length_append] at h
      have e := h4 (i - F.length) (by omega)
      rw [show a + F.length + (i - F.length) = a + i by omega] at e
      rw [e, List.getElem_append_right (by omega)]

theorem at_one {s : ByteArray} {a : Nat} {b : UInt8} : At s a [b] ↔ a < s.size ∧ bt s a = (b.toNat : Int) := by
  constructor
  · rintro ⟨h1, h2⟩
    exact ⟨by simp at h1; omega, by simpa using h2 0 (by simp)⟩
  · rintro ⟨h1, h2⟩
    refine ⟨by simp; omega, fun i h => ?_⟩
    simp at h
    subst h
    simpa using h2

theorem at_cons {s : ByteArray} {a : Nat} {b : UInt8} {F : List UInt8} : At s a (b :: F) ↔ (a < s.size ∧ bt s a = (b.toNat : Int)) ∧ At s (a + 1) F := by
  rw [show b :: F = [b] ++ F by rfl, at_append, at_one]
  simp

theorem bt_data (s : ByteArray) (k : Nat) (h : k < s.size) : bt s k = ((s.data.toList[k]'(by rw [Array.length_toList]; exact h)).toNat : Int) := by
  rw [← get_bt s k h]
  rfl

theorem at_extract {s : ByteArray} {a : Nat} {F : List UInt8} (h : At s a F) : s.extract a (a + F.length) = mk F := by
  obtain ⟨h1, h2⟩ := h
  apply ByteArray.ext
  apply Array.ext'
  rw [Lib.extract_data]
  apply List.ext_getElem
  · simp [mk]
    have e : s.data.size = s.size := rfl
    omega
  · intro i g1 g2
    have hi : i < F.length := by simpa [mk] using g2
    have e := h2 i hi
    rw [bt_data s (a + i) (by omega)] at e
    have e' : s.data.toList[a + i]'(by rw [Array.length_toList]; have : s.data.size = s.size := rfl; omega) = F[i] := by
      apply UInt8.toNat_inj.1
      exact_mod_cast e
    simp [mk]
    simpa using e'

/-- Two texts that agree up to a place have the same forms there. -/
theorem at_agree {s s' : ByteArray} {a : Nat} {F : List UInt8} (h : At s a F) (hs : a + F.length ≤ s'.size) (he : ∀ i, i < a + F.length → bt s' i = bt s i) : At s' a F :=
  ⟨hs, fun i hi => by rw [he _ (by omega)]; exact h.2 i hi⟩

/-- The form of a number: groups of seven bits, the lowest first; at most so many and one. -/
def numF : Nat → Nat → List UInt8
  | 0, n => [UInt8.ofNat n]
  | f + 1, n => if n < 128 then [UInt8.ofNat n] else UInt8.ofNat (128 + n % 128) :: numF f (n / 128)

theorem numF_succ : ∀ (f n : Nat), n < 128 ^ (f + 1) → numF (f + 1) n = numF f n
  | 0, n, h => by simp at h; simp [numF, h]
  | f + 1, n, h => by
    have hd : n / 128 < 128 ^ (f + 1) := by rw [Nat.div_lt_iff_lt_mul (by omega)]; rw [Nat.pow_succ] at h; exact h
    show (if n < 128 then [UInt8.ofNat n] else UInt8.ofNat (128 + n % 128) :: numF (f + 1) (n / 128)) = (if n < 128 then [UInt8.ofNat n] else UInt8.ofNat (128 + n % 128) :: numF f (n / 128))
    rw [numF_succ f _ hd]

/-- The form of a number. -/
def numB (n : Nat) : List UInt8 := numF 9 n

theorem numB_low {n : Nat} (h : n < 128) : numB n = [UInt8.ofNat n] := by rw [numB, numF, if_pos h]
theorem numB_high {n : Nat} (h : 128 ≤ n) (h2 : n ≤ 1125899906842624) : numB n = UInt8.ofNat (128 + n % 128) :: numB (n / 128) := by
  rw [numB, numF, if_neg (by omega), ← numF_succ 8 (n / 128) (by omega)]
  rfl

theorem numF_len : ∀ (f n : Nat), (numF f n).length ≤ f + 1
  | 0, n => by simp [numF]
  | f + 1, n => by
    rw [numF]
    split
    · simp
    · have := numF_len f (n / 128); simp; omega

theorem numB_len {n : Nat} : (numB n).length ≤ 10 := numF_len 9 n

theorem numF_len_of : ∀ (k f n : Nat), n < 128 ^ (k + 1) → (numF f n).length ≤ k + 1
  | k, 0, n, _ => by simp [numF]
  | 0, f + 1, n, h => by rw [numF, if_pos (by simpa using h)]; simp
  | k + 1, f + 1, n, h => by
    rw [numF]
    split
    · simp
    · have hd : n / 128 < 128 ^ (k + 1) := by rw [Nat.div_lt_iff_lt_mul (by omega)]; rw [Nat.pow_succ] at h; exact h
      have := numF_len_of k f (n / 128) hd
      simp; omega
theorem numB_len8 {n : Nat} (h : n ≤ 1125899906842624) : (numB n).length ≤ 8 := numF_len_of 7 9 n (by omega)

theorem numB_pos (n : Nat) : 0 < (numB n).length := by
  rw [numB, numF]; split <;> simp


/-- A group laid above the others. -/
theorem or_shift {k : Nat} {N c : Int} (hk : k < 8) (h0 : 0 ≤ N) (h1 : N < 2 ^ (k * 7)) (c0 : 0 ≤ c) (c1 : c < 128) :
    bits .or .i64 N (wrap64 (c * 2 ^ (k * 7))) = N + c * 2 ^ (k * 7) ∧ 0 ≤ N + c * 2 ^ (k * 7) ∧ N + c * 2 ^ (k * 7) < 2 ^ ((k + 1) * 7) := by
  obtain ⟨n, rfl⟩ := Int.eq_ofNat_of_zero_le h0
  obtain ⟨d, rfl⟩ := Int.eq_ofNat_of_zero_le c0
  have hn : n < 2 ^ (k * 7) := by exact_mod_cast h1
  have hd : d < 128 := by omega
  have e7 : 2 ^ ((k + 1) * 7) = 2 ^ (k * 7) * 128 := by rw [Nat.add_mul, Nat.pow_add]
  have hp : 2 ^ (k * 7) ≤ 2 ^ 49 := Nat.pow_le_pow_right (by decide) (by omega)
  have hm : d * 2 ^ (k * 7) ≤ 127 * 2 ^ (k * 7) := Nat.mul_le_mul_right _ (by omega)
  have hw : wrap64 (((d * 2 ^ (k * 7) : Nat) : Int)) = ((d * 2 ^ (k * 7) : Nat) : Int) := by
    generalize d * 2 ^ (k * 7) = q at *
    unfold wrap64
    omega
  have ecast : ((d : Int) * 2 ^ (k * 7)) = ((d * 2 ^ (k * 7) : Nat) : Int) := by simp
  rw [ecast, hw, (bits_nat .i64 62 (by decide) wraps_i64 n (d * 2 ^ (k * 7)) (by omega) (by omega)).2]
  have ej : n ||| d * 2 ^ (k * 7) = n + d * 2 ^ (k * 7) := by
    rw [Nat.or_comm, Nat.mul_comm, ← Nat.two_pow_add_eq_or_of_lt hn d, Nat.add_comm]
  have e8 : ((2 : Int) ^ ((k + 1) * 7)) = ((2 ^ ((k + 1) * 7) : Nat) : Int) := by simp
  rw [ej, e8, e7]
  generalize d * 2 ^ (k * 7) = q at *
  generalize 2 ^ (k * 7) = r at *
  refine ⟨by simp, by omega, by omega⟩
end Go.Proofs.Ytaopfdgebibpeaa
