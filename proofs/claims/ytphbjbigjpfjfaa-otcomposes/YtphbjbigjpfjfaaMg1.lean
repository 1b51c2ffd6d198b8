/- Texts of one proof, one behind the other: TxPlain, TxPts, TxRun, TxTxt, TxTxt2, TxUtf, TxUtfL, TxFirstP, TxFirst, TxRefP, DlA, DlB, DlC, DlJ, DlK. -/
import Derived.WalkKit
import Derived.ProofKit
import Derived.OpenShut
import Derived.PlainAid
import Derived.Laws.BitsLemmas
import Derived.Laws.IdiomStrings
import Derived.Lib.BufferRead
import Derived.Lib.Strings
import Derived.Test.YtphbjbigjpfjfaaRows
import Derived.WalkLawsBesides
import Derived.Handy
import Derived.Lib.AppendStr
import Derived.Deep.RegionHeld3
import Derived.Deep.RegionWith
import Derived.Deep.QuietTactic
import Derived.BigQuiet
import Derived.WalkSmall
import Derived.Laws.Rows

/-
  Plain words for the proofs of this seat: bytes as values, bytes that stand in a text.
-/
namespace Go.Proofs.Ytphbjbigjpfjfaa
open Go.RowKit

/-- Bytes as the cells of a row. -/
def bv (l : List UInt8) : List Value := l.map (fun b => Value.int .u8 b.toNat)
/-- Bytes as a text. -/
def mk (l : List UInt8) : ByteArray := ⟨l.toArray⟩

theorem bv_length (l : List UInt8) : (bv l).length = l.length := by simp [bv]
theorem bv_append (a b : List UInt8) : bv (a ++ b) = bv a ++ bv b := by simp [bv]
theorem mk_size (l : List UInt8) : (mk l).size = l.length := by simp [mk, ByteArray.size]
theorem mk_toList (l : List UInt8) : (mk l).data.toList = l := by simp [mk]
theorem mk_list (l : List UInt8) : (mk l).toList = l := by rw [Go.ByteArray.toList_eq]; rfl
theorem ret_bool {b : Bool} (h : b = true) : Ending.returned (.bool b) = .returned (.bool true) := by rw [h]
theorem mk_data (s : ByteArray) : mk s.data.toList = s := by simp [mk]

/-- What is owned, as bytes, is that text. -/
theorem conv_own {P : Program} {w : World} {base src dst e : Nat} {v : Value} {n : Nat} {l : List UInt8} (hs : P.underlying src = some (.slice e)) (he : P.underlying e = some (.int .u8)) (hd : P.underlying dst = some .string)
    (h : w.ownsRow base e 1 v n (bv l)) : (convert src dst v).run P w = .ok (.string (mk l)) w := by
  have hl := h.1
  rw [bv_length] at hl
  rcases h.2 with ⟨rfl, rfl⟩ | ⟨g, cap, cur, rfl, _⟩
  · have : l = [] := List.eq_nil_of_length_eq_zero (by omega)
    subst this
    exact Lib.run_convert_nil_bytes w src dst e 0 hs he hd
  · have hn : n = l.length := by omega
    subst hn
    exact run_convert_bytes_back w src dst e ⟨g, 0, none⟩ cap l hs he hd (fun j hj => h.cells (g := g) rfl j _ (by simp [bv, hj]))

/-- One byte more, as the law on append leaves it. -/
theorem own_snoc {w1 : World} {base e n : Nat} {v' : Value} {L : List UInt8} {b : UInt8} {x : Int} (h : w1.ownsRow base e 1 v' (n + 1) (bv L ++ [.int .u8 x])) (hn : L.length = n) (hx : (b.toNat : Int) = x) :
    w1.ownsRow base e 1 v' (L ++ [b]).length (bv (L ++ [b])) := by
  subst hx; subst hn
  rw [bv_append]
  simpa [bv] using h

/-- Behind an append of what the call owns, old memory is as it was. -/
theorem below_app {base : Nat} {w wr w1 : World} {e n : Nat} {v : Value} {xs : List Value} {o : Obj} (hb : base ≤ w.heap.size) (hbl : Below base w wr) (hown : wr.ownsRow base e 1 v n xs) (hg : (wr.alloc o).grownBy w1 v.ownBlock) : Below base w w1 :=
  (hbl.alloc (Nat.le_trans hb hbl.size) o).grown hg (by have := hbl.size; simp; omega) (fun k hk => (hown.lt k hk).1)

theorem one_one (x : Value) (h : x.oneCell' = true) : ∀ u ∈ [x], u.oneCell' = true := by intro u hu; simp at hu; subst hu; exact h
theorem one_new (wr : World) (x : Value) (e : Nat) : ∀ j u, [x][j]? = some u → (wr.alloc (.cells #[x] e)).cell? ((⟨wr.heap.size, 0, none⟩ : Addr).add j) = some u := by
  intro j u hj
  match j, hj with
  | 0, hj => simp at hj; subst hj; simp [Addr.add]

theorem byte_val (x : Int) (h0 : 0 ≤ x) (h1 : x < 256) : ((UInt8.ofNat x.toNat).toNat : Int) = x := by
  simp; omega
theorem byte_nat (x : Nat) (h1 : x < 256) : (((UInt8.ofNat x).toNat : Nat) : Int) = (x : Int) := by
  simp; omega

theorem wraps_i64 (n : Int) (h₀ : 0 ≤ n) (h₁ : n < 2 ^ 62) : IntKind.i64.wrap n = n := by rw [IntKind.wrap_i64]; omega
theorem i64_and127 {x : Int} (h₀ : 0 ≤ x) (h₁ : x ≤ 1125899906842624) : bits .and .i64 x 127 = x % 128 := bits_mask .i64 62 (by decide) wraps_i64 7 (by decide) x h₀ (by omega)
theorem u8_and127 {x : Int} (h₀ : 0 ≤ x) (h₁ : x < 256) : bits .and .u8 x 127 = x % 128 := bits_mask .u8 8 (by decide) wraps_u8 7 (by decide) x h₀ h₁
theorem u8_or128' {y : Int} (h₀ : 0 ≤ y) (h₁ : y < 128) : bits .or .u8 128 y = 128 + y := bits_join .u8 8 (by decide) wraps_u8 7 128 y (by decide) (by decide) (by decide) h₀ h₁ (by omega)

theorem i64_or6 {x y : Int} (h0 : 0 ≤ x) (h1 : x ≤ 33554431) (h2 : 0 ≤ y) (h3 : y < 64) : bits .or .i64 (x * 64) y = x * 64 + y :=
  bits_join .i64 62 (by decide) wraps_i64 6 (x * 64) y (by omega) (by omega) (by omega) h2 (by omega) (by omega)
theorem chain {w a b : World} (h : Below w.heap.size w a) (k : Below a.heap.size a b) : Below w.heap.size w b := h.trans (k.mono h.size)
theorem data_len (t : ByteArray) : t.data.toList.length = t.size := by rw [Array.length_toList]; rfl
theorem ofNat_toNat {x : Nat} (h : x < 256) : (UInt8.ofNat x).toNat = x := by simp; omega

open Go.PlainAid
/-- The bytes F stand in s from place a on. -/
def At (s : ByteArray) (a : Nat) (F : List UInt8) : Prop := a + F.length ≤ s.size ∧ ∀ i (h : i < F.length), bt s (a + i) = (F[i].toNat : Int)

theorem at_append {s : ByteArray} {a : Nat} {F G : List UInt8} : At s a (F ++ G) ↔ At s a F ∧ At s (a + F.length) G := by
  constructor
  · rintro ⟨h1, h2⟩
    rw [List.length_append] at h1
    refine ⟨⟨by omega, fun i h => ?_⟩, ⟨by omega, fun i h => ?_⟩⟩
    · rw [h2 i (by rw [List.length_append]; omega), List.getElem_append_left h]
    · rw [show a + F.length + i = a + (F.length + i) by omega, h2 (F.length + i) (by rw [List.length_append]; omega), List.getElem_append_right (by omega)]
      simp
  · rintro ⟨⟨h1, h2⟩, ⟨h3, h4⟩⟩
    refine ⟨by rw [List.length_append]; omega, fun i h => ?_⟩
    by_cases hi : i < F.length
    · rw [h2 i hi, List.getElem_append_left hi]
    · rw [List.length_append] at h
      have e := h4 (i - F.length) (by omega)
      rw [show a + F.length + (i - F.length) = a + i by omega] at e
      rw [e, List.getElem_append_right (by omega)]

theorem at_one {s : ByteArray} {a : Nat} {b : UInt8} : At s a [b] ↔ a < s.size ∧ bt s a = (b.toNat : Int) := by
  constructor
  · rintro ⟨h1, h2⟩
    exact ⟨by simp at h1; omega, by simpa using h2 0 (by simp)⟩
  · rintro ⟨h1, h2⟩
    refine ⟨by simp; omega, fun i h => ?_⟩
    simp at h
    subst h
    simpa using h2

theorem at_cons {s : ByteArray} {a : Nat} {b : UInt8} {F : List UInt8} : At s a (b :: F) ↔ (a < s.size ∧ bt s a = (b.toNat : Int)) ∧ At s (a + 1) F := by
  rw [show b :: F = [b] ++ F by rfl, at_append, at_one]
  simp

theorem bt_data (s : ByteArray) (k : Nat) (h : k < s.size) : bt s k = ((s.data.toList[k]'(by rw [Array.length_toList]; exact h)).toNat : Int) := by
  rw [← get_bt s k h]
  rfl

theorem at_extract {s : ByteArray} {a : Nat} {F : List UInt8} (h : At s a F) : s.extract a (a + F.length) = mk F := by
  obtain ⟨h1, h2⟩ := h
  apply ByteArray.ext
  apply Array.ext'
  rw [Lib.extract_data]
  apply List.ext_getElem
  · simp [mk]
    have e : s.data.size = s.size := rfl
    omega
  · intro i g1 g2
    have hi : i < F.length := by simpa [mk] using g2
    have e := h2 i hi
    rw [bt_data s (a + i) (by omega)] at e
    have e' : s.data.toList[a + i]'(by rw [Array.length_toList]; have : s.data.size = s.size := rfl; omega) = F[i] := by
      apply UInt8.toNat_inj.1
      exact_mod_cast e
    simp [mk]
    simpa using e'

/-- Two texts that agree up to a place have the same forms there. -/
theorem at_agree {s s' : ByteArray} {a : Nat} {F : List UInt8} (h : At s a F) (hs : a + F.length ≤ s'.size) (he : ∀ i, i < a + F.length → bt s' i = bt s i) : At s' a F :=
  ⟨hs, fun i hi => by rw [he _ (by omega)]; exact h.2 i hi⟩

/-- The form of a number: groups of seven bits, the lowest first; at most so many and one. -/
def numF : Nat → Nat → List UInt8
  | 0, n => [UInt8.ofNat n]
  | f + 1, n => if n < 128 then [UInt8.ofNat n] else UInt8.ofNat (128 + n % 128) :: numF f (n / 128)

theorem numF_succ : ∀ (f n : Nat), n < 128 ^ (f + 1) → numF (f + 1) n = numF f n
  | 0, n, h => by simp at h; simp [numF, h]
  | f + 1, n, h => by
    have hd : n / 128 < 128 ^ (f + 1) := by rw [Nat.div_lt_iff_lt_mul (by omega)]; rw [Nat.pow_succ] at h; exact h
    show (if n < 128 then [UInt8.ofNat n] else UInt8.ofNat (128 + n % 128) :: numF (f + 1) (n / 128)) = (if n < 128 then [UInt8.ofNat n] else UInt8.ofNat (128 + n % 128) :: numF f (n / 128))
    rw [numF_succ f _ hd]

/-- The form of a number. -/
def numB (n : Nat) : List UInt8 := numF 9 n

theorem numB_low {n : Nat} (h : n < 128) : numB n = [UInt8.ofNat n] := by rw [numB, numF, if_pos h]
theorem numB_high {n : Nat} (h : 128 ≤ n) (h2 : n ≤ 1125899906842624) : numB n = UInt8.ofNat (128 + n % 128) :: numB (n / 128) := by
  rw [numB, numF, if_neg (by omega), ← numF_succ 8 (n / 128) (by omega)]
  rfl

theorem numF_len : ∀ (f n : Nat), (numF f n).length ≤ f + 1
  | 0, n => by simp [numF]
  | f + 1, n => by
    rw [numF]
    split
    · simp
    · have := numF_len f (n / 128); simp; omega

theorem numB_len {n : Nat} : (numB n).length ≤ 10 := numF_len 9 n

theorem numF_len_of : ∀ (k f n : Nat), n < 128 ^ (k + 1) → (numF f n).length ≤ k + 1
  | k, 0, n, _ => by simp [numF]
  | 0, f + 1, n, h => by rw [numF, if_pos (by simpa using h)]; simp
  | k + 1, f + 1, n, h => by
    rw [numF]
    split
    · simp
    · have hd : n / 128 < 128 ^ (k + 1) := by rw [Nat.div_lt_iff_lt_mul (by omega)]; rw [Nat.pow_succ] at h; exact h
      have := numF_len_of k f (n / 128) hd
      simp; omega
theorem numB_len8 {n : Nat} (h : n ≤ 1125899906842624) : (numB n).length ≤ 8 := numF_len_of 7 9 n (by omega)

theorem numB_pos (n : Nat) : 0 < (numB n).length := by
  rw [numB, numF]; split <;> simp


/-- A group laid above the others. -/
theorem or_shift {k : Nat} {N c : Int} (hk : k < 8) (h0 : 0 ≤ N) (h1 : N < 2 ^ (k * 7)) (c0 : 0 ≤ c) (c1 : c < 128) :
    bits .or .i64 N (wrap64 (c * 2 ^ (k * 7))) = N + c * 2 ^ (k * 7) ∧ 0 ≤ N + c * 2 ^ (k * 7) ∧ N + c * 2 ^ (k * 7) < 2 ^ ((k + 1) * 7) := by
  obtain ⟨n, rfl⟩ := Int.eq_ofNat_of_zero_le h0
  obtain ⟨d, rfl⟩ := Int.eq_ofNat_of_zero_le c0
  have hn : n < 2 ^ (k * 7) := by exact_mod_cast h1
  have hd : d < 128 := by omega
  have e7 : 2 ^ ((k + 1) * 7) = 2 ^ (k * 7) * 128 := by rw [Nat.add_mul, Nat.pow_add]
  have hp : 2 ^ (k * 7) ≤ 2 ^ 49 := Nat.pow_le_pow_right (by decide) (by omega)
  have hm : d * 2 ^ (k * 7) ≤ 127 * 2 ^ (k * 7) := Nat.mul_le_mul_right _ (by omega)
  have hw : wrap64 (((d * 2 ^ (k * 7) : Nat) : Int)) = ((d * 2 ^ (k * 7) : Nat) : Int) := by
    generalize d * 2 ^ (k * 7) = q at *
    unfold wrap64
    omega
  have ecast : ((d : Int) * 2 ^ (k * 7)) = ((d * 2 ^ (k * 7) : Nat) : Int) := by simp
  rw [ecast, hw, (bits_nat .i64 62 (by decide) wraps_i64 n (d * 2 ^ (k * 7)) (by omega) (by omega)).2]
  have ej : n ||| d * 2 ^ (k * 7) = n + d * 2 ^ (k * 7) := by
    rw [Nat.or_comm, Nat.mul_comm, ← Nat.two_pow_add_eq_or_of_lt hn d, Nat.add_comm]
  have e8 : ((2 : Int) ^ ((k + 1) * 7)) = ((2 ^ ((k + 1) * 7) : Nat) : Int) := by simp
  rw [ej, e8, e7]
  generalize d * 2 ^ (k * 7) = q at *
  generalize 2 ^ (k * 7) = r at *
  refine ⟨by simp, by omega, by omega⟩
end Go.Proofs.Ytphbjbigjpfjfaa

/-
  What text.next gives, in plain numbers; its contract, and those of first, sizeOf, tail.
-/
namespace Go.Proofs.Ytphbjbigjpfjfaa
open Go.ChangeShapes Go.WideShapes Go.ChangeAt Go.RowKit Go.PlainAid

/-- What a first byte tells: the bits that it carries, how many bytes there are. -/
def fstB (b : Int) : Int × Int := if b < 128 then (b, 1) else if b / 32 = 6 then (b % 32, 2) else if b / 16 = 14 then (b % 16, 3) else if b / 8 = 30 then (b % 8, 4) else (0, 0)
/-- How many bytes a code point has; 0: it is none. -/
def szI (v : Int) : Int := if v < 0 ∨ 1114111 < v ∨ (55296 ≤ v ∧ v ≤ 57343) then 0 else if v < 128 then 1 else if v < 2048 then 2 else if v < 65536 then 3 else 4
/-- The bytes behind the first one. -/
def nxGo (s : ByteArray) (at' : Nat) : Nat → Nat → Int → Option Int
  | 0, _, v => some v
  | f + 1, i, v => if bt s (at' + i) / 64 = 2 then nxGo s at' f (i + 1) (v * 64 + bt s (at' + i) % 64) else none
/-- The code point at a place, and how many bytes it has. -/
def nx (s : ByteArray) (at' : Nat) : Int × Int :=
  if (s.size : Int) - (at' : Int) < (fstB (bt s at')).2 then (0, 0)
  else match nxGo s at' ((fstB (bt s at')).2.toNat - 1) 1 (fstB (bt s at')).1 with
    | none => (0, 0)
    | some v => if szI v = (fstB (bt s at')).2 then (v, (fstB (bt s at')).2) else (0, 0)

theorem fstB_bd (b : Int) (h0 : 0 ≤ b) (h1 : b ≤ 255) : 0 ≤ (fstB b).1 ∧ (fstB b).1 ≤ 127 ∧ 0 ≤ (fstB b).2 ∧ (fstB b).2 ≤ 4 := by
  unfold fstB
  split
  · simp only; omega
  · split
    · simp only; omega
    · split
      · simp only; omega
      · split <;> simp only <;> omega

theorem first_any (b : Int) (w : World) (h0 : 0 ≤ b) (h1 : b ≤ 255) :
    Calls Try.prog 66 #[.int .u8 b] w fun e w' => e = .returned (.tuple #[.int .i64 (fstB b).1, .int .i64 (fstB b).2]) ∧ w = w' := by
  have a31 := u8_and31 (x := b) h0 (by omega)
  have a15 := u8_and15 (x := b) h0 (by omega)
  have a7 := u8_and7 (x := b) h0 (by omega)
  by_cases c1 : b < 128
  · have e : fstB b = (b, 1) := by rw [fstB, if_pos c1]
    rw [e]
    go_enter Try.func66, Try.ntmps66
    go_wp2
    go_ret2
    exact ⟨rfl, rfl⟩
  · by_cases c2 : b / 32 = 6
    · have e : fstB b = (b % 32, 2) := by rw [fstB, if_neg c1, if_pos c2]
      rw [e]
      go_enter Try.func66, Try.ntmps66
      go_wp2
      go_ret2
      exact ⟨rfl, rfl⟩
    · by_cases c3 : b / 16 = 14
      · have e : fstB b = (b % 16, 3) := by rw [fstB, if_neg c1, if_neg c2, if_pos c3]
        rw [e]
        go_enter Try.func66, Try.ntmps66
        go_wp2
        go_ret2
        exact ⟨rfl, rfl⟩
      · by_cases c4 : b / 8 = 30
        · have e : fstB b = (b % 8, 4) := by rw [fstB, if_neg c1, if_neg c2, if_neg c3, if_pos c4]
          rw [e]
          go_enter Try.func66, Try.ntmps66
          go_wp2
          go_ret2
          exact ⟨rfl, rfl⟩
        · have e : fstB b = (0, 0) := by rw [fstB, if_neg c1, if_neg c2, if_neg c3, if_neg c4]
          rw [e]
          go_enter Try.func66, Try.ntmps66
          go_wp2
          go_ret2
          exact ⟨rfl, rfl⟩

set_option maxRecDepth 20000 in
set_option maxHeartbeats 1000000 in
theorem sizeOf_any (v : Int) (w : World) : Calls Try.prog 59 #[.int .i64 v] w fun e w' => e = .returned (.int .i64 (szI v)) ∧ w = w' := by
  by_cases c1 : v < 0
  · have e : szI v = 0 := by rw [szI, if_pos (Or.inl c1)]
    rw [e]
    go_enter Try.func59, Try.ntmps59
    go_wp2
    go_ret
    exact ⟨rfl, rfl⟩
  · by_cases c2 : 1114111 < v
    · have e : szI v = 0 := by rw [szI, if_pos (Or.inr (Or.inl c2))]
      rw [e]
      go_enter Try.func59, Try.ntmps59
      go_wp2
      go_ret
      exact ⟨rfl, rfl⟩
    · by_cases c3 : v < 55296
      · by_cases d1 : v < 128
        · have e : szI v = 1 := by rw [szI, if_neg (by omega), if_pos d1]
          rw [e]
          go_enter Try.func59, Try.ntmps59
          go_wp2
          go_ret
          exact ⟨rfl, rfl⟩
        · by_cases d2 : v < 2048
          · have e : szI v = 2 := by rw [szI, if_neg (by omega), if_neg d1, if_pos d2]
            rw [e]
            go_enter Try.func59, Try.ntmps59
            go_wp2
            go_ret
            exact ⟨rfl, rfl⟩
          · have e : szI v = 3 := by rw [szI, if_neg (by omega), if_neg d1, if_neg d2, if_pos (by omega)]
            rw [e]
            go_enter Try.func59, Try.ntmps59
            go_wp2
            go_ret
            exact ⟨rfl, rfl⟩
      · by_cases c4 : v ≤ 57343
        · have e : szI v = 0 := by rw [szI, if_pos (by omega)]
          rw [e]
          go_enter Try.func59, Try.ntmps59
          go_wp2
          go_ret
          exact ⟨rfl, rfl⟩
        · by_cases d3 : v < 65536
          · have e : szI v = 3 := by rw [szI, if_neg (by omega), if_neg (by omega), if_neg (by omega), if_pos d3]
            rw [e]
            go_enter Try.func59, Try.ntmps59
            go_wp2
            go_ret
            exact ⟨rfl, rfl⟩
          · have e : szI v = 4 := by rw [szI, if_neg (by omega), if_neg (by omega), if_neg (by omega), if_neg d3]
            rw [e]
            go_enter Try.func59, Try.ntmps59
            go_wp2
            go_ret
            exact ⟨rfl, rfl⟩

theorem szI_bd (v : Int) : 0 ≤ szI v ∧ szI v ≤ 4 := by
  unfold szI; split; · omega
  split; · omega
  split; · omega
  split <;> omega

set_option maxRecDepth 20000 in
set_option maxHeartbeats 2000000 in
theorem next_any (s : ByteArray) (at' : Nat) (w : World) (hs : s.size ≤ maxLen) (hat : at' < s.size) :
    Calls Try.prog 57 #[.string s, .int .i64 (at' : Int)] w fun e w' => e = .returned (.tuple #[.int .i64 (nx s at').1, .int .i64 (nx s at').2]) ∧ w = w' := by
  unfold maxLen at hs
  have hb := get_bt s
  have hf := first_any (bt s at') w (bt_nonneg s at') (bt_le s at')
  have hbd := fstB_bd (bt s at') (bt_nonneg s at') (bt_le s at')
  have HN : Hid (nx s at' = if (s.size : Int) - (at' : Int) < (fstB (bt s at')).2 then (0, 0)
    else match nxGo s at' ((fstB (bt s at')).2.toNat - 1) 1 (fstB (bt s at')).1 with
    | none => (0, 0)
    | some v => if szI v = (fstB (bt s at')).2 then (v, (fstB (bt s at')).2) else (0, 0)) := rfl
  generalize fstB (bt s at') = r at hf hbd HN
  obtain ⟨p, z⟩ := r
  simp only at hf hbd HN
  obtain ⟨p0, p1, z0, z1⟩ := hbd
  by_cases hcut : (s.size : Int) - (at' : Int) < z
  · have HR : Hid (nx s at' = (0, 0)) := by show _ = _; rw [HN.out, if_pos hcut]
    clear HN
    go_enter Try.func57, Try.ntmps57
    go_wp2_with (go_at_call 66; refine hf.mono ?_; rintro e w1 ⟨rfl, rfl⟩)
    go_ret2
    exact ⟨by rw [HR.out]; rfl, rfl⟩
  · have HM : Hid (nx s at' = match nxGo s at' (z.toNat - 1) 1 p with
      | none => (0, 0)
      | some v => if szI v = z then (v, z) else (0, 0)) := by show _ = _; rw [HN.out, if_neg hcut]
    clear HN
    obtain ⟨zn, rfl⟩ := Int.eq_ofNat_of_zero_le z0
    simp only [Int.toNat_natCast] at HM
    go_enter Try.func57, Try.ntmps57
    go_wp2_with (go_at_call 66; refine hf.mono ?_; rintro e w1 ⟨rfl, rfl⟩)
    clear hf
    go_loop [4, 5, 6] (fun t q i => ∃ (k : Nat) (v : Int), q = .int .i64 (zn : Int) ∧ 1 ≤ k ∧ (k ≤ zn ∨ k = 1) ∧ i = .int .i64 (k : Int) ∧ t = .int .i64 v ∧ 0 ≤ v ∧ (k ≤ 1 → v ≤ 127) ∧ (k ≤ 2 → v ≤ 8191) ∧ (k ≤ 3 → v ≤ 524287) ∧ Hid (nxGo s at' (zn - 1) 1 p = nxGo s at' (zn - k) k v)) (fun _ _ i => 4 - (intOf i).toNat)
    case atStart => exact ⟨1, p, rfl, by omega, by omega, rfl, rfl, p0, by omega, by omega, by omega, rfl⟩
    case round =>
      obtain ⟨k, v, rfl, hk, hkz, rfl, rfl, v0, v1, v2, v3, HG⟩ := hrel
      by_cases hlt : k < zn
      · have hv : v ≤ 524287 := by omega
        have hin : at' + k < s.size := by omega
        have c0 := bt_nonneg s (at' + k)
        have c1 := bt_le s (at' + k)
        have hand := u8_and63 (x := bt s (at' + k)) c0 (by omega)
        have ho := i64_or6 (x := v) (y := bt s (at' + k) % 64) v0 (by omega) (by omega) (by omega)
        have hf : zn - k = (zn - (k + 1)) + 1 := by omega
        rw [hf] at HG
        by_cases htail : bt s (at' + k) / 64 = 2
        · have HR : Hid (nxGo s at' (zn - 1) 1 p = nxGo s at' (zn - (k + 1)) (k + 1) (v * 64 + bt s (at' + k) % 64)) := by show _ = _; rw [HG.out, nxGo, if_pos htail]
          have HV : Hid ((k + 1 ≤ 1 → v * 64 + bt s (at' + k) % 64 ≤ 127) ∧ (k + 1 ≤ 2 → v * 64 + bt s (at' + k) % 64 ≤ 8191) ∧ (k + 1 ≤ 3 → v * 64 + bt s (at' + k) % 64 ≤ 524287)) := ⟨by omega, by omega, by omega⟩
          clear HG v1 v2 v3
          go_wp2
          go_round
          case rel => exact ⟨k + 1, _, rfl, by omega, by omega, by go_num, rfl, by omega, HV.out.1, HV.out.2.1, HV.out.2.2, HR⟩
          case measure => simp [intOf]; omega
        · have HR : Hid (nx s at' = (0, 0)) := by
            show _ = _
            rw [HM.out, HG.out, nxGo, if_neg htail]
          clear HG HM v1 v2 v3
          go_wp2
          go_ret2
          exact ⟨by rw [HR.out]; rfl, rfl⟩
      · have hz : zn - k = 0 := by omega
        rw [hz] at HG
        have HR : Hid (nx s at' = if szI v = (zn : Int) then (v, (zn : Int)) else (0, 0)) := by
          show _ = _
          rw [HM.out, HG.out]
          rfl
        clear HG HM v1 v2 v3
        have hsz := sizeOf_any v w
        have hsb := szI_bd v
        by_cases he : szI v = (zn : Int)
        · rw [if_pos he] at HR
          rw [he] at hsz
          clear he
          go_wp2_with (go_at_call 59; refine hsz.mono ?_; rintro e w1 ⟨rfl, rfl⟩)
          go_ret2
          exact ⟨by rw [HR.out]; rfl, rfl⟩
        · rw [if_neg he] at HR
          have he' : (szI v != (zn : Int)) = true := by simpa using he
          go_wp2_with (go_at_call 59; refine hsz.mono ?_; rintro e w1 ⟨rfl, rfl⟩)
          go_ret2
          exact ⟨by rw [HR.out]; rfl, rfl⟩
end Go.Proofs.Ytphbjbigjpfjfaa

/-
  A text, code point by code point; the contracts of Len, skip and Points.
-/
namespace Go.Proofs.Ytphbjbigjpfjfaa
open Go.ChangeShapes Go.WideShapes Go.ChangeAt Go.RowKit Go.PlainAid

theorem Try.info3 : (Try.prog.info? 3).map (fun i => (i.zero, i.size, i.bytes)) = some (some (.int .i64 0), 1, 8) := by kernel_rfl

/-- The place behind so many code points. -/
def pos (s : ByteArray) : Nat → Nat
  | 0 => 0
  | k + 1 => pos s k + (nx s (pos s k)).2.toNat
/-- Code point number k. -/
def pt (s : ByteArray) (k : Nat) : Int := (nx s (pos s k)).1
/-- The first k code points. -/
def ptL (s : ByteArray) (k : Nat) : List Int := (List.range k).map (pt s)
/-- There are k code points at the beginning. -/
def Ok (s : ByteArray) (k : Nat) : Prop := ∀ j, j < k → pos s j < s.size ∧ (nx s (pos s j)).2 ≠ 0
/-- The text is n code points. -/
def Valid (s : ByteArray) (n : Nat) : Prop := Ok s n ∧ pos s n = s.size
/-- Behind k code points there is none, but something. -/
def Bad (s : ByteArray) (k : Nat) : Prop := Ok s k ∧ pos s k < s.size ∧ (nx s (pos s k)).2 = 0

theorem nx_bd (s : ByteArray) (a : Nat) (h : (nx s a).2 ≠ 0) : 1 ≤ (nx s a).2 ∧ (nx s a).2 ≤ 4 ∧ (a : Int) + (nx s a).2 ≤ s.size ∧ szI (nx s a).1 = (nx s a).2 := by
  have hb := fstB_bd (bt s a) (bt_nonneg s a) (bt_le s a)
  unfold nx at h ⊢
  split at h
  · simp at h
  · rename_i h1
    rw [if_neg h1]
    split at h
    · simp at h
    · rename_i v hv
      split at h
      · rename_i h2
        rw [if_pos h2]
        simp only at h ⊢
        omega
      · simp at h

theorem nx_zero (s : ByteArray) (a : Nat) : 0 ≤ (nx s a).2 := by
  by_cases h : (nx s a).2 = 0
  · omega
  · have := nx_bd s a h; omega

theorem pos_succ {s : ByteArray} {k : Nat} (h : (nx s (pos s k)).2 ≠ 0) : ((pos s (k + 1) : Nat) : Int) = (pos s k : Int) + (nx s (pos s k)).2 := by
  have := nx_bd s _ h
  rw [pos]; omega

theorem pos_le {s : ByteArray} {n : Nat} (h : Ok s n) : ∀ k, k ≤ n → k ≤ pos s k ∧ pos s k ≤ s.size
  | 0, _ => by simp [pos]
  | k + 1, hk => by
    have ih := pos_le h k (by omega)
    have h1 := (h k (by omega)).2
    have h2 := nx_bd s _ h1
    have h3 := pos_succ h1
    omega

theorem ok_mono {s : ByteArray} {n k : Nat} (h : Ok s n) (hk : k ≤ n) : Ok s k := fun j hj => h j (by omega)

theorem valid_lt {s : ByteArray} {n k : Nat} (h : Valid s n) (hk : k < n) : pos s k < s.size := (h.1 k hk).1

theorem valid_or_bad (s : ByteArray) : (∃ n, Valid s n) ∨ ∃ k, Bad s k := by
  have step : ∀ f k, Ok s k → s.size - pos s k ≤ f → (∃ n, Valid s n) ∨ ∃ k, Bad s k := by
    intro f
    induction f with
    | zero =>
      intro k hk hf
      have := pos_le hk k (Nat.le_refl _)
      exact .inl ⟨k, hk, by omega⟩
    | succ f ih =>
      intro k hk hf
      have hp := pos_le hk k (Nat.le_refl _)
      by_cases h1 : pos s k = s.size
      · exact .inl ⟨k, hk, h1⟩
      · by_cases h2 : (nx s (pos s k)).2 = 0
        · exact .inr ⟨k, hk, by omega, h2⟩
        · have h3 := nx_bd s _ h2
          have h4 := pos_succ h2
          refine ih (k + 1) (fun j hj => ?_) (by omega)
          by_cases e : j = k
          · subst e; exact ⟨by omega, h2⟩
          · exact hk j (by omega)
  exact step s.size 0 (fun j hj => by omega) (by simp [pos])

theorem not_both {s : ByteArray} {n k : Nat} (h : Valid s n) (hb : Bad s k) : False := by
  rcases Nat.lt_trichotomy k n with h1 | h1 | h1
  · exact (h.1 k h1).2 hb.2.2
  · subst h1; have := h.2; have := hb.2.1; omega
  · have := (hb.1 n h1).1; have := h.2; omega

set_option maxRecDepth 20000 in
set_option maxHeartbeats 1000000 in
theorem len_ok (s : ByteArray) (n : Nat) (w : World) (hs : s.size ≤ maxLen) (hv : Valid s n) :
    Calls Try.prog 38 #[.string s] w fun e w' => e = .returned (.int .i64 (n : Int)) ∧ w = w' := by
  have hs' := hs
  unfold maxLen at hs
  have hnp := pos_le hv.1 n (Nat.le_refl _)
  go_enter Try.func38, Try.ntmps38
  go_wp2
  go_loop [3, 4] (fun c t => ∃ k : Nat, k ≤ n ∧ c = .int .i64 (k : Int) ∧ t = .int .i64 (pos s k : Int)) (fun c _ => n - (intOf c).toNat)
  case atStart => exact ⟨0, by omega, rfl, rfl⟩
  case round =>
    obtain ⟨k, hk, rfl, rfl⟩ := hrel
    by_cases hlt : k < n
    · have h1 := hv.1 k hlt
      have h2 := nx_bd s _ h1.2
      have HP : Hid (((pos s (k + 1) : Nat) : Int) = (pos s k : Int) + (nx s (pos s k)).2) := pos_succ h1.2
      have hc := next_any s (pos s k) w hs' h1.1
      have hlt2 := h1.1
      have hne : ((nx s (pos s k)).2 == 0) = false := by simpa using h1.2
      clear h1
      generalize pos s k = a at *
      generalize nx s a = r at *
      obtain ⟨r1, r2⟩ := r
      simp only at hc h2 HP hne
      go_wp2_with (go_at_call 57; refine hc.mono ?_; rintro e w1 ⟨rfl, rfl⟩)
      go_round
      case rel => exact ⟨k + 1, by omega, by go_num, by rw [HP.out]⟩
      case measure => simp [intOf]; omega
    · have e : k = n := by omega
      subst e
      have e2 : ¬ (pos s k : Int) < (s.size : Int) := by rw [hv.2]; omega
      go_wp2
      go_ret
      exact ⟨rfl, rfl⟩

set_option maxRecDepth 20000 in
set_option maxHeartbeats 1000000 in
theorem len_bad (s : ByteArray) (n : Nat) (w : World) (hs : s.size ≤ maxLen) (hv : Bad s n) :
    Calls Try.prog 38 #[.string s] w fun e w' => e = .returned (.int .i64 (-1)) ∧ w = w' := by
  have hs' := hs
  unfold maxLen at hs
  have hnp := pos_le hv.1 n (Nat.le_refl _)
  go_enter Try.func38, Try.ntmps38
  go_wp2
  go_loop [3, 4] (fun c t => ∃ k : Nat, k ≤ n ∧ c = .int .i64 (k : Int) ∧ t = .int .i64 (pos s k : Int)) (fun c _ => n + 1 - (intOf c).toNat)
  case atStart => exact ⟨0, by omega, rfl, rfl⟩
  case round =>
    obtain ⟨k, hk, rfl, rfl⟩ := hrel
    by_cases hlt : k < n
    · have h1 := hv.1 k hlt
      have h2 := nx_bd s _ h1.2
      have HP : Hid (((pos s (k + 1) : Nat) : Int) = (pos s k : Int) + (nx s (pos s k)).2) := pos_succ h1.2
      have hc := next_any s (pos s k) w hs' h1.1
      have hlt2 := h1.1
      have hne : ((nx s (pos s k)).2 == 0) = false := by simpa using h1.2
      clear h1
      generalize pos s k = a at *
      generalize nx s a = r at *
      obtain ⟨r1, r2⟩ := r
      simp only at hc h2 HP hne
      go_wp2_with (go_at_call 57; refine hc.mono ?_; rintro e w1 ⟨rfl, rfl⟩)
      go_round
      case rel => exact ⟨k + 1, by omega, by go_num, by rw [HP.out]⟩
      case measure => simp [intOf]; omega
    · have e : k = n := by omega
      subst e
      obtain ⟨_, hlt2, hz⟩ := hv
      have hc := next_any s (pos s k) w hs' hlt2
      rw [hz] at hc
      go_wp2_with (go_at_call 57; refine hc.mono ?_; rintro e w1 ⟨rfl, rfl⟩)
      go_ret
      exact ⟨rfl, rfl⟩

/-- Numbers as the cells of a row. -/
def iv (l : List Int) : List Value := l.map (Value.int .i64)
theorem iv_length (l : List Int) : (iv l).length = l.length := by simp [iv]
theorem iv_append (a b : List Int) : iv (a ++ b) = iv a ++ iv b := by simp [iv]
theorem ptL_length (s : ByteArray) (k : Nat) : (ptL s k).length = k := by simp [ptL]
theorem ptL_succ (s : ByteArray) (k : Nat) : ptL s (k + 1) = ptL s k ++ [pt s k] := by simp [ptL, List.range_succ]

theorem own_snocI {w1 : World} {base e n : Nat} {v' : Value} {L : List Int} {x : Int} (h : w1.ownsRow base e 1 v' (n + 1) (iv L ++ [.int .i64 x])) :
    w1.ownsRow base e 1 v' (n + 1) (iv (L ++ [x])) := by
  rw [iv_append]
  simpa [iv] using h

theorem points_bad (s : ByteArray) (n : Nat) (w : World) (hs : s.size ≤ maxLen) (hv : Bad s n) :
    Calls Try.prog 41 #[.string s] w fun e w' => e = .returned (.tuple #[.slice none 0 0, .bool false]) ∧ w = w' := by
  have hc := len_bad s n w hs hv
  go_enter Try.func41, Try.ntmps41
  go_wp2_with (go_at_call 38; refine hc.mono ?_; rintro e w1 ⟨rfl, rfl⟩)
  go_ret2
  exact ⟨rfl, rfl⟩

set_option maxRecDepth 20000 in
set_option maxHeartbeats 2000000 in
theorem points_ok (s : ByteArray) (n : Nat) (w : World) (hs : s.size ≤ 8796093022208) (hv : Valid s n) :
    Calls Try.prog 41 #[.string s] w fun e w' => ∃ v, e = .returned (.tuple #[v, .bool true]) ∧ w'.ownsRow w.heap.size 3 1 v n (iv (ptL s n)) ∧ Below w.heap.size w w' := by
  have hs' : s.size ≤ maxLen := by unfold maxLen; omega
  have hnp := pos_le hv.1 n (Nat.le_refl _)
  obtain ⟨i0, hi, hz0, hz1, hz2⟩ := info_parts Try.info3
  have hcl := len_ok s n w hs' hv
  go_enter Try.func41, Try.ntmps41
  go_wp2_with (first | (go_at_call 38; refine hcl.mono ?_; rintro e w1 ⟨rfl, rfl⟩) | (refine wpList_make_own _ rfl _ (.tmp 13) 64 rfl w.heap.size 3 i0 (.int .i64 0) 1 Try.underlying64 hi hz0 hz1 .i64 .i64 (n : Int) n rfl rfl rfl (by rw [hz2]; omega) (by unfold maxLen; omega) (Nat.le_refl _) ?_; intro w2 ho2 hg2))
  have hb2 : Below w.heap.size w w2 := ⟨hg2.os, hg2.tape, hg2.output, hg2.size, fun k hk => hg2.block k hk (by simp)⟩
  clear hcl hg2
  go_loopw [5, 6] (fun v t wr => ∃ k : Nat, k ≤ n ∧ t = .int .i64 (pos s k : Int) ∧ wr.ownsRow w.heap.size 3 1 v k (iv (ptL s k)) ∧ Below w.heap.size w wr) (fun _ t _ => s.size - (intOf t).toNat)
  case atStart => exact ⟨0, by omega, rfl, ho2, hb2⟩
  case round =>
    obtain ⟨k, hk, rfl, hown, hbl⟩ := hrel
    have hsz := hbl.size
    by_cases hlt : k < n
    · have h1 := hv.1 k hlt
      have h2 := nx_bd s _ h1.2
      have HP : Hid (((pos s (k + 1) : Nat) : Int) = (pos s k : Int) + (nx s (pos s k)).2 ∧ ptL s (k + 1) = ptL s k ++ [(nx s (pos s k)).1]) := ⟨pos_succ h1.2, ptL_succ s k⟩
      have hc := next_any s (pos s k) wr hs' h1.1
      have hlt2 := h1.1
      clear h1 ho2
      generalize pos s k = a at *
      generalize nx s a = r at *
      obtain ⟨r1, r2⟩ := r
      simp only at hc h2 HP
      go_wp2_with (first | (go_at_call 57; refine hc.mono ?_; rintro e w1 ⟨rfl, rfl⟩) | (at_builtin; refine wpList_append_own _ rfl (.tmp 25) (.tmp 27) 64 rfl w.heap.size 3 i0 (.int .i64 0) 1 8 Try.underlying64 hi hz0 hz1 hz2 rfl (by decide) _ _ _ rfl (hown.alloc _) ⟨_, 0, none⟩ 1 1 [.int .i64 r1] rfl rfl (one_new _ _ _) (one_one _ rfl) (by unfold maxLen; omega) (by omega) (by simp; omega) ?_; intro v' w3 ho3 hg3 hnil3))
      have R1 := own_snocI ho3
      have R2 := below_app (Nat.le_refl _) hbl hown hg3
      rw [← HP.out.2] at R1
      clear ho3 hg3 hown hnil3 hc
      go_roundw
      case rel => exact ⟨k + 1, by omega, by rw [HP.out.1], R1, R2⟩
      case measure => simp [intOf]; omega
    · have e : k = n := by omega
      subst e
      have e2 : ¬ (pos s k : Int) < (s.size : Int) := by rw [hv.2]; omega
      clear ho2
      go_wp2
      go_ret2
      exact ⟨_, rfl, hown, hbl⟩
end Go.Proofs.Ytphbjbigjpfjfaa

/-
  The bytes of code points; the contracts of appendPoint and Text.
-/
namespace Go.Proofs.Ytphbjbigjpfjfaa
open Go.ChangeShapes Go.WideShapes Go.ChangeAt Go.RowKit Go.PlainAid

theorem Try.info5 : (Try.prog.info? 5).map (fun i => (i.zero, i.size, i.bytes)) = some (some (.int .u8 0), 1, 1) := by kernel_rfl

/-- The bytes of a code point. -/
def ptB (n : Nat) : List UInt8 :=
  if n < 128 then [UInt8.ofNat n]
  else if n < 2048 then [UInt8.ofNat (192 + n / 64), UInt8.ofNat (128 + n % 64)]
  else if n < 65536 then [UInt8.ofNat (224 + n / 4096), UInt8.ofNat (128 + n / 64 % 64), UInt8.ofNat (128 + n % 64)]
  else [UInt8.ofNat (240 + n / 262144), UInt8.ofNat (128 + n / 4096 % 64), UInt8.ofNat (128 + n / 64 % 64), UInt8.ofNat (128 + n % 64)]

theorem ptB1 {n : Nat} (h : n < 128) : ptB n = [UInt8.ofNat n] := by rw [ptB, if_pos h]
theorem ptB2 {n : Nat} (h1 : 128 ≤ n) (h : n < 2048) : ptB n = [UInt8.ofNat (192 + n / 64), UInt8.ofNat (128 + n % 64)] := by rw [ptB, if_neg (by omega), if_pos h]
theorem ptB3 {n : Nat} (h1 : 2048 ≤ n) (h : n < 65536) : ptB n = [UInt8.ofNat (224 + n / 4096), UInt8.ofNat (128 + n / 64 % 64), UInt8.ofNat (128 + n % 64)] := by rw [ptB, if_neg (by omega), if_neg (by omega), if_pos h]
theorem ptB4 {n : Nat} (h1 : 65536 ≤ n) : ptB n = [UInt8.ofNat (240 + n / 262144), UInt8.ofNat (128 + n / 4096 % 64), UInt8.ofNat (128 + n / 64 % 64), UInt8.ofNat (128 + n % 64)] := by rw [ptB, if_neg (by omega), if_neg (by omega), if_neg (by omega)]

theorem ptB_len (n : Nat) : 1 ≤ (ptB n).length ∧ (ptB n).length ≤ 4 := by
  unfold ptB; split; · simp
  split; · simp
  split <;> simp

theorem bv_one {x : Nat} {y : Int} (h : x < 256) (e : (x : Int) = y) : Value.int .u8 ((UInt8.ofNat x).toNat : Int) = .int .u8 y := by rw [byte_nat x h, e]

theorem many_new (wr : World) (l : List Value) (e : Nat) : ∀ j u, l[j]? = some u → (wr.alloc (.cells l.toArray e)).cell? ((⟨wr.heap.size, 0, none⟩ : Addr).add j) = some u := by
  intro j u hj
  have hadd : (⟨wr.heap.size, 0, none⟩ : Addr).add j = ⟨wr.heap.size, j, none⟩ := by unfold Addr.add; split <;> simp_all
  rw [hadd, cell_of_row _ _ j l.toArray e (0, 0) (heap_alloc_new wr _)]
  simpa using hj

theorem many_one (l : List Int) : ∀ u ∈ l.map (Value.int .u8), u.oneCell' = true := by
  intro u hu
  simp only [List.mem_map] at hu
  obtain ⟨x, _, rfl⟩ := hu
  rfl

theorem own_more {w1 : World} {base e n m : Nat} {v' : Value} {L M : List UInt8} {xs : List Value} (h : w1.ownsRow base e 1 v' (n + m) (bv L ++ xs)) (hn : L.length = n) (hm : M.length = m) (hx : bv M = xs) :
    w1.ownsRow base e 1 v' (L ++ M).length (bv (L ++ M)) := by
  subst hx; subst hn; subst hm
  rw [bv_append, List.length_append]
  exact h

set_option maxRecDepth 20000 in
set_option maxHeartbeats 2000000 in
theorem appendPoint_any (base : Nat) (v : Value) (l : List UInt8) (n : Nat) (w : World) (hb : base ≤ w.heap.size) (hok : szI (n : Int) ≠ 0) (hl : l.length ≤ 70368744177664) (hown : w.ownsRow base 5 1 v l.length (bv l)) :
    Calls Try.prog 60 #[v, .int .i64 (n : Int)] w fun e w' => ∃ v', e = .returned v' ∧ w'.ownsRow base 5 1 v' (l ++ ptB n).length (bv (l ++ ptB n)) ∧ Below base w w' := by
  obtain ⟨i0, hi, hz0, hz1, hz2⟩ := info_parts Try.info5
  have hr : ¬ ((n : Int) < 0 ∨ 1114111 < (n : Int) ∨ (55296 ≤ (n : Int) ∧ (n : Int) ≤ 57343)) := fun h => hok (by rw [szI, if_pos h])
  have hsz := sizeOf_any (n : Int)
  have a0 := u8_and63 (x := (n : Int) % 256) (by omega) (by omega)
  have a1 := u8_and63 (x := (n : Int) / 64 % 256) (by omega) (by omega)
  have a2 := u8_and63 (x := (n : Int) / 4096 % 256) (by omega) (by omega)
  rw [show (n : Int) % 256 % 64 = (n : Int) % 64 by omega] at a0
  rw [show (n : Int) / 64 % 256 % 64 = (n : Int) / 64 % 64 by omega] at a1
  rw [show (n : Int) / 4096 % 256 % 64 = (n : Int) / 4096 % 64 by omega] at a2
  have o0 := u8_or128 (y := (n : Int) % 64) (by omega) (by omega)
  have o1 := u8_or128 (y := (n : Int) / 64 % 64) (by omega) (by omega)
  have o2 := u8_or128 (y := (n : Int) / 4096 % 64) (by omega) (by omega)
  by_cases c1 : (n : Int) < 128
  · have e : szI (n : Int) = 1 := by rw [szI, if_neg hr, if_pos c1]
    rw [e] at hsz
    clear e hok
    go_enter Try.func60, Try.ntmps60
    go_wp2_with (first | (go_at_call 59; refine (hsz _).mono ?_; rintro e w1 ⟨rfl, rfl⟩) | (at_builtin; refine wpList_append_own _ rfl (.tmp 9) (.tmp 12) 93 rfl base 5 i0 (.int .u8 0) 1 1 Try.underlying93 hi hz0 hz1 hz2 rfl (by decide) _ _ _ rfl (hown.alloc _) ⟨_, 0, none⟩ 1 1 [.int .u8 (n : Int)] rfl rfl (one_new _ _ _) (one_one _ rfl) (by unfold maxLen; omega) (by omega) (by simp; omega) ?_; intro v' w3 ho3 hg3 hnil3) | go_in)
    have R2 := below_app hb (Below.refl _ _) hown hg3
    go_ret
    exact ⟨_, rfl, own_more ho3 rfl (by rw [ptB1 (by omega)]; rfl) (by rw [ptB1 (by omega)]; simp only [bv, List.map_cons, List.map_nil]; rw [bv_one (by omega) rfl]), R2⟩
  · by_cases c2 : (n : Int) < 2048
    · have e : szI (n : Int) = 2 := by rw [szI, if_neg hr, if_neg c1, if_pos c2]
      rw [e] at hsz
      have q0 := u8_or192 (y := (n : Int) / 64) (by omega) (by omega)
      clear e hok
      go_enter Try.func60, Try.ntmps60
      go_wp2_with (first | (go_at_call 59; refine (hsz _).mono ?_; rintro e w1 ⟨rfl, rfl⟩) | (at_builtin; refine wpList_append_own _ rfl (.tmp 16) (.tmp 23) 93 rfl base 5 i0 (.int .u8 0) 1 1 Try.underlying93 hi hz0 hz1 hz2 rfl (by decide) _ _ _ rfl (hown.alloc _) ⟨_, 0, none⟩ 2 2 [.int .u8 (192 + (n : Int) / 64), .int .u8 (128 + (n : Int) % 64)] rfl rfl (many_new _ _ _) (many_one [_, _]) (by unfold maxLen; omega) (by omega) (by simp; omega) ?_; intro v' w3 ho3 hg3 hnil3) | go_in)
      have R2 := below_app hb (Below.refl _ _) hown hg3
      go_ret
      exact ⟨_, rfl, own_more ho3 rfl (by rw [ptB2 (by omega) (by omega)]; rfl) (by rw [ptB2 (by omega) (by omega)]; simp only [bv, List.map_cons, List.map_nil]; rw [bv_one (y := 192 + (n : Int) / 64) (by omega) (by omega), bv_one (y := 128 + (n : Int) % 64) (by omega) (by omega)]), R2⟩
    · by_cases c3 : (n : Int) < 65536
      · have e : szI (n : Int) = 3 := by rw [szI, if_neg hr, if_neg c1, if_neg c2, if_pos c3]
        rw [e] at hsz
        have q0 := u8_or224 (y := (n : Int) / 4096) (by omega) (by omega)
        clear e hok
        go_enter Try.func60, Try.ntmps60
        go_wp2_with (first | (go_at_call 59; refine (hsz _).mono ?_; rintro e w1 ⟨rfl, rfl⟩) | (at_builtin; refine wpList_append_own _ rfl (.tmp 27) (.tmp 36) 93 rfl base 5 i0 (.int .u8 0) 1 1 Try.underlying93 hi hz0 hz1 hz2 rfl (by decide) _ _ _ rfl (hown.alloc _) ⟨_, 0, none⟩ 3 3 [.int .u8 (224 + (n : Int) / 4096), .int .u8 (128 + (n : Int) / 64 % 64), .int .u8 (128 + (n : Int) % 64)] rfl rfl (many_new _ _ _) (many_one [_, _, _]) (by unfold maxLen; omega) (by omega) (by simp; omega) ?_; intro v' w3 ho3 hg3 hnil3) | go_in)
        have R2 := below_app hb (Below.refl _ _) hown hg3
        go_ret
        exact ⟨_, rfl, own_more ho3 rfl (by rw [ptB3 (by omega) (by omega)]; rfl) (by rw [ptB3 (by omega) (by omega)]; simp only [bv, List.map_cons, List.map_nil]; rw [bv_one (y := 224 + (n : Int) / 4096) (by omega) (by omega), bv_one (y := 128 + (n : Int) / 64 % 64) (by omega) (by omega), bv_one (y := 128 + (n : Int) % 64) (by omega) (by omega)]), R2⟩
      · have e : szI (n : Int) = 4 := by rw [szI, if_neg hr, if_neg c1, if_neg c2, if_neg c3]
        rw [e] at hsz
        have q0 := u8_or240 (y := (n : Int) / 262144) (by omega) (by omega)
        clear e hok
        go_enter Try.func60, Try.ntmps60
        go_wp2_with (first | (go_at_call 59; refine (hsz _).mono ?_; rintro e w1 ⟨rfl, rfl⟩) | (at_builtin; refine wpList_append_own _ rfl (.tmp 40) (.tmp 51) 93 rfl base 5 i0 (.int .u8 0) 1 1 Try.underlying93 hi hz0 hz1 hz2 rfl (by decide) _ _ _ rfl (hown.alloc _) ⟨_, 0, none⟩ 4 4 [.int .u8 (240 + (n : Int) / 262144), .int .u8 (128 + (n : Int) / 4096 % 64), .int .u8 (128 + (n : Int) / 64 % 64), .int .u8 (128 + (n : Int) % 64)] rfl rfl (many_new _ _ _) (many_one [_, _, _, _]) (by unfold maxLen; omega) (by omega) (by simp; omega) ?_; intro v' w3 ho3 hg3 hnil3) | go_in)
        have R2 := below_app hb (Below.refl _ _) hown hg3
        go_ret
        exact ⟨_, rfl, own_more ho3 rfl (by rw [ptB4 (by omega)]; rfl) (by rw [ptB4 (by omega)]; simp only [bv, List.map_cons, List.map_nil]; rw [bv_one (y := 240 + (n : Int) / 262144) (by omega) (by omega), bv_one (y := 128 + (n : Int) / 4096 % 64) (by omega) (by omega), bv_one (y := 128 + (n : Int) / 64 % 64) (by omega) (by omega), bv_one (y := 128 + (n : Int) % 64) (by omega) (by omega)]), R2⟩
end Go.Proofs.Ytphbjbigjpfjfaa

/-
  The contracts of text.Text and the reference's point, bytes and Text.
-/
namespace Go.Proofs.Ytphbjbigjpfjfaa
open Go.ChangeShapes Go.WideShapes Go.ChangeAt Go.RowKit Go.PlainAid

/-- The slice v reads as these numbers. -/
def ReadsI (w : World) (v : Value) (zs : List Int) : Prop :=
  (zs = [] ∧ ∃ ao cp, v = .slice ao 0 cp) ∨ ∃ b off cp, v = .slice (some ⟨b, off, none⟩) zs.length cp ∧ ∀ i, i < zs.length → w.cell? ⟨b, off + i, none⟩ = some (.int .i64 (zs.getD i 0))

theorem readsI_below {w w' : World} {v : Value} {zs : List Int} (h : ReadsI w v zs) (hb : Below w.heap.size w w') : ReadsI w' v zs := by
  rcases h with h | ⟨b, off, cp, rfl, h⟩
  · exact .inl h
  · exact .inr ⟨b, off, cp, rfl, fun i hi => (hb.cell (World.block_lt_of_cell? w _ (h i hi))).trans (h i hi)⟩

theorem readsI_own {w : World} {base : Nat} {v : Value} {zs : List Int} (h : w.ownsRow base 3 1 v zs.length (iv zs)) : ReadsI w v zs := by
  rcases h.2 with ⟨rfl, h0⟩ | ⟨g, cap, cur, rfl, _⟩
  · exact .inl ⟨List.eq_nil_of_length_eq_zero h0, _, _, rfl⟩
  · refine .inr ⟨g, 0, cap, rfl, fun i hi => ?_⟩
    have := h.cells (g := g) rfl i (.int .i64 (zs.getD i 0)) (by simp [iv, hi])
    have hadd : (⟨g, 0, none⟩ : Addr).add i = ⟨g, 0 + i, none⟩ := by unfold Addr.add; split <;> simp_all
    rw [hadd] at this
    exact this

theorem readsI_at {w : World} {v : Value} {zs : List Int} (h : ReadsI w v zs) : ∃ ao cp, v = .slice ao zs.length cp ∧ (0 < zs.length → ∃ b off, ao = some ⟨b, off, none⟩ ∧ ∀ i, i < zs.length → w.cell? ⟨b, off + i, none⟩ = some (.int .i64 (zs.getD i 0))) := by
  rcases h with ⟨rfl, ao, cp, rfl⟩ | ⟨b, off, cp, rfl, h⟩
  · exact ⟨ao, cp, rfl, fun h => by simp at h⟩
  · exact ⟨_, cp, rfl, fun _ => ⟨b, off, rfl, h⟩⟩

/-- The bytes of numbers. -/
def enc (zs : List Int) : List UInt8 := (zs.map (fun z => ptB z.toNat)).flatten
theorem enc_nil : enc [] = [] := rfl
theorem enc_append (a b : List Int) : enc (a ++ b) = enc a ++ enc b := by simp [enc]
theorem enc_one (z : Int) : enc [z] = ptB z.toNat := by simp [enc]
theorem enc_len (zs : List Int) : (enc zs).length ≤ 4 * zs.length := by
  induction zs with
  | nil => simp [enc]
  | cons z zs ih =>
    have h := ptB_len z.toNat
    have e : enc (z :: zs) = ptB z.toNat ++ enc zs := by simp [enc]
    rw [e, List.length_append, List.length_cons]
    omega
theorem take_snocI (zs : List Int) (k : Nat) (h : k < zs.length) : zs.take (k + 1) = zs.take k ++ [zs.getD k 0] := by
  rw [List.take_succ_eq_append_getElem h]; simp [h]
theorem enc_succ (zs : List Int) (k : Nat) (h : k < zs.length) : enc (zs.take (k + 1)) = enc (zs.take k) ++ ptB (zs.getD k 0).toNat := by
  rw [take_snocI zs k h, enc_append, enc_one]
theorem enc_take_len (zs : List Int) (k : Nat) : (enc (zs.take k)).length ≤ 4 * zs.length := by
  have h1 := enc_len (zs.take k)
  have h2 : (zs.take k).length ≤ zs.length := List.length_take_le' ..
  omega

/-- What making a text of numbers gives. -/
def textR (zs : List Int) : ByteArray × Bool := if ∀ z ∈ zs, szI z ≠ 0 then (mk (enc zs), true) else (⟨#[]⟩, false)

theorem szI_nonneg {z : Int} (h : szI z ≠ 0) : 0 ≤ z ∧ z ≤ 1114111 ∧ ¬ (55296 ≤ z ∧ z ≤ 57343) := by
  by_cases hc : z < 0 ∨ 1114111 < z ∨ (55296 ≤ z ∧ z ≤ 57343)
  · exact absurd (by rw [szI, if_pos hc]) h
  · omega

set_option maxRecDepth 20000 in
set_option maxHeartbeats 2000000 in
theorem text_any (v : Value) (zs : List Int) (w : World) (hm : zs.length ≤ 17592186044416) (hr : ReadsI w v zs) :
    Calls Try.prog 42 #[v] w fun e w' => e = .returned (.tuple #[.string (textR zs).1, .bool (textR zs).2]) ∧ Below w.heap.size w w' := by
  obtain ⟨i0, hi, hz0, hz1, hz2⟩ := info_parts Try.info5
  obtain ⟨ao, cp, rfl, hao⟩ := readsI_at hr
  clear hr
  go_enter Try.func42, Try.ntmps42
  go_wp2_with (refine wpList_make_own _ rfl _ (.tmp 8) 93 rfl w.heap.size 5 i0 (.int .u8 0) 1 Try.underlying93 hi hz0 hz1 .i64 .i64 (zs.length : Int) zs.length rfl rfl rfl (by rw [hz2]; omega) (by unfold maxLen; omega) (Nat.le_refl _) ?_; intro w2 ho2 hg2)
  have hb2 : Below w.heap.size w w2 := ⟨hg2.os, hg2.tape, hg2.output, hg2.size, fun k hk => hg2.block k hk (by simp)⟩
  clear hg2
  go_loopw [4, 12] (fun t i wr => ∃ k : Nat, k ≤ zs.length ∧ i = .int .i64 (k : Int) ∧ wr.ownsRow w.heap.size 5 1 t (enc (zs.take k)).length (bv (enc (zs.take k))) ∧ Below w.heap.size w wr ∧ Hid (∀ j, j < k → szI (zs.getD j 0) ≠ 0)) (fun _ i _ => zs.length - (intOf i).toNat)
  case atStart => exact ⟨0, by omega, rfl, ho2, hb2, fun j hj => by omega⟩
  case round =>
    obtain ⟨k, hk, rfl, hown, hbl, hall⟩ := hrel
    clear ho2
    by_cases hlt : k < zs.length
    · obtain ⟨b, off, rfl, hcell⟩ := hao (by omega)
      have g1 := hcell k hlt
      have c1 := (hbl.cell (World.block_lt_of_cell? w _ g1)).trans g1
      have HX : Hid (zs.getD k 0 ∈ zs) := by
        show _ ∈ _
        simp [hlt]
      have HK : Hid (∀ j, j < k + 1 → szI (zs.getD k 0) ≠ 0 → szI (zs.getD j 0) ≠ 0) := fun j hj hx => by
        by_cases e : j = k
        · subst e; exact hx
        · exact hall.out j (by omega)
      have HP : Hid (enc (zs.take (k + 1)) = enc (zs.take k) ++ ptB (zs.getD k 0).toNat) := enc_succ zs k hlt
      have hel := enc_take_len zs k
      clear hcell g1 hao
      generalize zs.getD k 0 = z at c1 HX HK HP
      have hsz := sizeOf_any z
      by_cases hok : szI z = 0
      · have HR : Hid (textR zs = (⟨#[]⟩, false)) := by
          show _ = _
          rw [textR, if_neg (fun h => h z HX.out hok)]
        rw [hok] at hsz
        clear HK HX HP
        go_wp2_with (go_at_call 59; refine (hsz _).mono ?_; rintro e w1 ⟨rfl, rfl⟩)
        go_ret2
        exact ⟨by rw [HR.out]; rfl, hbl⟩
      · have hz := szI_nonneg hok
        have hne : (szI z == 0) = false := by simpa using hok
        obtain ⟨n, rfl⟩ := Int.eq_ofNat_of_zero_le hz.1
        have hc := appendPoint_any w.heap.size _ (enc (zs.take k)) n wr hbl.size hok (by omega) hown
        simp only [Int.toNat_natCast] at HP
        go_wp2_with (first | (go_at_call 59; refine (hsz _).mono ?_; rintro e w1 ⟨rfl, rfl⟩) | (go_at_call 60; refine hc.mono ?_; rintro e w3 ⟨v3, rfl, ho3, hb3⟩))
        rw [← HP.out] at ho3
        clear hc hown
        go_roundw
        case rel => exact ⟨k + 1, by omega, by go_num, ho3, hbl.trans hb3, fun j hj => HK.out j hj hok⟩
        case measure => simp [intOf]; omega
    · have hall' : ∀ z ∈ zs, szI z ≠ 0 := fun z hz => by
        obtain ⟨j, hj, rfl⟩ := List.getElem_of_mem hz
        have := hall.out j (by omega)
        simpa [hj] using this
      have HR : Hid (textR zs = (mk (enc zs), true)) := by
        show _ = _
        rw [textR, if_pos hall']
      have hq' : k = zs.length := by omega
      subst hq'
      rw [List.take_length] at hown
      have hc := conv_own (dst := 9) Try.underlying93 Try.underlying5 Try.underlying9 hown
      clear hall' hall hown hao
      go_wp2
      go_ret2
      exact ⟨by rw [HR.out]; rfl, hbl⟩

set_option maxRecDepth 20000 in
set_option maxHeartbeats 1000000 in
theorem refPoint_any (z : Int) (w : World) : Calls Try.prog 64 #[.int .i64 z] w fun e w' => e = .returned (.bool (decide (szI z ≠ 0))) ∧ w = w' := by
  by_cases c1 : z < 0
  · have e : decide (szI z ≠ 0) = false := by simp [szI, c1]
    rw [e]
    go_enter Try.func64, Try.ntmps64
    go_wp2
    go_ret
    exact ⟨rfl, rfl⟩
  · by_cases c2 : 1114111 < z
    · have e : decide (szI z ≠ 0) = false := by simp [szI, c2]
      rw [e]
      go_enter Try.func64, Try.ntmps64
      go_wp2
      go_ret
      exact ⟨rfl, rfl⟩
    · by_cases c3 : z < 55296
      · have e : decide (szI z ≠ 0) = true := by
          simp only [decide_eq_true_eq]
          rw [szI, if_neg (by omega)]
          split; · omega
          split; · omega
          split <;> omega
        rw [e]
        go_enter Try.func64, Try.ntmps64
        go_wp2
        go_ret
        exact ⟨rfl, rfl⟩
      · by_cases c4 : 57343 < z
        · have e : decide (szI z ≠ 0) = true := by
            simp only [decide_eq_true_eq]
            rw [szI, if_neg (by omega)]
            split; · omega
            split; · omega
            split <;> omega
          rw [e]
          go_enter Try.func64, Try.ntmps64
          go_wp2
          go_ret
          exact ⟨rfl, rfl⟩
        · have e : decide (szI z ≠ 0) = false := by
            have : szI z = 0 := by rw [szI, if_pos (by omega)]
            simp [this]
          rw [e]
          go_enter Try.func64, Try.ntmps64
          go_wp2
          go_ret
          exact ⟨rfl, rfl⟩

theorem conv_lit (F : List UInt8) (xs : List Value) (k : Nat) (hk : F.length = k) (hx : bv F = xs) (u : World) :
    (convert 93 9 (.slice (some ⟨u.heap.size, 0, none⟩) k k)).run Try.prog (u.alloc (.cells xs.toArray 5)) = .ok (.string (mk F)) (u.alloc (.cells xs.toArray 5)) := by
  subst hk
  exact run_convert_bytes_back _ 93 9 5 ⟨u.heap.size, 0, none⟩ F.length F Try.underlying93 Try.underlying5 Try.underlying9 (fun j hj => many_new u xs 5 j _ (by rw [← hx]; simp [bv, hj]))

set_option maxRecDepth 20000 in
set_option maxHeartbeats 1000000 in
theorem refBytes_any (n : Nat) (w : World) (hn : n ≤ 1114111) :
    Calls Try.prog 65 #[.int .i64 (n : Int)] w fun e w' => e = .returned (.string (mk (ptB n))) ∧ Below w.heap.size w w' := by
  have hn' : (n : Int) ≤ 1114111 := by omega
  by_cases c1 : (n : Int) < 128
  · have hc := conv_lit (ptB n) [.int .u8 (n : Int)] 1 (by rw [ptB1 (by omega)]; rfl) (by rw [ptB1 (by omega)]; simp only [bv, List.map_cons, List.map_nil]; rw [bv_one (by omega) rfl])
    generalize mk (ptB n) = F at hc
    go_enter Try.func65, Try.ntmps65
    go_wp2
    go_ret
    exact ⟨rfl, (Below.refl _ _).alloc (Nat.le_refl _) _⟩
  · by_cases c2 : (n : Int) < 2048
    · have hc := conv_lit (ptB n) [.int .u8 (192 + (n : Int) / 64), .int .u8 (128 + (n : Int) % 64)] 2 (by rw [ptB2 (by omega) (by omega)]; rfl) (by rw [ptB2 (by omega) (by omega)]; simp only [bv, List.map_cons, List.map_nil]; rw [bv_one (y := 192 + (n : Int) / 64) (by omega) (by omega), bv_one (y := 128 + (n : Int) % 64) (by omega) (by omega)])
      generalize mk (ptB n) = F at hc
      go_enter Try.func65, Try.ntmps65
      go_wp2
      go_ret
      exact ⟨rfl, (Below.refl _ _).alloc (Nat.le_refl _) _⟩
    · by_cases c3 : (n : Int) < 65536
      · have hc := conv_lit (ptB n) [.int .u8 (224 + (n : Int) / 4096), .int .u8 (128 + (n : Int) / 64 % 64), .int .u8 (128 + (n : Int) % 64)] 3 (by rw [ptB3 (by omega) (by omega)]; rfl) (by rw [ptB3 (by omega) (by omega)]; simp only [bv, List.map_cons, List.map_nil]; rw [bv_one (y := 224 + (n : Int) / 4096) (by omega) (by omega), bv_one (y := 128 + (n : Int) / 64 % 64) (by omega) (by omega), bv_one (y := 128 + (n : Int) % 64) (by omega) (by omega)])
        generalize mk (ptB n) = F at hc
        go_enter Try.func65, Try.ntmps65
        go_wp2
        go_ret
        exact ⟨rfl, (Below.refl _ _).alloc (Nat.le_refl _) _⟩
      · have hc := conv_lit (ptB n) [.int .u8 (240 + (n : Int) / 262144), .int .u8 (128 + (n : Int) / 4096 % 64), .int .u8 (128 + (n : Int) / 64 % 64), .int .u8 (128 + (n : Int) % 64)] 4 (by rw [ptB4 (by omega)]; rfl) (by rw [ptB4 (by omega)]; simp only [bv, List.map_cons, List.map_nil]; rw [bv_one (y := 240 + (n : Int) / 262144) (by omega) (by omega), bv_one (y := 128 + (n : Int) / 4096 % 64) (by omega) (by omega), bv_one (y := 128 + (n : Int) / 64 % 64) (by omega) (by omega), bv_one (y := 128 + (n : Int) % 64) (by omega) (by omega)])
        generalize mk (ptB n) = F at hc
        go_enter Try.func65, Try.ntmps65
        go_wp2
        go_ret
        exact ⟨rfl, (Below.refl _ _).alloc (Nat.le_refl _) _⟩

theorem own_text {w1 : World} {base e n : Nat} {v' : Value} {L M : List UInt8} (h : w1.ownsRow base e 1 v' (n + (mk M).size) (bv L ++ Lib.strCells (mk M))) (hn : L.length = n) :
    w1.ownsRow base e 1 v' (L ++ M).length (bv (L ++ M)) := by
  subst hn
  rw [bv_append, List.length_append]
  rw [mk_size] at h
  exact h

theorem below_grown {base : Nat} {w wr w1 : World} {e n : Nat} {v : Value} {xs : List Value} (hb : base ≤ w.heap.size) (hbl : Below base w wr) (hown : wr.ownsRow base e 1 v n xs) (hg : wr.grownBy w1 v.ownBlock) : Below base w w1 :=
  hbl.grown hg (Nat.le_trans hb hbl.size) (fun k hk => (hown.lt k hk).1)
theorem own_below {w w' : World} {base e n : Nat} {v : Value} {L : List Value} (h : w.ownsRow base e 1 v n L) (hb : Below w.heap.size w w') : w'.ownsRow base e 1 v n L :=
  h.kept (row := none) ⟨hb.os, hb.tape, hb.output, hb.size, fun k hk _ => hb.block k hk⟩ (by cases v.ownBlock <;> simp)

set_option maxRecDepth 20000 in
set_option maxHeartbeats 2000000 in
theorem refText_any (v : Value) (zs : List Int) (w : World) (hm : zs.length ≤ 17592186044416) (hr : ReadsI w v zs) :
    Calls Try.prog 46 #[v] w fun e w' => e = .returned (.tuple #[.string (textR zs).1, .bool (textR zs).2]) ∧ Below w.heap.size w w' := by
  obtain ⟨i0, hi, hz0, hz1, hz2⟩ := info_parts Try.info5
  obtain ⟨ao, cp, rfl, hao⟩ := readsI_at hr
  clear hr
  go_enter Try.func46, Try.ntmps46
  go_wp2
  go_loopw [4, 5] (fun t i wr => ∃ k : Nat, k ≤ zs.length ∧ i = .int .i64 (k : Int) ∧ wr.ownsRow w.heap.size 5 1 t (enc (zs.take k)).length (bv (enc (zs.take k))) ∧ Below w.heap.size w wr ∧ Hid (∀ j, j < k → szI (zs.getD j 0) ≠ 0)) (fun _ i _ => zs.length - (intOf i).toNat)
  case atStart => exact ⟨0, by omega, rfl, World.ownsRow_nil _ _ _ _, Below.refl _ _, fun j hj => by omega⟩
  case round =>
    obtain ⟨k, hk, rfl, hown, hbl, hall⟩ := hrel
    by_cases hlt : k < zs.length
    · obtain ⟨b, off, rfl, hcell⟩ := hao (by omega)
      have g1 := hcell k hlt
      have c1 := (hbl.cell (World.block_lt_of_cell? w _ g1)).trans g1
      have HX : Hid (zs.getD k 0 ∈ zs) := by
        show _ ∈ _
        simp [hlt]
      have HK : Hid (∀ j, j < k + 1 → szI (zs.getD k 0) ≠ 0 → szI (zs.getD j 0) ≠ 0) := fun j hj hx => by
        by_cases e : j = k
        · subst e; exact hx
        · exact hall.out j (by omega)
      have HP : Hid (enc (zs.take (k + 1)) = enc (zs.take k) ++ ptB (zs.getD k 0).toNat) := enc_succ zs k hlt
      have hel := enc_take_len zs k
      have hsz := hbl.size
      clear hcell g1 hao
      generalize zs.getD k 0 = z at c1 HX HK HP
      have hpt := refPoint_any z
      by_cases hok : szI z = 0
      · have HR : Hid (textR zs = (⟨#[]⟩, false)) := by
          show _ = _
          rw [textR, if_neg (fun h => h z HX.out hok)]
        rw [show decide (szI z ≠ 0) = false by simp [hok]] at hpt
        clear HK HX HP hok
        go_wp2_with (go_at_call 64; refine (hpt _).mono ?_; rintro e w1 ⟨rfl, rfl⟩)
        go_ret2
        exact ⟨by rw [HR.out]; rfl, hbl⟩
      · have hz := szI_nonneg hok
        rw [show decide (szI z ≠ 0) = true by simp [hok]] at hpt
        obtain ⟨n, rfl⟩ := Int.eq_ofNat_of_zero_le hz.1
        have hc := refBytes_any n wr (by omega)
        have hpl := ptB_len n
        have hmk : (mk (ptB n)).size = (ptB n).length := mk_size _
        simp only [Int.toNat_natCast] at HP
        go_wp2_with (first | (go_at_call 64; refine (hpt _).mono ?_; rintro e w1 ⟨rfl, rfl⟩) | (go_at_call 65; refine hc.mono ?_; rintro e w3 ⟨rfl, hb3⟩; have hs3 := hb3.size; have hown3 := own_below hown hb3) | (at_builtin; refine Lib.wpList_append_own_string _ rfl (.tmp 18) (.tmp 23) 93 9 rfl w.heap.size 5 i0 Try.underlying93 Try.underlying9 hi hz0 hz1 hz2 _ _ _ rfl hown3 (mk (ptB n)) rfl (by rw [hmk]; unfold maxLen; omega) (by rw [hmk]; omega) (by omega) ?_; intro v4 w4 ho4 hg4 hnil4))
        have R1 := own_text ho4 rfl
        have R2 := below_grown (Nat.le_refl _) (hbl.trans (hb3.mono hsz)) hown3 hg4
        rw [← HP.out] at R1
        clear hc hown hown3 ho4 hg4 hnil4
        go_roundw
        case rel => exact ⟨k + 1, by omega, by go_num, R1, R2, fun j hj => HK.out j hj hok⟩
        case measure => simp [intOf]; omega
    · have hall' : ∀ z ∈ zs, szI z ≠ 0 := fun z hz => by
        obtain ⟨j, hj, rfl⟩ := List.getElem_of_mem hz
        have := hall.out j (by omega)
        simpa [hj] using this
      have HR : Hid (textR zs = (mk (enc zs), true)) := by
        show _ = _
        rw [textR, if_pos hall']
      have hq' : k = zs.length := by omega
      subst hq'
      rw [List.take_length] at hown
      have hc := conv_own (dst := 9) Try.underlying93 Try.underlying5 Try.underlying9 hown
      clear hall' hall hown hao
      go_wp2
      go_ret2
      exact ⟨by rw [HR.out]; rfl, hbl⟩
end Go.Proofs.Ytphbjbigjpfjfaa

/-
  Plain: what next gives stands there as its bytes, and the other way round; a text that is valid is the bytes of its code points.
-/
namespace Go.Proofs.Ytphbjbigjpfjfaa
open Go.RowKit Go.PlainAid

theorem szI_eq (n : Nat) (h : szI (n : Int) ≠ 0) : szI (n : Int) = ((ptB n).length : Int) := by
  have hz := szI_nonneg h
  rw [szI, if_neg (by omega)]
  split
  · rw [ptB1 (by omega)]; rfl
  · split
    · rw [ptB2 (by omega) (by omega)]; rfl
    · split
      · rw [ptB3 (by omega) (by omega)]; rfl
      · rw [ptB4 (by omega)]; rfl

theorem nx_pair (s : ByteArray) (a : Nat) (h : (nx s a).2 = 0) : nx s a = (0, 0) := by
  unfold nx at h ⊢
  split
  · rfl
  · rename_i h1
    rw [if_neg h1] at h
    split
    · rfl
    · rename_i v hv
      rw [hv] at h
      simp only at h
      split
      · rename_i h2
        rw [if_pos h2] at h
        simp only at h
        have : szI v = 0 := by omega
        by_cases hz : (fstB (bt s a)).1 = 0 ∧ (fstB (bt s a)).2 = 0
        · rw [hz.1, hz.2] at hv
          simp [nxGo] at hv
          subst hv
          rw [hz.2] at h2
          exact absurd h2 (by decide)
        · exfalso
          have hb0 := bt_nonneg s a
          apply hz
          refine ⟨?_, h⟩
          have h3 := h
          unfold fstB at h3 ⊢
          split at h3
          · simp at h3
          · split at h3
            · simp at h3
            · split at h3
              · simp at h3
              · split at h3
                · simp at h3
                · rename_i c1 c2 c3 c4
                  rw [if_neg c1, if_neg c2, if_neg c3, if_neg c4]
      · rfl

/-- What is there as a code point's bytes is read as it. -/
theorem nx_at {s : ByteArray} {a n : Nat} (hok : szI (n : Int) ≠ 0) (h : At s a (ptB n)) : nx s a = ((n : Int), ((ptB n).length : Int)) := by
  have hz := szI_nonneg hok
  have he := szI_eq n hok
  by_cases c1 : n < 128
  · rw [ptB1 c1] at h he ⊢
    obtain ⟨g1, g2⟩ := at_one.1 h
    rw [ofNat_toNat (by omega)] at g2
    have e : fstB (bt s a) = ((n : Int), 1) := by rw [fstB, if_pos (by omega), g2]
    rw [nx, e]
    simp only
    rw [if_neg (by omega)]
    simp only [nxGo, show (1 : Int).toNat - 1 = 0 from rfl]
    rw [if_pos (by rw [he]; rfl)]
    rfl
  · by_cases c2 : n < 2048
    · rw [ptB2 (by omega) c2] at h he ⊢
      obtain ⟨⟨g1, g2⟩, h1⟩ := at_cons.1 h
      obtain ⟨g3, g4⟩ := at_one.1 h1
      rw [ofNat_toNat (by omega)] at g2 g4
      have e : fstB (bt s a) = (((n / 64 : Nat) : Int), 2) := by
        rw [fstB, if_neg (by omega), if_pos (by omega)]
        refine Prod.ext ?_ rfl
        simp only; omega
      rw [nx, e]
      simp only
      rw [if_neg (by omega)]
      simp only [show (2 : Int).toNat - 1 = 0 + 1 from rfl]
      rw [nxGo, if_pos (by omega), nxGo]
      simp only
      have ev : ((n / 64 : Nat) : Int) * 64 + bt s (a + 1) % 64 = (n : Int) := by omega
      rw [ev, if_pos (by rw [he]; rfl)]
      rfl
    · by_cases c3 : n < 65536
      · rw [ptB3 (by omega) c3] at h he ⊢
        obtain ⟨⟨g1, g2⟩, h1⟩ := at_cons.1 h
        obtain ⟨⟨g3, g4⟩, h2⟩ := at_cons.1 h1
        obtain ⟨g5, g6⟩ := at_one.1 h2
        rw [ofNat_toNat (by omega)] at g2 g4 g6
        have e : fstB (bt s a) = (((n / 4096 : Nat) : Int), 3) := by
          rw [fstB, if_neg (by omega), if_neg (by omega), if_pos (by omega)]
          refine Prod.ext ?_ rfl
          simp only; omega
        rw [nx, e]
        simp only
        rw [if_neg (by omega)]
        simp only [show (3 : Int).toNat - 1 = 0 + 1 + 1 from rfl]
        rw [nxGo, if_pos (by omega), nxGo, if_pos (by rw [show a + (1 + 1) = a + 1 + 1 by omega]; omega), nxGo]
        simp only
        have ev : (((n / 4096 : Nat) : Int) * 64 + bt s (a + 1) % 64) * 64 + bt s (a + (1 + 1)) % 64 = (n : Int) := by
          rw [show a + (1 + 1) = a + 1 + 1 by omega]; omega
        rw [ev, if_pos (by rw [he]; rfl)]
        rfl
      · rw [ptB4 (by omega)] at h he ⊢
        obtain ⟨⟨g1, g2⟩, h1⟩ := at_cons.1 h
        obtain ⟨⟨g3, g4⟩, h2⟩ := at_cons.1 h1
        obtain ⟨⟨g5, g6⟩, h3⟩ := at_cons.1 h2
        obtain ⟨g7, g8⟩ := at_one.1 h3
        rw [ofNat_toNat (by omega)] at g2 g4 g6 g8
        have e : fstB (bt s a) = (((n / 262144 : Nat) : Int), 4) := by
          rw [fstB, if_neg (by omega), if_neg (by omega), if_neg (by omega), if_pos (by omega)]
          refine Prod.ext ?_ rfl
          simp only; omega
        rw [nx, e]
        simp only
        rw [if_neg (by omega)]
        simp only [show (4 : Int).toNat - 1 = 0 + 1 + 1 + 1 from rfl]
        rw [nxGo, if_pos (by omega), nxGo, if_pos (by rw [show a + (1 + 1) = a + 1 + 1 by omega]; omega), nxGo, if_pos (by rw [show a + (1 + 1 + 1) = a + 1 + 1 + 1 by omega]; omega), nxGo]
        simp only
        have ev : ((((n / 262144 : Nat) : Int) * 64 + bt s (a + 1) % 64) * 64 + bt s (a + (1 + 1)) % 64) * 64 + bt s (a + (1 + 1 + 1)) % 64 = (n : Int) := by
          rw [show a + (1 + 1) = a + 1 + 1 by omega, show a + (1 + 1 + 1) = a + 1 + 1 + 1 by omega]; omega
        rw [ev, if_pos (by rw [he]; rfl)]
        rfl

/-- What is read stands there as its bytes. -/
theorem nx_of {s : ByteArray} {a : Nat} (hk : (nx s a).2 ≠ 0) : ∃ n : Nat, (nx s a).1 = (n : Int) ∧ szI (n : Int) ≠ 0 ∧ At s a (ptB n) ∧ (nx s a).2 = ((ptB n).length : Int) := by
  have hb0 := bt_nonneg s a
  have hb1 := bt_le s a
  obtain ⟨q1, q2, q3, q4⟩ := nx_bd s a hk
  have hok : szI (nx s a).1 ≠ 0 := by omega
  have hz := szI_nonneg hok
  obtain ⟨n, hn⟩ := Int.eq_ofNat_of_zero_le hz.1
  rw [hn] at hok q4 hz
  have he := szI_eq n hok
  refine ⟨n, hn, hok, ?_, by omega⟩
  have hnx : nx s a = ((n : Int), ((ptB n).length : Int)) := Prod.ext hn (by simp only; omega)
  have hpl := ptB_len n
  clear q1 q2 q3 q4 hn hk
  unfold nx at hnx
  split at hnx
  · simp only [Prod.mk.injEq] at hnx; omega
  · rename_i h1
    split at hnx
    · simp only [Prod.mk.injEq] at hnx; omega
    · rename_i v hv
      split at hnx
      · rename_i h2
        simp only [Prod.mk.injEq] at hnx
        obtain ⟨e1, e2⟩ := hnx
        subst e1
        have hsz : (fstB (bt s a)).2 = ((ptB n).length : Int) := by omega
        unfold fstB at hv h1 hsz
        split at hv
        · rename_i c1
          rw [if_pos c1] at h1 hsz
          simp only at h1 hsz hv
          simp [nxGo] at hv
          by_cases d : n < 128
          · rw [ptB1 d, at_one, ofNat_toNat (by omega)]; omega
          · omega
        · rename_i c1
          rw [if_neg c1] at h1 hsz
          split at hv
          · rename_i c2
            rw [if_pos c2] at h1 hsz
            simp only [show (2 : Int).toNat - 1 = 0 + 1 from rfl] at h1 hsz hv
            rw [nxGo] at hv
            split at hv
            · rename_i d1
              simp only [nxGo, Option.some.injEq] at hv
              have m1 := bt_nonneg s (a + 1)
              have m2 := bt_le s (a + 1)
              by_cases d : 128 ≤ n ∧ n < 2048
              · rw [ptB2 d.1 d.2, at_cons, at_one, ofNat_toNat (by omega), ofNat_toNat (by omega)]
                omega
              · have := ptB_len n
                exfalso
                by_cases f1 : n < 128
                · rw [ptB1 f1] at hsz; simp at hsz
                · by_cases f2 : n < 65536
                  · rw [ptB3 (by omega) f2] at hsz; simp at hsz
                  · rw [ptB4 (by omega)] at hsz; simp at hsz
            · simp at hv
          · rename_i c2
            rw [if_neg c2] at h1 hsz
            split at hv
            · rename_i c3
              rw [if_pos c3] at h1 hsz
              simp only [show (3 : Int).toNat - 1 = 0 + 1 + 1 from rfl] at h1 hsz hv
              rw [nxGo] at hv
              split at hv
              · rename_i d1
                rw [nxGo] at hv
                split at hv
                · rename_i d2
                  simp only [nxGo, Option.some.injEq] at hv
                  rw [show a + (1 + 1) = a + 1 + 1 by omega] at hv d2
                  have m1 := bt_nonneg s (a + 1)
                  have m2 := bt_le s (a + 1)
                  have m3 := bt_nonneg s (a + 1 + 1)
                  have m4 := bt_le s (a + 1 + 1)
                  by_cases d : 2048 ≤ n ∧ n < 65536
                  · rw [ptB3 d.1 d.2, at_cons, at_cons, at_one, ofNat_toNat (by omega), ofNat_toNat (by omega), ofNat_toNat (by omega)]
                    omega
                  · exfalso
                    by_cases f1 : n < 128
                    · rw [ptB1 f1] at hsz; simp at hsz
                    · by_cases f2 : n < 2048
                      · rw [ptB2 (by omega) f2] at hsz; simp at hsz
                      · rw [ptB4 (by omega)] at hsz; simp at hsz
                · simp at hv
              · simp at hv
            · rename_i c3
              rw [if_neg c3] at h1 hsz
              split at hv
              · rename_i c4
                rw [if_pos c4] at h1 hsz
                simp only [show (4 : Int).toNat - 1 = 0 + 1 + 1 + 1 from rfl] at h1 hsz hv
                rw [nxGo] at hv
                split at hv
                · rename_i d1
                  rw [nxGo] at hv
                  split at hv
                  · rename_i d2
                    rw [nxGo] at hv
                    split at hv
                    · rename_i d3
                      simp only [nxGo, Option.some.injEq] at hv
                      rw [show a + (1 + 1) = a + 1 + 1 by omega] at hv d2
                      rw [show a + (1 + 1 + 1) = a + 1 + 1 + 1 by omega] at hv d3
                      have m1 := bt_nonneg s (a + 1)
                      have m2 := bt_le s (a + 1)
                      have m3 := bt_nonneg s (a + 1 + 1)
                      have m4 := bt_le s (a + 1 + 1)
                      have m5 := bt_nonneg s (a + 1 + 1 + 1)
                      have m6 := bt_le s (a + 1 + 1 + 1)
                      by_cases d : 65536 ≤ n
                      · rw [ptB4 d, at_cons, at_cons, at_cons, at_one, ofNat_toNat (by omega), ofNat_toNat (by omega), ofNat_toNat (by omega), ofNat_toNat (by omega)]
                        omega
                      · exfalso
                        by_cases f1 : n < 128
                        · rw [ptB1 f1] at hsz; simp at hsz
                        · by_cases f2 : n < 2048
                          · rw [ptB2 (by omega) f2] at hsz; simp at hsz
                          · rw [ptB3 (by omega) (by omega)] at hsz; simp at hsz
                    · simp at hv
                  · simp at hv
                · simp at hv
              · rename_i c4
                rw [if_neg c4] at hsz
                have := ptB_len n
                simp only at hsz
                omega
      · simp only [Prod.mk.injEq] at hnx; omega
end Go.Proofs.Ytphbjbigjpfjfaa

/-
  Plain: valid texts as the bytes of their code points; parts of them; their order.
-/
namespace Go.Proofs.Ytphbjbigjpfjfaa
open Go.RowKit Go.PlainAid

/-- m code points from number f on. -/
def ptM (s : ByteArray) (f m : Nat) : List Int := (List.range m).map (fun i => pt s (f + i))
theorem ptM_succ (s : ByteArray) (f m : Nat) : ptM s f (m + 1) = ptM s f m ++ [pt s (f + m)] := by simp [ptM, List.range_succ]
theorem ptM_zero (s : ByteArray) (k : Nat) : ptM s 0 k = ptL s k := by simp [ptM, ptL]
theorem ptM_length (s : ByteArray) (f m : Nat) : (ptM s f m).length = m := by simp [ptM]

theorem at_nil (s : ByteArray) (a : Nat) (h : a ≤ s.size) : At s a [] := ⟨by simpa using h, fun i hi => by simp at hi⟩

theorem at_ptM {s : ByteArray} {f : Nat} : ∀ (m : Nat), Ok s (f + m) → At s (pos s f) (enc (ptM s f m)) ∧ pos s f + (enc (ptM s f m)).length = pos s (f + m) ∧ ∀ z ∈ ptM s f m, szI z ≠ 0
  | 0, h => ⟨at_nil s _ (pos_le h f (by omega)).2, by simp [ptM, enc], by simp [ptM]⟩
  | m + 1, h => by
    obtain ⟨h1, h2, h3⟩ := at_ptM (s := s) (f := f) m (ok_mono h (show f + m ≤ f + (m + 1) by omega))
    have hk := (h (f + m) (by omega)).2
    obtain ⟨n, g1, g2, g3, g4⟩ := nx_of hk
    have hp := pos_succ hk
    have e : pt s (f + m) = (n : Int) := g1
    rw [ptM_succ, enc_append, enc_one, e, Int.toNat_natCast]
    refine ⟨at_append.2 ⟨h1, by rw [h2]; exact g3⟩, ?_, ?_⟩
    · rw [List.length_append, show f + (m + 1) = (f + m) + 1 by omega]; omega
    · intro z hz
      rcases List.mem_append.1 hz with hz | hz
      · exact h3 z hz
      · simp only [List.mem_singleton] at hz
        rw [hz]; exact g2

theorem part_eq {s : ByteArray} {f m n : Nat} (hv : Valid s n) (h : f + m ≤ n) : s.extract (pos s f) (pos s (f + m)) = mk (enc (ptM s f m)) := by
  obtain ⟨h1, h2, _⟩ := at_ptM m (ok_mono hv.1 h)
  rw [← h2]
  exact at_extract h1

theorem extract_all (s : ByteArray) : s.extract 0 s.size = s := by
  apply ByteArray.ext
  apply Array.ext'
  rw [Lib.extract_data]
  simp
  rw [List.take_of_length_le (by rw [data_len]; exact Nat.le_refl _)]

theorem whole_eq {s : ByteArray} {n : Nat} (hv : Valid s n) : mk (enc (ptL s n)) = s ∧ ∀ z ∈ ptL s n, szI z ≠ 0 := by
  have h := part_eq (f := 0) (m := n) hv (by omega)
  obtain ⟨_, _, h3⟩ := at_ptM (f := 0) n (by simpa using hv.1)
  rw [ptM_zero] at h h3
  rw [Nat.zero_add, hv.2] at h
  exact ⟨by rw [← h]; exact extract_all s, h3⟩

theorem at_list (A F B : List UInt8) : At (mk (A ++ (F ++ B))) A.length F := by
  have hsz : (mk (A ++ (F ++ B))).size = A.length + (F.length + B.length) := by rw [mk_size]; simp
  refine ⟨by omega, fun i hi => ?_⟩
  rw [bt_data _ _ (by omega)]
  congr 2
  simp only [mk]
  simp [hi]

theorem valid_enc (zs : List Int) (hz : ∀ z ∈ zs, szI z ≠ 0) : Valid (mk (enc zs)) zs.length ∧ ptL (mk (enc zs)) zs.length = zs := by
  have step : ∀ k, k ≤ zs.length → Ok (mk (enc zs)) k ∧ pos (mk (enc zs)) k = (enc (zs.take k)).length ∧ ptL (mk (enc zs)) k = zs.take k := by
    intro k
    induction k with
    | zero => intro _; exact ⟨fun j hj => by omega, by simp [pos, enc], by simp [ptL]⟩
    | succ k ih =>
      intro hk
      obtain ⟨h1, h2, h3⟩ := ih (by omega)
      have hlt : k < zs.length := by omega
      have hin : zs.getD k 0 ∈ zs := by simp [hlt]
      have hok := hz _ hin
      have hnn := szI_nonneg hok
      obtain ⟨n, hn⟩ := Int.eq_ofNat_of_zero_le hnn.1
      have hsplit : enc zs = enc (zs.take k) ++ (ptB n ++ enc (zs.drop (k + 1))) := by
        have e1 : zs = zs.take k ++ ([zs.getD k 0] ++ zs.drop (k + 1)) := by
          rw [← List.append_assoc, ← take_snocI zs k hlt, List.take_append_drop]
        have e2 : enc zs = enc (zs.take k ++ ([zs.getD k 0] ++ zs.drop (k + 1))) := by rw [← e1]
        rw [e2, enc_append, enc_append, enc_one, hn, Int.toNat_natCast]
      have hat : At (mk (enc zs)) (pos (mk (enc zs)) k) (ptB n) := by
        rw [h2, hsplit]
        exact at_list _ _ _
      rw [hn] at hok
      have hx := nx_at hok hat
      have hl := ptB_len n
      have hne : (nx (mk (enc zs)) (pos (mk (enc zs)) k)).2 ≠ 0 := by rw [hx]; simp only; omega
      refine ⟨fun j hj => ?_, ?_, ?_⟩
      · by_cases e : j = k
        · subst e; exact ⟨by have := hat.1; omega, hne⟩
        · exact h1 j (by omega)
      · have hp := pos_succ hne
        rw [hx] at hp
        simp only at hp
        rw [enc_succ zs k hlt, hn, Int.toNat_natCast, List.length_append]
        omega
      · rw [ptL_succ, h3, take_snocI zs k hlt, pt, hx, hn]
  obtain ⟨h1, h2, h3⟩ := step zs.length (Nat.le_refl _)
  rw [List.take_length] at h2 h3
  exact ⟨⟨h1, by rw [h2, mk_size]⟩, h3⟩

theorem enc_cons (z : Int) (zs : List Int) : enc (z :: zs) = ptB z.toNat ++ enc zs := by simp [enc]
end Go.Proofs.Ytphbjbigjpfjfaa

/-
  Plain: the reference's way to read a code point comes to what next gives.
-/
namespace Go.Proofs.Ytphbjbigjpfjfaa
open Go.ChangeShapes Go.WideShapes Go.ChangeAt Go.RowKit Go.PlainAid

/-- How many bytes the reference looks at, by the first one. -/
def rfN (b : Int) : Nat := if 240 ≤ b ∧ b < 248 then 4 else if 224 ≤ b ∧ b < 240 then 3 else if 192 ≤ b ∧ b < 224 then 2 else 1
/-- The number that it makes of them. -/
def rfV (s : ByteArray) : Int :=
  if 240 ≤ bt s 0 ∧ bt s 0 < 248 then (((bt s 0 - 240) * 64 + bt s 1 % 64) * 64 + bt s 2 % 64) * 64 + bt s 3 % 64
  else if 224 ≤ bt s 0 ∧ bt s 0 < 240 then ((bt s 0 - 224) * 64 + bt s 1 % 64) * 64 + bt s 2 % 64
  else if 192 ≤ bt s 0 ∧ bt s 0 < 224 then (bt s 0 - 192) * 64 + bt s 1 % 64
  else bt s 0

/-- Where a code point's bytes stand, the reference comes to it. -/
theorem rf_of {s : ByteArray} {n : Nat} (hn : n ≤ 1114111) (h : At s 0 (ptB n)) : rfN (bt s 0) = (ptB n).length ∧ rfV s = (n : Int) := by
  by_cases c1 : n < 128
  · rw [ptB1 c1] at h ⊢
    obtain ⟨g1, g2⟩ := at_one.1 h
    rw [ofNat_toNat (by omega)] at g2
    unfold rfN rfV
    rw [if_neg (by omega), if_neg (by omega), if_neg (by omega), if_neg (by omega), if_neg (by omega), if_neg (by omega)]
    exact ⟨rfl, g2⟩
  · by_cases c2 : n < 2048
    · rw [ptB2 (by omega) c2] at h ⊢
      obtain ⟨⟨g1, g2⟩, h1⟩ := at_cons.1 h
      obtain ⟨g3, g4⟩ := at_one.1 h1
      rw [ofNat_toNat (by omega)] at g2 g4
      rw [Nat.zero_add] at g4
      unfold rfN rfV
      rw [if_neg (by omega), if_neg (by omega), if_pos (by omega), if_neg (by omega), if_neg (by omega), if_pos (by omega)]
      exact ⟨rfl, by omega⟩
    · by_cases c3 : n < 65536
      · rw [ptB3 (by omega) c3] at h ⊢
        obtain ⟨⟨g1, g2⟩, h1⟩ := at_cons.1 h
        obtain ⟨⟨g3, g4⟩, h2⟩ := at_cons.1 h1
        obtain ⟨g5, g6⟩ := at_one.1 h2
        rw [ofNat_toNat (by omega)] at g2 g4 g6
        rw [show 0 + 1 = 1 from rfl] at g4
        rw [show 0 + 1 + 1 = 2 from rfl] at g6
        unfold rfN rfV
        rw [if_neg (by omega), if_pos (by omega), if_neg (by omega), if_pos (by omega)]
        exact ⟨rfl, by omega⟩
      · rw [ptB4 (by omega)] at h ⊢
        obtain ⟨⟨g1, g2⟩, h1⟩ := at_cons.1 h
        obtain ⟨⟨g3, g4⟩, h2⟩ := at_cons.1 h1
        obtain ⟨⟨g5, g6⟩, h3⟩ := at_cons.1 h2
        obtain ⟨g7, g8⟩ := at_one.1 h3
        rw [ofNat_toNat (by omega)] at g2 g4 g6 g8
        rw [show 0 + 1 = 1 from rfl] at g4
        rw [show 0 + 1 + 1 = 2 from rfl] at g6
        rw [show 0 + 1 + 1 + 1 = 3 from rfl] at g8
        unfold rfN rfV
        rw [if_pos (by omega), if_pos (by omega)]
        exact ⟨rfl, by omega⟩

/-- The reference's test says no: there is no code point. -/
theorem rf_no {s : ByteArray} (h : ¬ (rfN (bt s 0) ≤ s.size ∧ szI (rfV s) ≠ 0 ∧ mk (ptB (rfV s).toNat) = s.extract 0 (rfN (bt s 0)))) : nx s 0 = (0, 0) := by
  by_cases hk : (nx s 0).2 = 0
  · exact nx_pair s 0 hk
  · exfalso
    obtain ⟨n, h1, h2, h3, h4⟩ := nx_of hk
    have hz := szI_nonneg h2
    obtain ⟨e1, e2⟩ := rf_of (by omega) h3
    have h5 := h3.1
    have h6 := at_extract h3
    rw [Nat.zero_add] at h6 h5
    apply h
    rw [e1, e2, Int.toNat_natCast]
    exact ⟨h5, h2, h6.symm⟩

/-- It says yes: there is that one. -/
theorem rf_yes {s : ByteArray} (h1 : rfN (bt s 0) ≤ s.size) (h2 : szI (rfV s) ≠ 0) (h3 : mk (ptB (rfV s).toNat) = s.extract 0 (rfN (bt s 0))) : nx s 0 = (rfV s, (rfN (bt s 0) : Int)) := by
  have hz := szI_nonneg h2
  obtain ⟨n, hn⟩ := Int.eq_ofNat_of_zero_le hz.1
  rw [hn] at h2 h3
  rw [Int.toNat_natCast] at h3
  have hl : (ptB n).length = rfN (bt s 0) := by
    have := congrArg ByteArray.size h3
    rw [mk_size, ByteArray.size_extract] at this
    omega
  have hat : At s 0 (ptB n) := by
    refine ⟨by omega, fun i hi => ?_⟩
    rw [Nat.zero_add, bt_data s i (by omega)]
    congr 2
    have e : ptB n = (s.extract 0 (rfN (bt s 0))).data.toList := by rw [← h3, mk_toList]
    simp only [e, Lib.extract_data]
    simp
  rw [nx_at h2 hat, hn, hl]

theorem list_ne {a b : ByteArray} (h : a ≠ b) : (a.toList != b.toList) = true := by
  rw [bne_iff_ne, ne_eq, Go.ByteArray.toList_eq, Go.ByteArray.toList_eq]
  intro e
  exact h (ByteArray.ext (Array.ext' e))

theorem slice_front (s : ByteArray) (k : Nat) (W : World) (h : k ≤ s.size) :
    (Instr.slice 9 (.string s) none (some (.int .i64 (k : Int))) none).run Try.prog W = .ok (.string (s.extract 0 k)) W := by
  rw [run_slice_string_h (P := Try.prog) W 9 s Try.underlying9 .i64 (k : Int) (by omega) (by omega), show ((k : Int)).toNat = k by omega]

end Go.Proofs.Ytphbjbigjpfjfaa

/-
  The contract of the reference's first: it gives what next gives.
-/
namespace Go.Proofs.Ytphbjbigjpfjfaa
open Go.ChangeShapes Go.WideShapes Go.ChangeAt Go.RowKit Go.PlainAid

set_option maxRecDepth 20000 in
set_option maxHeartbeats 4000000 in
theorem refFirst_four (s : ByteArray) (w : World) (hs : s.size ≤ 1048576) (h0 : 0 < s.size) (c0 : 240 ≤ bt s 0) (c1 : bt s 0 < 248) :
    Calls Try.prog 56 #[.string s] w fun e w' => e = .returned (.tuple #[.int .i64 (nx s 0).1, .int .i64 (nx s 0).2]) ∧ Below w.heap.size w w' := by
  have hb := get_bt s
  have m0 := bt_nonneg s 0
  have n0 := bt_le s 0
  have m1 := bt_nonneg s 1
  have n1 := bt_le s 1
  have m2 := bt_nonneg s 2
  have n2 := bt_le s 2
  have m3 := bt_nonneg s 3
  have n3 := bt_le s 3
  have eN : rfN (bt s 0) = 4 := by rw [rfN, if_pos (by omega)]
  have eV : rfV s = (((bt s 0 - 240) * 64 + bt s 1 % 64) * 64 + bt s 2 % 64) * 64 + bt s 3 % 64 := by rw [rfV, if_pos (by omega)]
  by_cases hsz : s.size < 4
  · have HR : Hid (nx s 0 = (0, 0)) := rf_no (fun h => by rw [eN] at h; omega)
    go_enter Try.func56, Try.ntmps56
    go_wp2
    go_ret2
    exact ⟨by rw [HR.out]; rfl, Below.refl _ _⟩
  · have hge : 4 ≤ s.size := by omega
    have hsl : ∀ W, (Instr.slice 9 (.string s) none (some (.int .i64 (4 : Int))) none).run Try.prog W = .ok (.string (s.extract 0 4)) W := fun W => slice_front s 4 W hge
    by_cases hok : szI (rfV s) = 0
    · have HR : Hid (nx s 0 = (0, 0)) := rf_no (fun h => h.2.1 hok)
      have hpt : ∀ x : Int, x = rfV s → ∀ W, Calls Try.prog 64 #[.int .i64 x] W fun e w' => e = .returned (.bool false) ∧ w' = W := fun x hx W => by
        subst hx
        have := refPoint_any (rfV s) W
        rw [show decide (szI (rfV s) ≠ 0) = false by simp [hok]] at this
        exact this.mono (fun _ _ h => ⟨h.1, h.2.symm⟩)
      rw [eV] at hpt
      clear eN eV hok
      go_enter Try.func56, Try.ntmps56
      go_wp2
      go_rounds 4
      go_quiet ((go_at_call 64; exact Calls.quiet_of_same (hpt _ (by omega) _)))
      go_wp2
      go_ret2
      exact ⟨by rw [HR.out]; rfl, below_drewN (Below.refl _ _) _⟩
    · have hz := szI_nonneg hok
      have hpt : ∀ x : Int, x = rfV s → ∀ W, Calls Try.prog 64 #[.int .i64 x] W fun e w' => e = .returned (.bool true) ∧ W = w' := fun x hx W => by
        subst hx
        have := refPoint_any (rfV s) W
        rw [show decide (szI (rfV s) ≠ 0) = true by simp [hok]] at this
        exact this
      have hby : ∀ x : Int, x = rfV s → ∀ W, Calls Try.prog 65 #[.int .i64 x] W fun e w' => e = .returned (.string (mk (ptB (rfV s).toNat))) ∧ Below W.heap.size W w' := fun x hx W => by
        subst hx
        have := refBytes_any (rfV s).toNat W (by omega)
        rw [show (((rfV s).toNat : Nat) : Int) = rfV s by omega] at this
        exact this
      by_cases he : mk (ptB (rfV s).toNat) = s.extract 0 4
      · have HR : Hid (nx s 0 = (rfV s, (4 : Int))) := by
          show _ = _
          have := rf_yes (s := s) (by omega) hok (by rw [eN]; exact he)
          rw [this, eN]
          rfl
        rw [he] at hby
        generalize s.extract 0 4 = T at hsl hby
        clear eN he hok
        have HV : Hid (rfV s = (((bt s 0 - 240) * 64 + bt s 1 % 64) * 64 + bt s 2 % 64) * 64 + bt s 3 % 64) := eV
        rw [eV] at hpt hby
        clear eV hz
        go_enter Try.func56, Try.ntmps56
        go_wp2
        go_rounds 4
        go_region_held3 (fun _ => True) (trivial) (first | (go_at_call 64; refine (hpt _ (by omega) _).mono ?_; rintro e w1 ⟨rfl, rfl⟩) | (go_at_call 65; refine (hby _ (by omega) _).mono ?_; rintro e w2 ⟨rfl, hb2⟩))
        all_goals go_wp2
        all_goals go_ret2
        all_goals exact ⟨by rw [HR.out, HV.out]; rfl, Below.trans (Below.refl _ _).drew hb2⟩
      · have HR : Hid (nx s 0 = (0, 0)) := rf_no (fun h => he (by rw [eN] at h; exact h.2.2))
        have hne := list_ne he
        have hne2 : ((mk (ptB (rfV s).toNat)).toList == (s.extract 0 4).toList) = false := by simpa using hne
        generalize s.extract 0 4 = T at hsl hne hne2
        generalize mk (ptB (rfV s).toNat) = F at hby hne hne2
        rw [eV] at hpt hby
        clear eN eV hz hok he
        go_enter Try.func56, Try.ntmps56
        go_wp2
        go_rounds 4
        go_region_held3 (fun _ => True) (trivial) (first | (go_at_call 64; refine (hpt _ (by omega) _).mono ?_; rintro e w1 ⟨rfl, rfl⟩) | (go_at_call 65; refine (hby _ (by omega) _).mono ?_; rintro e w2 ⟨rfl, hb2⟩))
        all_goals go_wp2
        all_goals go_ret2
        all_goals exact ⟨by rw [HR.out]; rfl, Below.trans (Below.refl _ _).drew hb2⟩

set_option maxRecDepth 20000 in
set_option maxHeartbeats 4000000 in
theorem refFirst_three (s : ByteArray) (w : World) (hs : s.size ≤ 1048576) (h0 : 0 < s.size) (c0 : 224 ≤ bt s 0) (c1 : bt s 0 < 240) :
    Calls Try.prog 56 #[.string s] w fun e w' => e = .returned (.tuple #[.int .i64 (nx s 0).1, .int .i64 (nx s 0).2]) ∧ Below w.heap.size w w' := by
  have hb := get_bt s
  have m0 := bt_nonneg s 0
  have n0 := bt_le s 0
  have m1 := bt_nonneg s 1
  have n1 := bt_le s 1
  have m2 := bt_nonneg s 2
  have n2 := bt_le s 2
  have eN : rfN (bt s 0) = 3 := by rw [rfN, if_neg (by omega), if_pos (by omega)]
  have eV : rfV s = ((bt s 0 - 224) * 64 + bt s 1 % 64) * 64 + bt s 2 % 64 := by rw [rfV, if_neg (by omega), if_pos (by omega)]
  by_cases hsz : s.size < 3
  · have HR : Hid (nx s 0 = (0, 0)) := rf_no (fun h => by rw [eN] at h; omega)
    go_enter Try.func56, Try.ntmps56
    go_wp2
    go_ret2
    exact ⟨by rw [HR.out]; rfl, Below.refl _ _⟩
  · have hge : 3 ≤ s.size := by omega
    have hsl : ∀ W, (Instr.slice 9 (.string s) none (some (.int .i64 (3 : Int))) none).run Try.prog W = .ok (.string (s.extract 0 3)) W := fun W => slice_front s 3 W hge
    by_cases hok : szI (rfV s) = 0
    · have HR : Hid (nx s 0 = (0, 0)) := rf_no (fun h => h.2.1 hok)
      have hpt : ∀ x : Int, x = rfV s → ∀ W, Calls Try.prog 64 #[.int .i64 x] W fun e w' => e = .returned (.bool false) ∧ w' = W := fun x hx W => by
        subst hx
        have := refPoint_any (rfV s) W
        rw [show decide (szI (rfV s) ≠ 0) = false by simp [hok]] at this
        exact this.mono (fun _ _ h => ⟨h.1, h.2.symm⟩)
      rw [eV] at hpt
      clear eN eV hok
      go_enter Try.func56, Try.ntmps56
      go_wp2
      go_rounds 3
      go_quiet ((go_at_call 64; exact Calls.quiet_of_same (hpt _ (by omega) _)))
      go_wp2
      go_ret2
      exact ⟨by rw [HR.out]; rfl, below_drewN (Below.refl _ _) _⟩
    · have hz := szI_nonneg hok
      have hpt : ∀ x : Int, x = rfV s → ∀ W, Calls Try.prog 64 #[.int .i64 x] W fun e w' => e = .returned (.bool true) ∧ W = w' := fun x hx W => by
        subst hx
        have := refPoint_any (rfV s) W
        rw [show decide (szI (rfV s) ≠ 0) = true by simp [hok]] at this
        exact this
      have hby : ∀ x : Int, x = rfV s → ∀ W, Calls Try.prog 65 #[.int .i64 x] W fun e w' => e = .returned (.string (mk (ptB (rfV s).toNat))) ∧ Below W.heap.size W w' := fun x hx W => by
        subst hx
        have := refBytes_any (rfV s).toNat W (by omega)
        rw [show (((rfV s).toNat : Nat) : Int) = rfV s by omega] at this
        exact this
      by_cases he : mk (ptB (rfV s).toNat) = s.extract 0 3
      · have HR : Hid (nx s 0 = (rfV s, (3 : Int))) := by
          show _ = _
          have := rf_yes (s := s) (by omega) hok (by rw [eN]; exact he)
          rw [this, eN]
          rfl
        rw [he] at hby
        generalize s.extract 0 3 = T at hsl hby
        clear eN he hok
        have HV : Hid (rfV s = ((bt s 0 - 224) * 64 + bt s 1 % 64) * 64 + bt s 2 % 64) := eV
        rw [eV] at hpt hby
        clear eV hz
        go_enter Try.func56, Try.ntmps56
        go_wp2
        go_rounds 3
        go_region_held3 (fun _ => True) (trivial) (first | (go_at_call 64; refine (hpt _ (by omega) _).mono ?_; rintro e w1 ⟨rfl, rfl⟩) | (go_at_call 65; refine (hby _ (by omega) _).mono ?_; rintro e w2 ⟨rfl, hb2⟩))
        all_goals go_wp2
        all_goals go_ret2
        all_goals exact ⟨by rw [HR.out, HV.out]; rfl, Below.trans (Below.refl _ _).drew hb2⟩
      · have HR : Hid (nx s 0 = (0, 0)) := rf_no (fun h => he (by rw [eN] at h; exact h.2.2))
        have hne := list_ne he
        have hne2 : ((mk (ptB (rfV s).toNat)).toList == (s.extract 0 3).toList) = false := by simpa using hne
        generalize s.extract 0 3 = T at hsl hne hne2
        generalize mk (ptB (rfV s).toNat) = F at hby hne hne2
        rw [eV] at hpt hby
        clear eN eV hz hok he
        go_enter Try.func56, Try.ntmps56
        go_wp2
        go_rounds 3
        go_region_held3 (fun _ => True) (trivial) (first | (go_at_call 64; refine (hpt _ (by omega) _).mono ?_; rintro e w1 ⟨rfl, rfl⟩) | (go_at_call 65; refine (hby _ (by omega) _).mono ?_; rintro e w2 ⟨rfl, hb2⟩))
        all_goals go_wp2
        all_goals go_ret2
        all_goals exact ⟨by rw [HR.out]; rfl, Below.trans (Below.refl _ _).drew hb2⟩

set_option maxRecDepth 20000 in
set_option maxHeartbeats 4000000 in
theorem refFirst_two (s : ByteArray) (w : World) (hs : s.size ≤ 1048576) (h0 : 0 < s.size) (c0 : 192 ≤ bt s 0) (c1 : bt s 0 < 224) :
    Calls Try.prog 56 #[.string s] w fun e w' => e = .returned (.tuple #[.int .i64 (nx s 0).1, .int .i64 (nx s 0).2]) ∧ Below w.heap.size w w' := by
  have hb := get_bt s
  have m0 := bt_nonneg s 0
  have n0 := bt_le s 0
  have m1 := bt_nonneg s 1
  have n1 := bt_le s 1
  have eN : rfN (bt s 0) = 2 := by rw [rfN, if_neg (by omega), if_neg (by omega), if_pos (by omega)]
  have eV : rfV s = (bt s 0 - 192) * 64 + bt s 1 % 64 := by rw [rfV, if_neg (by omega), if_neg (by omega), if_pos (by omega)]
  by_cases hsz : s.size < 2
  · have HR : Hid (nx s 0 = (0, 0)) := rf_no (fun h => by rw [eN] at h; omega)
    go_enter Try.func56, Try.ntmps56
    go_wp2
    go_ret2
    exact ⟨by rw [HR.out]; rfl, Below.refl _ _⟩
  · have hge : 2 ≤ s.size := by omega
    have hsl : ∀ W, (Instr.slice 9 (.string s) none (some (.int .i64 (2 : Int))) none).run Try.prog W = .ok (.string (s.extract 0 2)) W := fun W => slice_front s 2 W hge
    by_cases hok : szI (rfV s) = 0
    · have HR : Hid (nx s 0 = (0, 0)) := rf_no (fun h => h.2.1 hok)
      have hpt : ∀ x : Int, x = rfV s → ∀ W, Calls Try.prog 64 #[.int .i64 x] W fun e w' => e = .returned (.bool false) ∧ w' = W := fun x hx W => by
        subst hx
        have := refPoint_any (rfV s) W
        rw [show decide (szI (rfV s) ≠ 0) = false by simp [hok]] at this
        exact this.mono (fun _ _ h => ⟨h.1, h.2.symm⟩)
      rw [eV] at hpt
      clear eN eV hok
      go_enter Try.func56, Try.ntmps56
      go_wp2
      go_rounds 2
      go_quiet ((go_at_call 64; exact Calls.quiet_of_same (hpt _ (by omega) _)))
      go_wp2
      go_ret2
      exact ⟨by rw [HR.out]; rfl, below_drewN (Below.refl _ _) _⟩
    · have hz := szI_nonneg hok
      have hpt : ∀ x : Int, x = rfV s → ∀ W, Calls Try.prog 64 #[.int .i64 x] W fun e w' => e = .returned (.bool true) ∧ W = w' := fun x hx W => by
        subst hx
        have := refPoint_any (rfV s) W
        rw [show decide (szI (rfV s) ≠ 0) = true by simp [hok]] at this
        exact this
      have hby : ∀ x : Int, x = rfV s → ∀ W, Calls Try.prog 65 #[.int .i64 x] W fun e w' => e = .returned (.string (mk (ptB (rfV s).toNat))) ∧ Below W.heap.size W w' := fun x hx W => by
        subst hx
        have := refBytes_any (rfV s).toNat W (by omega)
        rw [show (((rfV s).toNat : Nat) : Int) = rfV s by omega] at this
        exact this
      by_cases he : mk (ptB (rfV s).toNat) = s.extract 0 2
      · have HR : Hid (nx s 0 = (rfV s, (2 : Int))) := by
          show _ = _
          have := rf_yes (s := s) (by omega) hok (by rw [eN]; exact he)
          rw [this, eN]
          rfl
        rw [he] at hby
        generalize s.extract 0 2 = T at hsl hby
        clear eN he hok
        have HV : Hid (rfV s = (bt s 0 - 192) * 64 + bt s 1 % 64) := eV
        rw [eV] at hpt hby
        clear eV hz
        go_enter Try.func56, Try.ntmps56
        go_wp2
        go_rounds 2
        go_region_held3 (fun _ => True) (trivial) (first | (go_at_call 64; refine (hpt _ (by omega) _).mono ?_; rintro e w1 ⟨rfl, rfl⟩) | (go_at_call 65; refine (hby _ (by omega) _).mono ?_; rintro e w2 ⟨rfl, hb2⟩))
        all_goals go_wp2
        all_goals go_ret2
        all_goals exact ⟨by rw [HR.out, HV.out]; rfl, Below.trans (Below.refl _ _).drew hb2⟩
      · have HR : Hid (nx s 0 = (0, 0)) := rf_no (fun h => he (by rw [eN] at h; exact h.2.2))
        have hne := list_ne he
        have hne2 : ((mk (ptB (rfV s).toNat)).toList == (s.extract 0 2).toList) = false := by simpa using hne
        generalize s.extract 0 2 = T at hsl hne hne2
        generalize mk (ptB (rfV s).toNat) = F at hby hne hne2
        rw [eV] at hpt hby
        clear eN eV hz hok he
        go_enter Try.func56, Try.ntmps56
        go_wp2
        go_rounds 2
        go_region_held3 (fun _ => True) (trivial) (first | (go_at_call 64; refine (hpt _ (by omega) _).mono ?_; rintro e w1 ⟨rfl, rfl⟩) | (go_at_call 65; refine (hby _ (by omega) _).mono ?_; rintro e w2 ⟨rfl, hb2⟩))
        all_goals go_wp2
        all_goals go_ret2
        all_goals exact ⟨by rw [HR.out]; rfl, Below.trans (Below.refl _ _).drew hb2⟩

set_option maxRecDepth 20000 in
set_option maxHeartbeats 4000000 in
theorem refFirst_low (s : ByteArray) (w : World) (hs : s.size ≤ 1048576) (h0 : 0 < s.size) (c1 : bt s 0 < 192) :
    Calls Try.prog 56 #[.string s] w fun e w' => e = .returned (.tuple #[.int .i64 (nx s 0).1, .int .i64 (nx s 0).2]) ∧ Below w.heap.size w w' := by
  have hb := get_bt s
  have m0 := bt_nonneg s 0
  have n0 := bt_le s 0
  have eN : rfN (bt s 0) = 1 := by rw [rfN, if_neg (by omega), if_neg (by omega), if_neg (by omega)]
  have eV : rfV s = bt s 0 := by rw [rfV, if_neg (by omega), if_neg (by omega), if_neg (by omega)]
  have hge : 1 ≤ s.size := by omega
  have hsl : ∀ W, (Instr.slice 9 (.string s) none (some (.int .i64 (1 : Int))) none).run Try.prog W = .ok (.string (s.extract 0 1)) W := fun W => slice_front s 1 W hge
  by_cases hok : szI (rfV s) = 0
  · have HR : Hid (nx s 0 = (0, 0)) := rf_no (fun h => h.2.1 hok)
    have hpt : ∀ x : Int, x = rfV s → ∀ W, Calls Try.prog 64 #[.int .i64 x] W fun e w' => e = .returned (.bool false) ∧ w' = W := fun x hx W => by
      subst hx
      have := refPoint_any (rfV s) W
      rw [show decide (szI (rfV s) ≠ 0) = false by simp [hok]] at this
      exact this.mono (fun _ _ h => ⟨h.1, h.2.symm⟩)
    rw [eV] at hpt
    clear eN eV hok
    go_enter Try.func56, Try.ntmps56
    go_wp2
    go_rounds 1
    go_quiet ((go_at_call 64; exact Calls.quiet_of_same (hpt _ (by omega) _)))
    go_wp2
    go_ret2
    exact ⟨by rw [HR.out]; rfl, below_drewN (Below.refl _ _) _⟩
  · have hz := szI_nonneg hok
    have hpt : ∀ x : Int, x = rfV s → ∀ W, Calls Try.prog 64 #[.int .i64 x] W fun e w' => e = .returned (.bool true) ∧ W = w' := fun x hx W => by
      subst hx
      have := refPoint_any (rfV s) W
      rw [show decide (szI (rfV s) ≠ 0) = true by simp [hok]] at this
      exact this
    have hby : ∀ x : Int, x = rfV s → ∀ W, Calls Try.prog 65 #[.int .i64 x] W fun e w' => e = .returned (.string (mk (ptB (rfV s).toNat))) ∧ Below W.heap.size W w' := fun x hx W => by
      subst hx
      have := refBytes_any (rfV s).toNat W (by omega)
      rw [show (((rfV s).toNat : Nat) : Int) = rfV s by omega] at this
      exact this
    by_cases he : mk (ptB (rfV s).toNat) = s.extract 0 1
    · have HR : Hid (nx s 0 = (rfV s, (1 : Int))) := by
        show _ = _
        have := rf_yes (s := s) (by omega) hok (by rw [eN]; exact he)
        rw [this, eN]
        rfl
      rw [he] at hby
      generalize s.extract 0 1 = T at hsl hby
      clear eN he hok
      have HV : Hid (rfV s = bt s 0) := eV
      rw [eV] at hpt hby
      clear eV hz
      go_enter Try.func56, Try.ntmps56
      go_wp2
      go_rounds 1
      go_region_held3 (fun _ => True) (trivial) (first | (go_at_call 64; refine (hpt _ (by omega) _).mono ?_; rintro e w1 ⟨rfl, rfl⟩) | (go_at_call 65; refine (hby _ (by omega) _).mono ?_; rintro e w2 ⟨rfl, hb2⟩))
      all_goals go_wp2
      all_goals go_ret2
      all_goals exact ⟨by rw [HR.out, HV.out]; rfl, Below.trans (Below.refl _ _).drew hb2⟩
    · have HR : Hid (nx s 0 = (0, 0)) := rf_no (fun h => he (by rw [eN] at h; exact h.2.2))
      have hne := list_ne he
      have hne2 : ((mk (ptB (rfV s).toNat)).toList == (s.extract 0 1).toList) = false := by simpa using hne
      generalize s.extract 0 1 = T at hsl hne hne2
      generalize mk (ptB (rfV s).toNat) = F at hby hne hne2
      rw [eV] at hpt hby
      clear eN eV hz hok he
      go_enter Try.func56, Try.ntmps56
      go_wp2
      go_rounds 1
      go_region_held3 (fun _ => True) (trivial) (first | (go_at_call 64; refine (hpt _ (by omega) _).mono ?_; rintro e w1 ⟨rfl, rfl⟩) | (go_at_call 65; refine (hby _ (by omega) _).mono ?_; rintro e w2 ⟨rfl, hb2⟩))
      all_goals go_wp2
      all_goals go_ret2
      all_goals exact ⟨by rw [HR.out]; rfl, Below.trans (Below.refl _ _).drew hb2⟩

set_option maxRecDepth 20000 in
set_option maxHeartbeats 4000000 in
theorem refFirst_high (s : ByteArray) (w : World) (hs : s.size ≤ 1048576) (h0 : 0 < s.size) (c1 : 248 ≤ bt s 0) :
    Calls Try.prog 56 #[.string s] w fun e w' => e = .returned (.tuple #[.int .i64 (nx s 0).1, .int .i64 (nx s 0).2]) ∧ Below w.heap.size w w' := by
  have hb := get_bt s
  have m0 := bt_nonneg s 0
  have n0 := bt_le s 0
  have eN : rfN (bt s 0) = 1 := by rw [rfN, if_neg (by omega), if_neg (by omega), if_neg (by omega)]
  have eV : rfV s = bt s 0 := by rw [rfV, if_neg (by omega), if_neg (by omega), if_neg (by omega)]
  have hge : 1 ≤ s.size := by omega
  have hsl : ∀ W, (Instr.slice 9 (.string s) none (some (.int .i64 (1 : Int))) none).run Try.prog W = .ok (.string (s.extract 0 1)) W := fun W => slice_front s 1 W hge
  by_cases hok : szI (rfV s) = 0
  · have HR : Hid (nx s 0 = (0, 0)) := rf_no (fun h => h.2.1 hok)
    have hpt : ∀ x : Int, x = rfV s → ∀ W, Calls Try.prog 64 #[.int .i64 x] W fun e w' => e = .returned (.bool false) ∧ w' = W := fun x hx W => by
      subst hx
      have := refPoint_any (rfV s) W
      rw [show decide (szI (rfV s) ≠ 0) = false by simp [hok]] at this
      exact this.mono (fun _ _ h => ⟨h.1, h.2.symm⟩)
    rw [eV] at hpt
    clear eN eV hok
    go_enter Try.func56, Try.ntmps56
    go_wp2
    go_rounds 1
    go_quiet ((go_at_call 64; exact Calls.quiet_of_same (hpt _ (by omega) _)))
    go_wp2
    go_ret2
    exact ⟨by rw [HR.out]; rfl, below_drewN (Below.refl _ _) _⟩
  · have hz := szI_nonneg hok
    have hpt : ∀ x : Int, x = rfV s → ∀ W, Calls Try.prog 64 #[.int .i64 x] W fun e w' => e = .returned (.bool true) ∧ W = w' := fun x hx W => by
      subst hx
      have := refPoint_any (rfV s) W
      rw [show decide (szI (rfV s) ≠ 0) = true by simp [hok]] at this
      exact this
    have hby : ∀ x : Int, x = rfV s → ∀ W, Calls Try.prog 65 #[.int .i64 x] W fun e w' => e = .returned (.string (mk (ptB (rfV s).toNat))) ∧ Below W.heap.size W w' := fun x hx W => by
      subst hx
      have := refBytes_any (rfV s).toNat W (by omega)
      rw [show (((rfV s).toNat : Nat) : Int) = rfV s by omega] at this
      exact this
    by_cases he : mk (ptB (rfV s).toNat) = s.extract 0 1
    · have HR : Hid (nx s 0 = (rfV s, (1 : Int))) := by
        show _ = _
        have := rf_yes (s := s) (by omega) hok (by rw [eN]; exact he)
        rw [this, eN]
        rfl
      rw [he] at hby
      generalize s.extract 0 1 = T at hsl hby
      clear eN he hok
      have HV : Hid (rfV s = bt s 0) := eV
      rw [eV] at hpt hby
      clear eV hz
      go_enter Try.func56, Try.ntmps56
      go_wp2
      go_rounds 1
      go_region_held3 (fun _ => True) (trivial) (first | (go_at_call 64; refine (hpt _ (by omega) _).mono ?_; rintro e w1 ⟨rfl, rfl⟩) | (go_at_call 65; refine (hby _ (by omega) _).mono ?_; rintro e w2 ⟨rfl, hb2⟩))
      all_goals go_wp2
      all_goals go_ret2
      all_goals exact ⟨by rw [HR.out, HV.out]; rfl, Below.trans (Below.refl _ _).drew hb2⟩
    · have HR : Hid (nx s 0 = (0, 0)) := rf_no (fun h => he (by rw [eN] at h; exact h.2.2))
      have hne := list_ne he
      have hne2 : ((mk (ptB (rfV s).toNat)).toList == (s.extract 0 1).toList) = false := by simpa using hne
      generalize s.extract 0 1 = T at hsl hne hne2
      generalize mk (ptB (rfV s).toNat) = F at hby hne hne2
      rw [eV] at hpt hby
      clear eN eV hz hok he
      go_enter Try.func56, Try.ntmps56
      go_wp2
      go_rounds 1
      go_region_held3 (fun _ => True) (trivial) (first | (go_at_call 64; refine (hpt _ (by omega) _).mono ?_; rintro e w1 ⟨rfl, rfl⟩) | (go_at_call 65; refine (hby _ (by omega) _).mono ?_; rintro e w2 ⟨rfl, hb2⟩))
      all_goals go_wp2
      all_goals go_ret2
      all_goals exact ⟨by rw [HR.out]; rfl, Below.trans (Below.refl _ _).drew hb2⟩

theorem refFirst_any (s : ByteArray) (w : World) (hs : s.size ≤ 1048576) (h0 : 0 < s.size) :
    Calls Try.prog 56 #[.string s] w fun e w' => e = .returned (.tuple #[.int .i64 (nx s 0).1, .int .i64 (nx s 0).2]) ∧ Below w.heap.size w w' := by
  by_cases c1 : bt s 0 < 192
  · exact refFirst_low s w hs h0 c1
  · by_cases c2 : bt s 0 < 224
    · exact refFirst_two s w hs h0 (by omega) c2
    · by_cases c3 : bt s 0 < 240
      · exact refFirst_three s w hs h0 (by omega) c3
      · by_cases c4 : bt s 0 < 248
        · exact refFirst_four s w hs h0 (by omega) c4
        · exact refFirst_high s w hs h0 (by omega)
end Go.Proofs.Ytphbjbigjpfjfaa

/-
  The contracts of the reference's Points and Len.
-/
namespace Go.Proofs.Ytphbjbigjpfjfaa
open Go.ChangeShapes Go.WideShapes Go.ChangeAt Go.RowKit Go.PlainAid

theorem suf_size (s : ByteArray) (a : Nat) : (s.extract a s.size).size = s.size - a := by rw [ByteArray.size_extract]; omega
theorem suf_bt (s : ByteArray) (a i : Nat) (h : a + i < s.size) : bt (s.extract a s.size) i = bt s (a + i) := by
  rw [bt_data _ _ (by rw [suf_size]; omega), bt_data s _ h]
  congr 2
  simp only [Lib.extract_data]
  simp
theorem suf_at {s : ByteArray} {a : Nat} {F : List UInt8} (ha : a ≤ s.size) : At (s.extract a s.size) 0 F ↔ At s a F := by
  constructor
  · rintro ⟨h1, h2⟩
    rw [suf_size] at h1
    exact ⟨by omega, fun i hi => by rw [← suf_bt s a i (by omega)]; simpa using h2 i hi⟩
  · rintro ⟨h1, h2⟩
    exact ⟨by rw [suf_size]; omega, fun i hi => by rw [Nat.zero_add, suf_bt s a i (by omega)]; exact h2 i hi⟩
theorem suf_nx (s : ByteArray) (a : Nat) (ha : a ≤ s.size) : nx (s.extract a s.size) 0 = nx s a := by
  by_cases h : (nx s a).2 = 0
  · by_cases h' : (nx (s.extract a s.size) 0).2 = 0
    · rw [nx_pair _ _ h, nx_pair _ _ h']
    · obtain ⟨n, _, g2, g3, _⟩ := nx_of h'
      have := nx_at g2 ((suf_at ha).1 g3)
      rw [this] at h
      have hl := ptB_len n
      simp only at h
      omega
  · obtain ⟨n, g1, g2, g3, g4⟩ := nx_of h
    rw [nx_at g2 ((suf_at ha).2 g3), ← g1, ← g4]
theorem suf_suf (s : ByteArray) (a b : Nat) : (s.extract a s.size).extract b (s.extract a s.size).size = s.extract (a + b) s.size := by
  apply ByteArray.ext
  apply Array.ext'
  simp only [Lib.extract_data, suf_size]
  apply List.ext_getElem?
  intro i
  simp only [List.getElem?_take, List.getElem?_drop]
  by_cases h : i < s.size - a - b
  · rw [if_pos (by omega), if_pos (by omega), if_pos (by omega)]
    congr 1; omega
  · rw [if_neg (by omega)]
    by_cases h2 : i < s.size - (a + b)
    · omega
    · rw [if_neg h2]

/-- How long a text in a slot is. -/
def szV : Value → Nat | .string s => s.size | _ => 0

theorem slice_tail (t : ByteArray) (k : Nat) (r : Int) (hr : r = (k : Int)) (W : World) (h : k ≤ t.size) :
    (Instr.slice 9 (.string t) (some (.int .i64 r)) none none).run Try.prog W = .ok (.string (t.extract k t.size)) W := by
  subst hr
  rw [run_slice_string_l (P := Try.prog) W 9 t Try.underlying9 .i64 (k : Int) (by omega) (by omega), show ((k : Int)).toNat = k by omega]

/-- A step of the reference, behind k code points. -/
theorem step_ok (s : ByteArray) (k : Nat) (hs : s.size ≤ 1048576) (hok : Ok s (k + 1)) :
    ∃ (t t' : ByteArray) (r1 r2 : Int), t = s.extract (pos s k) s.size ∧ t' = s.extract (pos s (k + 1)) s.size ∧ 0 < t.size ∧ t'.size < t.size ∧ t.size ≤ 1048576 ∧ (r2 == 0) = false ∧ ptL s (k + 1) = ptL s k ++ [r1] ∧
    (∀ W, Calls Try.prog 56 #[.string t] W fun e w' => e = .returned (.tuple #[.int .i64 r1, .int .i64 r2]) ∧ Below W.heap.size W w') ∧
    (∀ W, (Instr.slice 9 (.string t) (some (.int .i64 r2)) none none).run Try.prog W = .ok (.string t') W) := by
  have h1 := hok k (by omega)
  have h2 := nx_bd s _ h1.2
  have h3 := pos_succ h1.2
  have hsz := suf_size s (pos s k)
  have hnx := suf_nx s (pos s k) (by omega)
  refine ⟨s.extract (pos s k) s.size, s.extract (pos s (k + 1)) s.size, (nx s (pos s k)).1, (nx s (pos s k)).2, rfl, rfl, by omega, by rw [suf_size, suf_size]; omega, by omega, by simpa using h1.2, ptL_succ s k, fun W => ?_, fun W => ?_⟩
  · have := refFirst_any (s.extract (pos s k) s.size) W (by omega) (by omega)
    rwa [hnx] at this
  · have h4 : (nx s (pos s k)).2 = ((pos s (k + 1) - pos s k : Nat) : Int) := by omega
    rw [slice_tail _ _ _ h4 W (by rw [suf_size]; omega), suf_suf, show pos s k + (pos s (k + 1) - pos s k) = pos s (k + 1) by omega]

set_option maxRecDepth 20000 in
set_option maxHeartbeats 2000000 in
theorem refPoints_ok (s : ByteArray) (n : Nat) (w : World) (hs : s.size ≤ 1048576) (hv : Valid s n) :
    Calls Try.prog 37 #[.string s] w fun e w' => ∃ v, e = .returned (.tuple #[v, .bool true]) ∧ w'.ownsRow w.heap.size 3 1 v n (iv (ptL s n)) ∧ Below w.heap.size w w' := by
  have hnp := pos_le hv.1 n (Nat.le_refl _)
  obtain ⟨i0, hi, hz0, hz1, hz2⟩ := info_parts Try.info3
  go_enter Try.func37, Try.ntmps37
  go_wp2
  go_loopw [0, 4] (fun t v wr => ∃ (k : Nat) (T : ByteArray), k ≤ n ∧ t = .string T ∧ Hid (T = s.extract (pos s k) s.size) ∧ wr.ownsRow w.heap.size 3 1 v k (iv (ptL s k)) ∧ Below w.heap.size w wr) (fun t _ _ => szV t)
  case atStart => exact ⟨0, s, by omega, rfl, (extract_all s).symm, World.ownsRow_nil _ _ _ _, Below.refl _ _⟩
  case round =>
    obtain ⟨k, T, hk, rfl, HT, hown, hbl⟩ := hrel
    have hsz := hbl.size
    by_cases hlt : k < n
    · obtain ⟨t, t', r1, r2, e1, e2, p0, p1, p2, hne, HL0, hc, hsl⟩ := step_ok s k hs (ok_mono hv.1 (by omega))
      obtain rfl : T = t := by rw [HT.out, e1]
      have HL : Hid (ptL s (k + 1) = ptL s k ++ [r1]) := HL0
      have HT' : Hid (t' = s.extract (pos s (k + 1)) s.size) := e2
      clear e1 e2 HL0 HT
      go_wp2_with (first | (go_at_call 56; refine (hc _).mono ?_; rintro e w1 ⟨rfl, hb1⟩; have hs1 := hb1.size; have hown1 := own_below hown hb1; clear hc) | (at_builtin; refine wpList_append_own _ rfl (.tmp 17) (.tmp 19) 64 rfl w.heap.size 3 i0 (.int .i64 0) 1 8 Try.underlying64 hi hz0 hz1 hz2 rfl (by decide) _ _ _ rfl (hown1.alloc _) ⟨_, 0, none⟩ 1 1 [.int .i64 r1] rfl rfl (one_new _ _ _) (one_one _ rfl) (by unfold maxLen; omega) (by omega) (by simp; omega) ?_; intro v' w3 ho3 hg3 hnil3))
      have R1 := own_snocI ho3
      have R2 := below_app (Nat.le_refl _) (hbl.trans (hb1.mono hsz)) hown1 hg3
      rw [← HL.out] at R1
      clear ho3 hg3 hown hown1 hnil3
      go_roundw
      case rel => exact ⟨k + 1, t', by omega, rfl, HT', R1, R2⟩
      case measure => simp [szV]; omega
    · have e : k = n := by omega
      subst e
      have e2 : T.size = 0 := by rw [HT.out, suf_size, hv.2]; omega
      have e3 : ¬ (0 : Int) < (T.size : Int) := by omega
      clear e2
      go_wp2
      go_ret2
      exact ⟨_, rfl, hown, hbl⟩

set_option maxRecDepth 20000 in
set_option maxHeartbeats 2000000 in
theorem refPoints_bad (s : ByteArray) (n : Nat) (w : World) (hs : s.size ≤ 1048576) (hv : Bad s n) :
    Calls Try.prog 37 #[.string s] w fun e w' => e = .returned (.tuple #[.slice none 0 0, .bool false]) ∧ Below w.heap.size w w' := by
  have hnp := pos_le hv.1 n (Nat.le_refl _)
  obtain ⟨i0, hi, hz0, hz1, hz2⟩ := info_parts Try.info3
  go_enter Try.func37, Try.ntmps37
  go_wp2
  go_loopw [0, 4] (fun t v wr => ∃ (k : Nat) (T : ByteArray), k ≤ n ∧ t = .string T ∧ Hid (T = s.extract (pos s k) s.size) ∧ wr.ownsRow w.heap.size 3 1 v k (iv (ptL s k)) ∧ Below w.heap.size w wr) (fun t _ _ => szV t)
  case atStart => exact ⟨0, s, by omega, rfl, (extract_all s).symm, World.ownsRow_nil _ _ _ _, Below.refl _ _⟩
  case round =>
    obtain ⟨k, T, hk, rfl, HT, hown, hbl⟩ := hrel
    have hsz := hbl.size
    by_cases hlt : k < n
    · obtain ⟨t, t', r1, r2, e1, e2, p0, p1, p2, hne, HL0, hc, hsl⟩ := step_ok s k hs (ok_mono hv.1 (by omega))
      obtain rfl : T = t := by rw [HT.out, e1]
      have HL : Hid (ptL s (k + 1) = ptL s k ++ [r1]) := HL0
      have HT' : Hid (t' = s.extract (pos s (k + 1)) s.size) := e2
      clear e1 e2 HL0 HT
      go_wp2_with (first | (go_at_call 56; refine (hc _).mono ?_; rintro e w1 ⟨rfl, hb1⟩; have hs1 := hb1.size; have hown1 := own_below hown hb1; clear hc) | (at_builtin; refine wpList_append_own _ rfl (.tmp 17) (.tmp 19) 64 rfl w.heap.size 3 i0 (.int .i64 0) 1 8 Try.underlying64 hi hz0 hz1 hz2 rfl (by decide) _ _ _ rfl (hown1.alloc _) ⟨_, 0, none⟩ 1 1 [.int .i64 r1] rfl rfl (one_new _ _ _) (one_one _ rfl) (by unfold maxLen; omega) (by omega) (by simp; omega) ?_; intro v' w3 ho3 hg3 hnil3))
      have R1 := own_snocI ho3
      have R2 := below_app (Nat.le_refl _) (hbl.trans (hb1.mono hsz)) hown1 hg3
      rw [← HL.out] at R1
      clear ho3 hg3 hown hown1 hnil3
      go_roundw
      case rel => exact ⟨k + 1, t', by omega, rfl, HT', R1, R2⟩
      case measure => simp [szV]; omega
    · have e : k = n := by omega
      subst e
      obtain ⟨_, h2, h3⟩ := hv
      have p0 : 0 < T.size := by rw [HT.out, suf_size]; omega
      have hc : ∀ W, Calls Try.prog 56 #[.string T] W fun e w' => e = .returned (.tuple #[.int .i64 0, .int .i64 0]) ∧ Below W.heap.size W w' := fun W => by
        have h4 : T.size ≤ 1048576 := by rw [HT.out, suf_size]; omega
        have := refFirst_any T W h4 p0
        rwa [show nx T 0 = (0, 0) by rw [HT.out, suf_nx s _ (by omega)]; exact nx_pair _ _ h3] at this
      clear HT hown
      go_wp2_with (go_at_call 56; refine (hc _).mono ?_; rintro e w1 ⟨rfl, hb1⟩; clear hc)
      go_ret2
      exact ⟨rfl, hbl.trans (hb1.mono hsz)⟩
end Go.Proofs.Ytphbjbigjpfjfaa

/-
  Operations and steps as data; the contracts of stepOf and of the methods op.
-/
namespace Go.Proofs.Ytphbjbigjpfjfaa
open Go.ChangeShapes Go.WideShapes Go.ChangeAt Go.RowKit Go.PlainAid

/-- An operation. -/
structure OpD where
  k : Int
  n : Int
  t : ByteArray

def OpD.val (o : OpD) : Value := .agg #[.int .i64 o.k, .int .i64 o.n, .string o.t]
/-- Its numbers are ints, its text is no longer than texts are. -/
structure OpD.Ok (o : OpD) : Prop where
  k0 : -9223372036854775808 ≤ o.k
  k1 : o.k ≤ 9223372036854775807
  n0 : -9223372036854775808 ≤ o.n
  n1 : o.n ≤ 9223372036854775807
  t1 : o.t.size ≤ maxLen

/-- At v lies a delta. -/
def RdD (w : World) (v : Value) (l : List OpD) : Prop :=
  ∃ ao cp, v = .slice ao l.length cp ∧ (l.length ≤ cp ∧ (ao = none → cp = 0)) ∧ ∀ (i : Nat) (o : OpD), l[i]? = some o → ∃ b off, ao = some ⟨b, off, none⟩ ∧ b < w.heap.size ∧ w.cell? ⟨b, off + i * 3, none⟩ = some (.int .i64 o.k) ∧ w.cell? ⟨b, off + i * 3 + 1, none⟩ = some (.int .i64 o.n) ∧ w.cell? ⟨b, off + i * 3 + 2, none⟩ = some (.string o.t)

theorem RdD.below {w w' : World} {v : Value} {l : List OpD} (h : RdD w v l) (hb : Below w.heap.size w w') : RdD w' v l := by
  obtain ⟨ao, cp, e, h0, h1⟩ := h
  refine ⟨ao, cp, e, h0, fun i o hi => ?_⟩
  obtain ⟨b, off, e1, hl, c0, c1, c2⟩ := h1 i o hi
  exact ⟨b, off, e1, Nat.lt_of_lt_of_le hl hb.size, (hb.cell (p := ⟨b, off + i * 3, none⟩) hl).trans c0, (hb.cell (p := ⟨b, off + i * 3 + 1, none⟩) hl).trans c1, (hb.cell (p := ⟨b, off + i * 3 + 2, none⟩) hl).trans c2⟩
theorem RdD.nil (w : World) : RdD w (.slice none 0 0) [] := ⟨none, 0, rfl, ⟨Nat.le_refl _, fun _ => rfl⟩, fun i o h => by simp at h⟩

/-- How many code points a text has; -1: it is not valid. -/
def cplGo (s : ByteArray) : Nat → Nat → Nat → Int
  | 0, _, k => (k : Int)
  | f + 1, p, k => if p < s.size then (if (nx s p).2 = 0 then -1 else cplGo s f (p + (nx s p).2.toNat) (k + 1)) else (k : Int)
def cpl (s : ByteArray) : Int := cplGo s (s.size + 1) 0 0

theorem cplGo_ok {s : ByteArray} {n : Nat} (hv : Valid s n) : ∀ (f j : Nat), j ≤ n → n - j < f → cplGo s f (pos s j) j = (n : Int)
  | 0, _, _, h => by omega
  | f + 1, j, hj, hf => by
    rw [cplGo]
    by_cases h : j = n
    · subst h
      rw [if_neg (by rw [hv.2]; omega)]
    · have h1 := hv.1 j (by omega)
      rw [if_pos h1.1, if_neg h1.2]
      exact cplGo_ok hv f (j + 1) (by omega) (by omega)
theorem cplGo_bad {s : ByteArray} {n : Nat} (hv : Bad s n) : ∀ (f j : Nat), j ≤ n → n - j < f → cplGo s f (pos s j) j = -1
  | 0, _, _, h => by omega
  | f + 1, j, hj, hf => by
    rw [cplGo]
    by_cases h : j = n
    · subst h
      rw [if_pos hv.2.1, if_pos hv.2.2]
    · have h1 := hv.1 j (by omega)
      rw [if_pos h1.1, if_neg h1.2]
      exact cplGo_bad hv f (j + 1) (by omega) (by omega)
theorem cpl_ok {s : ByteArray} {n : Nat} (hv : Valid s n) : cpl s = (n : Int) := by
  have h := pos_le hv.1 n (Nat.le_refl _)
  exact cplGo_ok hv (s.size + 1) 0 (by omega) (by omega)
theorem cpl_bad {s : ByteArray} {n : Nat} (hv : Bad s n) : cpl s = -1 := by
  have h := pos_le hv.1 n (Nat.le_refl _)
  exact cplGo_bad hv (s.size + 1) 0 (by omega) (by omega)
theorem cpl_valid {s : ByteArray} (h : 0 ≤ cpl s) : Valid s (cpl s).toNat := by
  rcases valid_or_bad s with ⟨n, hv⟩ | ⟨k, hb⟩
  · rw [cpl_ok hv]; simpa using hv
  · rw [cpl_bad hb] at h; omega
theorem cpl_le (s : ByteArray) : -1 ≤ cpl s ∧ cpl s ≤ s.size := by
  rcases valid_or_bad s with ⟨n, hv⟩ | ⟨k, hb⟩
  · have h := pos_le hv.1 n (Nat.le_refl _)
    rw [cpl_ok hv]; omega
  · rw [cpl_bad hb]; omega
theorem len_any (s : ByteArray) (w : World) (hs : s.size ≤ maxLen) :
    Calls Try.prog 38 #[.string s] w fun e w' => e = .returned (.int .i64 (cpl s)) ∧ w = w' := by
  rcases valid_or_bad s with ⟨n, hv⟩ | ⟨k, hb⟩
  · rw [cpl_ok hv]; exact len_ok s n w hs hv
  · rw [cpl_bad hb]; exact len_bad s k w hs hb

/-- A step. -/
inductive St where
  | keep (n : Nat)
  | rem (n : Nat)
  | ins (t : ByteArray)
def St.val : St → Value
  | .keep n => .iface 90 (.int .i64 (n : Int))
  | .rem n => .iface 91 (.int .i64 (n : Int))
  | .ins t => .iface 92 (.string t)
def St.op : St → OpD
  | .keep n => ⟨1, n, ⟨#[]⟩⟩
  | .rem n => ⟨3, n, ⟨#[]⟩⟩
  | .ins t => ⟨2, 0, t⟩
/-- The step that an operation is. -/
def stOf (o : OpD) : Option St :=
  if 1 ≤ o.n ∧ o.n ≤ 1000 ∧ o.t.size = 0 then (if o.k = 1 then some (.keep o.n.toNat) else if o.k = 3 then some (.rem o.n.toNat) else none)
  else if o.k = 2 ∧ o.n = 0 ∧ 0 < cpl o.t then some (.ins o.t) else none
def stO : Option St → Value
  | none => .nilIface
  | some s => s.val

theorem empty_eq {s : ByteArray} (h : s.size = 0) : s = ⟨#[]⟩ := ByteArray.ext (Array.eq_empty_of_size_eq_zero h)
theorem empty_tt {s : ByteArray} (h : s.size = 0) : s.toList.isEmpty = true := by
  rw [Go.ByteArray.toList_eq]
  have : s.data.toList.length = 0 := by rw [data_len]; exact h
  cases hh : s.data.toList with
  | nil => rfl
  | cons a l => rw [hh] at this; simp at this
theorem empty_ff {s : ByteArray} (h : s.size ≠ 0) : s.toList.isEmpty = false := by
  rw [Go.ByteArray.toList_eq]
  have : s.data.toList.length ≠ 0 := by rw [data_len]; exact h
  cases hh : s.data.toList with
  | nil => rw [hh] at this; simp at this
  | cons a l => rfl

set_option maxRecDepth 20000 in
set_option maxHeartbeats 1000000 in
theorem stepOf_yes (k n : Int) (t : ByteArray) (w : World) (h1 : 1 ≤ n) (h2 : n ≤ 1000) (h3 : t.size = 0) :
    Calls Try.prog 58 #[.agg #[.int .i64 k, .int .i64 n, .string t]] w fun e w' => e = .returned (stO (if k = 1 then some (.keep n.toNat) else if k = 3 then some (.rem n.toNat) else none)) ∧ Below w.heap.size w w' := by
  have hE := empty_tt h3
  obtain ⟨m, rfl⟩ := Int.eq_ofNat_of_zero_le (show 0 ≤ n by omega)
  by_cases k1 : k = 1
  · subst k1
    rw [if_pos rfl, Int.toNat_natCast]
    go_enter Try.func58, Try.ntmps58
    go_wp2
    go_ret
    exact ⟨rfl, (Below.refl _ _).alloc (Nat.le_refl _) _⟩
  · rw [if_neg k1]
    have k1' : (k == 1) = false := by simpa using k1
    by_cases k3 : k = 3
    · subst k3
      rw [if_pos rfl, Int.toNat_natCast]
      clear k1 k1'
      go_enter Try.func58, Try.ntmps58
      go_wp2
      go_ret
      exact ⟨rfl, (Below.refl _ _).alloc (Nat.le_refl _) _⟩
    · rw [if_neg k3]
      have k3' : (k == 3) = false := by simpa using k3
      by_cases k2 : k = 2
      · subst k2
        clear k1 k1' k3 k3'
        have n0 : ((m : Int) == 0) = false := by simp; omega
        go_enter Try.func58, Try.ntmps58
        go_wp2
        go_ret
        exact ⟨rfl, (Below.refl _ _).alloc (Nat.le_refl _) _⟩
      · have k2' : (k == 2) = false := by simpa using k2
        go_enter Try.func58, Try.ntmps58
        go_wp2
        go_ret
        exact ⟨rfl, (Below.refl _ _).alloc (Nat.le_refl _) _⟩

set_option maxRecDepth 20000 in
set_option maxHeartbeats 2000000 in
theorem stepOf_no (k n : Int) (t : ByteArray) (w : World) (ht : t.size ≤ maxLen) (h : ¬ (1 ≤ n ∧ n ≤ 1000 ∧ t.size = 0)) :
    Calls Try.prog 58 #[.agg #[.int .i64 k, .int .i64 n, .string t]] w fun e w' => e = .returned (stO (if k = 2 ∧ n = 0 ∧ 0 < cpl t then some (.ins t) else none)) ∧ Below w.heap.size w w' := by
  have hL := fun W => len_any t W ht
  by_cases k2 : k = 2
  · subst k2
    by_cases n0 : n = 0
    · subst n0
      clear h
      by_cases hp : 0 < cpl t
      · rw [if_pos ⟨rfl, rfl, hp⟩]
        generalize cpl t = c at hL hp
        go_enter Try.func58, Try.ntmps58
        go_wp2_with (go_at_call 38; refine (hL _).mono ?_; rintro e w1 ⟨rfl, rfl⟩)
        go_ret
        exact ⟨rfl, (Below.refl _ _).alloc (Nat.le_refl _) _⟩
      · rw [if_neg (fun q => hp q.2.2)]
        generalize cpl t = c at hL hp
        go_enter Try.func58, Try.ntmps58
        go_wp2_with (go_at_call 38; refine (hL _).mono ?_; rintro e w1 ⟨rfl, rfl⟩)
        go_ret
        exact ⟨rfl, (Below.refl _ _).alloc (Nat.le_refl _) _⟩
    · rw [if_neg (fun q => n0 q.2.1)]
      have n0' : (n == 0) = false := by simpa using n0
      by_cases c1 : 1 ≤ n
      · by_cases c2 : n ≤ 1000
        · have hE := empty_ff (s := t) (fun q => h ⟨c1, c2, q⟩)
          clear h
          go_enter Try.func58, Try.ntmps58
          go_wp2
          go_ret
          exact ⟨rfl, (Below.refl _ _).alloc (Nat.le_refl _) _⟩
        · clear h
          go_enter Try.func58, Try.ntmps58
          go_wp2
          go_ret
          exact ⟨rfl, (Below.refl _ _).alloc (Nat.le_refl _) _⟩
      · clear h
        go_enter Try.func58, Try.ntmps58
        go_wp2
        go_ret
        exact ⟨rfl, (Below.refl _ _).alloc (Nat.le_refl _) _⟩
  · rw [if_neg (fun q => k2 q.1)]
    have k2' : (k == 2) = false := by simpa using k2
    by_cases c1 : 1 ≤ n
    · by_cases c2 : n ≤ 1000
      · have hE := empty_ff (s := t) (fun q => h ⟨c1, c2, q⟩)
        clear h
        by_cases k1 : k = 1
        · subst k1
          go_enter Try.func58, Try.ntmps58
          go_wp2
          go_ret
          exact ⟨rfl, (Below.refl _ _).alloc (Nat.le_refl _) _⟩
        · have k1' : (k == 1) = false := by simpa using k1
          by_cases k3 : k = 3
          · subst k3
            go_enter Try.func58, Try.ntmps58
            go_wp2
            go_ret
            exact ⟨rfl, (Below.refl _ _).alloc (Nat.le_refl _) _⟩
          · have k3' : (k == 3) = false := by simpa using k3
            go_enter Try.func58, Try.ntmps58
            go_wp2
            go_ret
            exact ⟨rfl, (Below.refl _ _).alloc (Nat.le_refl _) _⟩
      · clear h
        by_cases k1 : k = 1
        · subst k1
          go_enter Try.func58, Try.ntmps58
          go_wp2
          go_ret
          exact ⟨rfl, (Below.refl _ _).alloc (Nat.le_refl _) _⟩
        · have k1' : (k == 1) = false := by simpa using k1
          by_cases k3 : k = 3
          · subst k3
            go_enter Try.func58, Try.ntmps58
            go_wp2
            go_ret
            exact ⟨rfl, (Below.refl _ _).alloc (Nat.le_refl _) _⟩
          · have k3' : (k == 3) = false := by simpa using k3
            go_enter Try.func58, Try.ntmps58
            go_wp2
            go_ret
            exact ⟨rfl, (Below.refl _ _).alloc (Nat.le_refl _) _⟩
    · clear h
      by_cases k1 : k = 1
      · subst k1
        go_enter Try.func58, Try.ntmps58
        go_wp2
        go_ret
        exact ⟨rfl, (Below.refl _ _).alloc (Nat.le_refl _) _⟩
      · have k1' : (k == 1) = false := by simpa using k1
        by_cases k3 : k = 3
        · subst k3
          go_enter Try.func58, Try.ntmps58
          go_wp2
          go_ret
          exact ⟨rfl, (Below.refl _ _).alloc (Nat.le_refl _) _⟩
        · have k3' : (k == 3) = false := by simpa using k3
          go_enter Try.func58, Try.ntmps58
          go_wp2
          go_ret
          exact ⟨rfl, (Below.refl _ _).alloc (Nat.le_refl _) _⟩

theorem stepOf_any (o : OpD) (w : World) (ho : o.t.size ≤ maxLen) :
    Calls Try.prog 58 #[.agg #[.int .i64 o.k, .int .i64 o.n, .string o.t]] w fun e w' => e = .returned (stO (stOf o)) ∧ Below w.heap.size w w' := by
  by_cases h : 1 ≤ o.n ∧ o.n ≤ 1000 ∧ o.t.size = 0
  · rw [stOf, if_pos h]
    exact stepOf_yes _ _ _ w h.1 h.2.1 h.2.2
  · rw [stOf, if_neg h]
    exact stepOf_no _ _ _ w ho h

theorem Try.sizeOp : (Try.prog.info? 50).map (·.size) = some 3 := by kernel_rfl
set_option maxRecDepth 20000 in
set_option maxHeartbeats 400000 in
theorem keepOp_any (n : Int) (w : World) : Calls Try.prog 68 #[.int .i64 n] w fun e w' => e = .returned (.agg #[.int .i64 1, .int .i64 n, .string ⟨#[]⟩]) ∧ Below w.heap.size w w' := by
  go_enter Try.func68, Try.ntmps68
  go_wp2
  refine bodyPost_ret (results_cell_row rfl _ _ w.heap.size 50 _ (0, 0) _ rfl (heap_alloc_new w _) Try.underlying50 rfl Try.sizeOp) rfl ?_
  exact ⟨rfl, (Below.refl _ _).alloc (Nat.le_refl _) _⟩
set_option maxRecDepth 20000 in
set_option maxHeartbeats 400000 in
theorem remOp_any (n : Int) (w : World) : Calls Try.prog 70 #[.int .i64 n] w fun e w' => e = .returned (.agg #[.int .i64 3, .int .i64 n, .string ⟨#[]⟩]) ∧ Below w.heap.size w w' := by
  go_enter Try.func70, Try.ntmps70
  go_wp2
  refine bodyPost_ret (results_cell_row rfl _ _ w.heap.size 50 _ (0, 0) _ rfl (heap_alloc_new w _) Try.underlying50 rfl Try.sizeOp) rfl ?_
  exact ⟨rfl, (Below.refl _ _).alloc (Nat.le_refl _) _⟩
set_option maxRecDepth 20000 in
set_option maxHeartbeats 400000 in
theorem insOp_any (t : ByteArray) (w : World) : Calls Try.prog 69 #[.string t] w fun e w' => e = .returned (.agg #[.int .i64 2, .int .i64 0, .string t]) ∧ Below w.heap.size w w' := by
  go_enter Try.func69, Try.ntmps69
  go_wp2
  refine bodyPost_ret (results_cell_row rfl _ _ w.heap.size 50 _ (0, 0) _ rfl (heap_alloc_new w _) Try.underlying50 rfl Try.sizeOp) rfl ?_
  exact ⟨rfl, (Below.refl _ _).alloc (Nat.le_refl _) _⟩
end Go.Proofs.Ytphbjbigjpfjfaa

/-
  The contracts of lengths and stepsOf, Check, Base and Target.
-/
namespace Go.Proofs.Ytphbjbigjpfjfaa
open Go.ChangeShapes Go.WideShapes Go.ChangeAt Go.RowKit Go.PlainAid

/-- The slice v reads as these values, one a cell. -/
def RdV (w : World) (v : Value) (xs : List Value) : Prop :=
  ∃ ao cp, v = .slice ao xs.length cp ∧ ∀ (i : Nat) (x : Value), xs[i]? = some x → ∃ b off, ao = some ⟨b, off, none⟩ ∧ b < w.heap.size ∧ w.cell? ⟨b, off + i, none⟩ = some x

theorem RdV.below {w w' : World} {v : Value} {l : List Value} (h : RdV w v l) (hb : Below w.heap.size w w') : RdV w' v l := by
  obtain ⟨ao, cp, e, h1⟩ := h
  refine ⟨ao, cp, e, fun i o hi => ?_⟩
  obtain ⟨b, off, e1, hl, c0⟩ := h1 i o hi
  exact ⟨b, off, e1, Nat.lt_of_lt_of_le hl hb.size, (hb.cell (p := ⟨b, off + i, none⟩) hl).trans c0⟩
theorem rdv_own {w : World} {base e : Nat} {v : Value} {xs : List Value} {n : Nat} (h : w.ownsRow base e 1 v n xs) : RdV w v xs := by
  have hl := h.1
  rcases h.2 with ⟨rfl, h0⟩ | ⟨g, cap, cur, rfl, hb, hg, hn, _, hc, ht⟩
  · subst h0
    have : xs = [] := List.eq_nil_of_length_eq_zero (by omega)
    subst this
    exact ⟨none, 0, rfl, fun i x h => by simp at h⟩
  · refine ⟨_, cap, by rw [hl, Nat.mul_one], fun i x hx => ⟨g, 0, rfl, ?_, ?_⟩⟩
    · exact (h.lt g rfl).2
    · have := h.cells (g := g) rfl i x hx
      have hadd : (⟨g, 0, none⟩ : Addr).add i = ⟨g, 0 + i, none⟩ := by unfold Addr.add; split <;> simp_all
      rw [hadd] at this
      exact this

def St.b : St → Nat
  | .keep n => n
  | .rem n => n
  | .ins _ => 0
def St.c : St → Nat
  | .keep n => n
  | .rem _ => 0
  | .ins t => (cpl t).toNat
def bsum (l : List St) : Nat := (l.map St.b).sum
def tsum (l : List St) : Nat := (l.map St.c).sum
def sv (l : List St) : List Value := l.map St.val
/-- A step that may be. -/
def St.Ok : St → Prop
  | .keep n => 1 ≤ n ∧ n ≤ 1000
  | .rem n => 1 ≤ n ∧ n ≤ 1000
  | .ins t => 0 < cpl t ∧ t.size ≤ 140737488355328

theorem sv_length (l : List St) : (sv l).length = l.length := by simp [sv]
theorem sv_append (a b : List St) : sv (a ++ b) = sv a ++ sv b := by simp [sv]
theorem bsum_append (a b : List St) : bsum (a ++ b) = bsum a + bsum b := by simp [bsum]
theorem tsum_append (a b : List St) : tsum (a ++ b) = tsum a + tsum b := by simp [tsum]
theorem bsum_take (l : List St) (k : Nat) (h : k < l.length) : bsum (l.take (k + 1)) = bsum (l.take k) + (l[k]).b := by
  rw [List.take_succ_eq_append_getElem h, bsum_append]; simp [bsum]
theorem tsum_take (l : List St) (k : Nat) (h : k < l.length) : tsum (l.take (k + 1)) = tsum (l.take k) + (l[k]).c := by
  rw [List.take_succ_eq_append_getElem h, tsum_append]; simp [tsum]
theorem st_bd {s : St} (h : s.Ok) : s.b ≤ 1000 ∧ s.c ≤ 140737488355328 := by
  cases s with
  | keep n => simp [St.Ok] at h; simp [St.b, St.c]; omega
  | rem n => simp [St.Ok] at h; simp [St.b, St.c]; omega
  | ins t => simp [St.Ok] at h; have := cpl_le t; simp [St.b, St.c]; omega
theorem sum_bd : ∀ (l : List St), (∀ s ∈ l, s.Ok) → bsum l ≤ 1000 * l.length ∧ tsum l ≤ 140737488355328 * l.length
  | [], _ => by simp [bsum, tsum]
  | s :: l, h => by
    have h1 := st_bd (h s (by simp))
    have h2 := sum_bd l (fun x hx => h x (by simp [hx]))
    have e1 : bsum (s :: l) = s.b + bsum l := by simp [bsum]
    have e2 : tsum (s :: l) = s.c + tsum l := by simp [tsum]
    rw [e1, e2, List.length_cons]
    omega
theorem ok_take {l : List St} (h : ∀ s ∈ l, s.Ok) (k : Nat) : ∀ s ∈ l.take k, s.Ok := fun s hs => h s (List.mem_of_mem_take hs)

theorem ta_kk (v : Value) (W : World) : (Instr.typeAssert (.iface 90 v) 88 90 true).run Try.prog W = .ok (.tuple #[v, .bool true]) W := by kernel_rfl
theorem ta_rk (v : Value) (W : World) : (Instr.typeAssert (.iface 91 v) 88 90 true).run Try.prog W = .ok (.tuple #[.int .i64 0, .bool false]) W := by kernel_rfl
theorem ta_rr (v : Value) (W : World) : (Instr.typeAssert (.iface 91 v) 88 91 true).run Try.prog W = .ok (.tuple #[v, .bool true]) W := by kernel_rfl
theorem ta_ik (v : Value) (W : World) : (Instr.typeAssert (.iface 92 v) 88 90 true).run Try.prog W = .ok (.tuple #[.int .i64 0, .bool false]) W := by kernel_rfl
theorem ta_ir (v : Value) (W : World) : (Instr.typeAssert (.iface 92 v) 88 91 true).run Try.prog W = .ok (.tuple #[.int .i64 0, .bool false]) W := by kernel_rfl
theorem ta_ii (v : Value) (W : World) : (Instr.typeAssert (.iface 92 v) 88 92 true).run Try.prog W = .ok (.tuple #[v, .bool true]) W := by kernel_rfl

set_option maxRecDepth 20000 in
set_option maxHeartbeats 2000000 in
theorem lengths_any (v : Value) (l : List St) (w : World) (hr : RdV w v (sv l)) (hl : l.length ≤ 3000) (ho : ∀ s ∈ l, s.Ok) :
    Calls Try.prog 40 #[v] w fun e w' => e = .returned (.tuple #[.int .i64 (bsum l : Int), .int .i64 (tsum l : Int)]) ∧ w = w' := by
  obtain ⟨ao, cp, rfl, hc⟩ := hr
  rw [sv_length]
  have kk := ta_kk
  have rk := ta_rk
  have rr := ta_rr
  have ik := ta_ik
  have ir := ta_ir
  have ii := ta_ii
  go_enter Try.func40, Try.ntmps40
  go_wp2
  go_loop [2, 3, 11] (fun b t i => ∃ k : Nat, k ≤ l.length ∧ i = .int .i64 (k : Int) ∧ b = .int .i64 (bsum (l.take k) : Int) ∧ t = .int .i64 (tsum (l.take k) : Int)) (fun _ _ i => l.length - (intOf i).toNat)
  case atStart => exact ⟨0, by omega, rfl, rfl, rfl⟩
  case round =>
    obtain ⟨k, hk, rfl, rfl, rfl⟩ := hrel
    have hsb := sum_bd _ (ok_take ho k)
    have hkl : (l.take k).length ≤ 3000 := by rw [List.length_take]; omega
    have b1 : (bsum (l.take k) : Int) ≤ 3000000 := by omega
    have t1 : (tsum (l.take k) : Int) ≤ 422212465065984000 := by omega
    clear hsb hkl
    by_cases hlt : k < l.length
    · have hlt' : (k : Int) < (l.length : Int) := by omega
      have hsk := ho l[k] (List.getElem_mem hlt)
      have HB : Hid (bsum (l.take (k + 1)) = bsum (l.take k) + (l[k]).b ∧ tsum (l.take (k + 1)) = tsum (l.take k) + (l[k]).c) := ⟨bsum_take l k hlt, tsum_take l k hlt⟩
      obtain ⟨b, off, rfl, hbl, c0⟩ := hc k (l[k]).val (by simp [sv, hlt])
      generalize l[k] = s at hsk HB c0
      clear hc ho
      generalize bsum (l.take k) = B at *
      generalize tsum (l.take k) = T at *
      cases s with
      | keep n =>
        simp only [St.val, St.Ok, St.b, St.c] at c0 hsk HB
        have n1 : (n : Int) ≤ 1000 := by omega
        go_wp2
        go_round
        case rel => exact ⟨k + 1, by omega, by go_num, by rw [HB.out.1]; go_num, by rw [HB.out.2]; go_num⟩
        case measure => simp [intOf]; omega
      | rem n =>
        simp only [St.val, St.Ok, St.b, St.c] at c0 hsk HB
        have n1 : (n : Int) ≤ 1000 := by omega
        go_wp2
        go_round
        case rel => exact ⟨k + 1, by omega, by go_num, by rw [HB.out.1]; go_num, by rw [HB.out.2]; go_num⟩
        case measure => simp [intOf]; omega
      | ins t =>
        simp only [St.val, St.Ok, St.b, St.c] at c0 hsk HB
        have hL := len_any t w (by unfold maxLen; omega)
        have hcl := cpl_le t
        obtain ⟨n, hn⟩ := Int.eq_ofNat_of_zero_le (show 0 ≤ cpl t by omega)
        rw [hn] at hL
        have n1 : (n : Int) ≤ 140737488355328 := by omega
        rw [hn, Int.toNat_natCast] at HB
        clear hcl hsk hn
        go_wp2_with (go_at_call 38; refine hL.mono ?_; rintro e w1 ⟨rfl, rfl⟩)
        go_round
        case rel => exact ⟨k + 1, by omega, by go_num, by rw [HB.out.1]; go_num, by rw [HB.out.2]; go_num⟩
        case measure => simp [intOf]; omega
    · have e : k = l.length := by omega
      subst e
      rw [List.take_length]
      go_wp2
      go_ret2
      exact ⟨rfl, rfl⟩
end Go.Proofs.Ytphbjbigjpfjfaa

/-
  The contracts of stepsOf, Check, Base and Target.
-/
namespace Go.Proofs.Ytphbjbigjpfjfaa
open Go.ChangeShapes Go.WideShapes Go.ChangeAt Go.RowKit Go.PlainAid

theorem Try.infoSt : (Try.prog.info? 88).map (fun i => (i.zero, i.size, i.bytes)) = some (some .nilIface, 1, 16) := by kernel_rfl

/-- A text that came in is no longer than memory. -/
def OpD.In (o : OpD) : Prop := o.t.size ≤ 140737488355328
/-- The steps of operations. -/
def stl (ds : List OpD) : List St := ds.filterMap stOf
/-- Check's error. -/
def chk (ds : List OpD) : Int := if 3000 < ds.length then 90 else if ds.any (fun o => (stOf o).isNone) then 90 else if 1000 < bsum (stl ds) ∨ 1000 < tsum (stl ds) then 91 else 0
def stR (ds : List OpD) : List St := if chk ds = 0 then stl ds else []

theorem stl_len (ds : List OpD) : (stl ds).length ≤ ds.length := List.length_filterMap_le ..
theorem stl_take {ds : List OpD} {k : Nat} (h : k < ds.length) {s : St} (hs : stOf ds[k] = some s) : stl (ds.take (k + 1)) = stl (ds.take k) ++ [s] := by
  rw [List.take_succ_eq_append_getElem h, stl, stl, List.filterMap_append]
  simp [hs]
theorem stOf_ok {o : OpD} {s : St} (hi : o.In) (h : stOf o = some s) : s.Ok := by
  unfold stOf at h
  split at h
  · rename_i h1
    split at h
    · cases h; simp only [St.Ok]; omega
    · split at h
      · cases h; simp only [St.Ok]; omega
      · cases h
  · split at h
    · rename_i h1
      cases h; exact ⟨h1.2.2, hi⟩
    · cases h
theorem stl_ok {ds : List OpD} (hi : ∀ o ∈ ds, o.In) : ∀ s ∈ stl ds, s.Ok := by
  intro s hs
  obtain ⟨o, ho, h⟩ := List.mem_filterMap.1 hs
  exact stOf_ok (hi o ho) h
theorem stR_ok {ds : List OpD} (hi : ∀ o ∈ ds, o.In) : ∀ s ∈ stR ds, s.Ok := by
  unfold stR
  split
  · exact stl_ok hi
  · simp
theorem any_none {ds : List OpD} {k : Nat} (h : k < ds.length) (hs : stOf ds[k] = none) : ds.any (fun o => (stOf o).isNone) = true :=
  List.any_eq_true.2 ⟨ds[k], List.getElem_mem h, by rw [hs]; rfl⟩
theorem stR_len (ds : List OpD) : (stR ds).length ≤ 3000 := by
  unfold stR
  split
  · rename_i h
    unfold chk at h
    split at h
    · omega
    · have := stl_len ds; omega
  · simp
theorem stR_bd (ds : List OpD) : bsum (stR ds) ≤ 1000 ∧ tsum (stR ds) ≤ 1000 := by
  unfold stR
  split
  · rename_i h
    unfold chk at h
    split at h; · omega
    split at h; · omega
    split at h; · omega
    omega
  · simp [bsum, tsum]
theorem chk_no (ds : List OpD) (h : chk ds ≠ 0) : stR ds = [] := if_neg h
theorem chk_yes (ds : List OpD) (h : chk ds = 0) : stR ds = stl ds := if_pos h
theorem nil_ne (v : Value) (T : TypeId) (W : World) : (binOp .eql 88 (.iface T v) .nilIface).run Try.prog W = .ok (.bool false) W := by kernel_rfl
theorem nil_eq (W : World) : (binOp .eql 88 .nilIface .nilIface).run Try.prog W = .ok (.bool true) W := by kernel_rfl
theorem val_ne (s : St) (W : World) : (binOp .eql 88 s.val .nilIface).run Try.prog W = .ok (.bool false) W := by
  cases s <;> exact nil_ne _ _ W
theorem val_one (s : St) : s.val.oneCell' = true := by cases s <;> rfl

set_option maxRecDepth 20000 in
set_option maxHeartbeats 4000000 in
theorem stepsOf_any (v : Value) (ds : List OpD) (w : World) (hr : RdD w v ds) (hm : ds.length ≤ maxLen) (hi : ∀ o ∈ ds, o.In) :
    Calls Try.prog 39 #[v] w fun e w' => ∃ u, e = .returned (.tuple #[u, .int .i64 (chk ds)]) ∧ w'.ownsRow w.heap.size 88 1 u (stR ds).length (sv (stR ds)) ∧ Below w.heap.size w w' := by
  obtain ⟨i0, hin, hz0, hz1, hz2⟩ := info_parts Try.infoSt
  obtain ⟨ao, cp, rfl, _, hc⟩ := hr
  unfold maxLen at hm
  by_cases hbig : 3000 < ds.length
  · have e1 : chk ds = 90 := by rw [chk, if_pos hbig]
    have e2 : stR ds = [] := chk_no ds (by rw [e1]; decide)
    rw [e1, e2]
    have hb' : (3000 : Int) < (ds.length : Int) := by omega
    clear hc hi hin hz0 hz1 hz2
    go_enter Try.func39, Try.ntmps39
    go_wp2
    go_ret2
    exact ⟨_, rfl, World.ownsRow_nil _ _ _ _, Below.refl _ _⟩
  · have hb' : ¬ (3000 : Int) < (ds.length : Int) := by omega
    have hvn := val_ne
    have hnn := nil_eq
    have HC : Hid (chk ds = if ds.any (fun o => (stOf o).isNone) then 90 else if 1000 < bsum (stl ds) ∨ 1000 < tsum (stl ds) then 91 else 0) := by show _ = _; rw [chk, if_neg hbig]
    go_enter Try.func39, Try.ntmps39
    go_wp2_with (refine wpList_make_own _ rfl _ (.tmp 14) 67 rfl w.heap.size 88 i0 .nilIface 1 Try.underlying67 hin hz0 hz1 .i64 .i64 (ds.length : Int) ds.length rfl rfl rfl (by rw [hz2]; omega) (by unfold maxLen; omega) (Nat.le_refl _) ?_; intro w2 ho2 hg2)
    have hb2 : Below w.heap.size w w2 := ⟨hg2.os, hg2.tape, hg2.output, hg2.size, fun k hk => hg2.block k hk (by simp)⟩
    clear hg2
    go_loopw [4, 18] (fun t i wr => ∃ k : Nat, k ≤ ds.length ∧ i = .int .i64 (k : Int) ∧ wr.ownsRow w.heap.size 88 1 t (stl (ds.take k)).length (sv (stl (ds.take k))) ∧ Below w.heap.size w wr ∧ Hid (∀ j (h : j < ds.length), j < k → stOf ds[j] ≠ none)) (fun _ i _ => ds.length - (intOf i).toNat)
    case atStart => exact ⟨0, by omega, rfl, ho2, hb2, fun j _ hj => by omega⟩
    case round =>
      obtain ⟨k, hk, rfl, hown, hbl, hall⟩ := hrel
      clear ho2
      have hsz := hbl.size
      by_cases hlt : k < ds.length
      · have hlt' : (k : Int) < (ds.length : Int) := by omega
        obtain ⟨b, off, rfl, hbb, c0, c1, c2⟩ := hc k ds[k] (by simp [hlt])
        have hBc : ∀ o, wr.cell? ⟨b, o, none⟩ = w.cell? ⟨b, o, none⟩ := fun o => hbl.cell (p := ⟨b, o, none⟩) hbb
        rw [← hBc] at c0 c1 c2
        have hin' := hi ds[k] (List.getElem_mem hlt)
        have HT : Hid (∀ s, stOf ds[k] = some s → stl (ds.take (k + 1)) = stl (ds.take k) ++ [s]) := fun s hs => stl_take hlt hs
        have HN : Hid (stOf ds[k] = none → chk ds = 90 ∧ stR ds = []) := fun hn => by
          have e1 : chk ds = 90 := by rw [HC.out, if_pos (any_none hlt hn)]
          exact ⟨e1, chk_no ds (by rw [e1]; decide)⟩
        have HA : Hid (∀ s, stOf ds[k] = some s → ∀ j (h : j < ds.length), j < k + 1 → stOf ds[j] ≠ none) := fun s hs j h hj => by
          by_cases e : j = k
          · subst e; rw [hs]; simp
          · exact hall.out j h (by omega)
        have hlen : (stl (ds.take k)).length ≤ 3000 := by have := stl_len (ds.take k); rw [List.length_take] at this; omega
        clear hBc hc hi hall HC
        generalize ds[k] = o at *
        have hS := fun W => stepOf_any o W (by unfold OpD.In at hin'; unfold maxLen; omega)
        cases ho : stOf o with
        | none =>
          rw [ho] at hS
          simp only [stO] at hS
          have HN' := HN.out ho
          have HQ : Hid (chk ds = 90 ∧ stR ds = []) := HN'
          clear HN HT HA ho HN'
          go_wp2_with (go_at_call 58; refine (hS _).mono ?_; rintro e w3 ⟨rfl, hb3⟩)
          go_ret2
          refine ⟨_, by rw [HQ.out.1]; rfl, ?_, ?_⟩
          · rw [HQ.out.2]
            exact World.ownsRow_nil _ _ _ _
          · exact ((hbl.alloc hsz _)).trans (hb3.mono (by simp; omega))
        | some s =>
          rw [ho] at hS
          simp only [stO] at hS
          have HT' : Hid (stl (ds.take (k + 1)) = stl (ds.take k) ++ [s]) := HT.out s ho
          have HA' : Hid (∀ j (h : j < ds.length), j < k + 1 → stOf ds[j] ≠ none) := HA.out s ho
          clear HN HT HA ho
          have HV : Hid (sv (stl (ds.take k) ++ [s]) = sv (stl (ds.take k)) ++ [s.val]) := by show _ = _; rw [sv_append]; rfl
          obtain ⟨T, u, hT⟩ : ∃ T u, s.val = .iface T u := by cases s <;> exact ⟨_, _, rfl⟩
          rw [hT] at hS HV
          have h1 := nil_ne u T
          clear hT hvn
          go_wp2_with (first | (go_at_call 58; refine (hS _).mono ?_; rintro e w3 ⟨rfl, hb3⟩; have hown3 := own_below (hown.alloc _) hb3; have hs3 := hb3.size; simp only [World.size_alloc] at hs3) | (at_builtin; refine wpList_append_own _ rfl (.tmp 26) (.tmp 28) 67 rfl w.heap.size 88 i0 .nilIface 1 16 Try.underlying67 hin hz0 hz1 hz2 rfl (by decide) _ _ _ rfl (hown3.alloc _) ⟨_, 0, none⟩ 1 1 [.iface T u] rfl rfl (one_new _ _ _) (one_one _ rfl) (by unfold maxLen; omega) (by omega) (by simp; omega) ?_; intro v' w4 ho4 hg4 hnil4))
          have R2 := below_app (Nat.le_refl _) ((hbl.alloc hsz _).trans (hb3.mono (by simp; omega))) hown3 hg4
          go_roundw
          case rel =>
            refine ⟨k + 1, by omega, by go_num, ?_, R2, HA'.out⟩
            rw [HT'.out, HV.out, List.length_append]
            exact ho4
          case measure => simp [intOf]; omega
      · have e : k = ds.length := by omega
        subst e
        rw [List.take_length] at hown
        have hany : ds.any (fun o => (stOf o).isNone) = false := by
          rw [List.any_eq_false]
          intro o ho
          obtain ⟨j, hj, rfl⟩ := List.getElem_of_mem ho
          have := hall.out j hj hj
          cases hh : stOf ds[j] with
          | none => exact absurd hh this
          | some s => simp
        have HC2 : Hid (chk ds = if 1000 < bsum (stl ds) ∨ 1000 < tsum (stl ds) then 91 else 0) := by show _ = _; rw [HC.out, hany]; rfl
        have hll := stl_len ds
        have hsk := stl_ok hi
        have hL := lengths_any _ (stl ds) wr (rdv_own hown) (by omega) hsk
        have hsb := sum_bd _ hsk
        clear hall HC hc hi hany hin hz0 hz1 hz2
        generalize hB : bsum (stl ds) = B at *
        generalize hT : tsum (stl ds) = T at *
        have hB1 : (B : Int) ≤ 3000000 := by omega
        have hT1 : (T : Int) ≤ 422212465065984000 := by omega
        by_cases c1 : (1000 : Int) < (B : Int)
        · have HQ : Hid (chk ds = 91 ∧ stR ds = []) := by
            have e1 : chk ds = 91 := by rw [HC2.out, if_pos (.inl (by omega))]
            exact ⟨e1, chk_no ds (by rw [e1]; decide)⟩
          clear HC2 hB hT hsb hsk hll
          go_wp2_with (go_at_call 40; refine hL.mono ?_; rintro e w3 ⟨rfl, rfl⟩)
          go_ret2
          exact ⟨_, by rw [HQ.out.1]; rfl, by rw [HQ.out.2]; exact World.ownsRow_nil _ _ _ _, hbl⟩
        · by_cases c2 : (1000 : Int) < (T : Int)
          · have HQ : Hid (chk ds = 91 ∧ stR ds = []) := by
              have e1 : chk ds = 91 := by rw [HC2.out, if_pos (.inr (by omega))]
              exact ⟨e1, chk_no ds (by rw [e1]; decide)⟩
            clear HC2 hB hT hsb hsk hll
            go_wp2_with (go_at_call 40; refine hL.mono ?_; rintro e w3 ⟨rfl, rfl⟩)
            go_ret2
            exact ⟨_, by rw [HQ.out.1]; rfl, by rw [HQ.out.2]; exact World.ownsRow_nil _ _ _ _, hbl⟩
          · have HQ : Hid (chk ds = 0 ∧ stR ds = stl ds) := by
              have e1 : chk ds = 0 := by rw [HC2.out, if_neg (by omega)]
              exact ⟨e1, chk_yes ds e1⟩
            clear HC2 hB hT hsb hsk hll
            go_wp2_with (go_at_call 40; refine hL.mono ?_; rintro e w3 ⟨rfl, rfl⟩)
            go_ret2
            exact ⟨_, by rw [HQ.out.1]; rfl, by rw [HQ.out.2]; exact hown, hbl⟩

theorem base_any (v : Value) (ds : List OpD) (w : World) (hr : RdD w v ds) (hm : ds.length ≤ maxLen) (hi : ∀ o ∈ ds, o.In) :
    Calls Try.prog 21 #[v] w fun e w' => e = .returned (.tuple #[.int .i64 (bsum (stR ds) : Int), .int .i64 (chk ds)]) ∧ Below w.heap.size w w' := by
  have hS := stepsOf_any v ds w hr hm hi
  have hL := fun u W h => lengths_any u (stR ds) W h (stR_len ds) (stR_ok hi)
  go_enter Try.func21, Try.ntmps21
  go_wp2_with (first | (go_at_call 39; refine hS.mono ?_; rintro e w1 ⟨u, rfl, ho1, hb1⟩) | (go_at_call 40; refine (hL _ _ (rdv_own ho1)).mono ?_; rintro e w2 ⟨rfl, rfl⟩))
  go_ret2
  exact ⟨rfl, hb1⟩
theorem target_any (v : Value) (ds : List OpD) (w : World) (hr : RdD w v ds) (hm : ds.length ≤ maxLen) (hi : ∀ o ∈ ds, o.In) :
    Calls Try.prog 20 #[v] w fun e w' => e = .returned (.tuple #[.int .i64 (tsum (stR ds) : Int), .int .i64 (chk ds)]) ∧ Below w.heap.size w w' := by
  have hS := stepsOf_any v ds w hr hm hi
  have hL := fun u W h => lengths_any u (stR ds) W h (stR_len ds) (stR_ok hi)
  go_enter Try.func20, Try.ntmps20
  go_wp2_with (first | (go_at_call 39; refine hS.mono ?_; rintro e w1 ⟨u, rfl, ho1, hb1⟩) | (go_at_call 40; refine (hL _ _ (rdv_own ho1)).mono ?_; rintro e w2 ⟨rfl, rfl⟩))
  go_ret2
  exact ⟨rfl, hb1⟩
end Go.Proofs.Ytphbjbigjpfjfaa

/-
  The contracts of behind, joined and Normal.
-/
namespace Go.Proofs.Ytphbjbigjpfjfaa
open Go.ChangeShapes Go.WideShapes Go.ChangeAt Go.RowKit Go.PlainAid

theorem Try.infoOp : (Try.prog.info? 50).map (fun i => (i.zero, i.size, i.bytes)) = some (some (.agg #[.int .i64 0, .int .i64 0, .string ⟨#[]⟩]), 3, 32) := by kernel_rfl

/-- Operations as cells. -/
def ocs (l : List OpD) : List Value := (l.map fun o => [Value.int .i64 o.k, .int .i64 o.n, .string o.t]).flatten
theorem ocs_append (a b : List OpD) : ocs (a ++ b) = ocs a ++ ocs b := by simp [ocs]
theorem ocs_one (o : OpD) : ocs [o] = [Value.int .i64 o.k, .int .i64 o.n, .string o.t] := by simp [ocs]
theorem ocs_length (l : List OpD) : (ocs l).length = l.length * 3 := by
  induction l with
  | nil => simp [ocs]
  | cons a l ih =>
    have e : ocs (a :: l) = [Value.int .i64 a.k, .int .i64 a.n, .string a.t] ++ ocs l := by simp [ocs]
    rw [e, List.length_append, ih]; simp; omega
theorem ocs_at (l : List OpD) (i : Nat) (o : OpD) (h : l[i]? = some o) : (ocs l)[i * 3]? = some (.int .i64 o.k) ∧ (ocs l)[i * 3 + 1]? = some (.int .i64 o.n) ∧ (ocs l)[i * 3 + 2]? = some (.string o.t) := by
  have hi := (List.getElem?_eq_some_iff.1 h).1
  have e0 : l = l.take i ++ ([o] ++ l.drop (i + 1)) := by
    have h1 : l[i] = o := (List.getElem?_eq_some_iff.1 h).2
    rw [← h1]
    simp
  have e1 : ocs l = ocs (l.take i) ++ ([Value.int .i64 o.k, .int .i64 o.n, .string o.t] ++ ocs (l.drop (i + 1))) := by
    rw [← ocs_one, ← ocs_append, ← ocs_append, ← e0]
  have e2 : (ocs (l.take i)).length = i * 3 := by rw [ocs_length, List.length_take]; congr 1; omega
  rw [e1]
  refine ⟨?_, ?_, ?_⟩ <;> rw [List.getElem?_append_right (by omega), e2] <;> simp
theorem rdd_own {W : World} {B : Nat} {v : Value} {l : List OpD} (h : W.ownsRow B 50 3 v l.length (ocs l)) : RdD W v l := by
  rcases h.2 with ⟨rfl, h0⟩ | ⟨g, cap, cur, rfl, hb, hg, hn, _, hc, ht⟩
  · have : l = [] := List.eq_nil_of_length_eq_zero h0
    subst this
    exact RdD.nil W
  · refine ⟨_, cap, rfl, ⟨hn, fun h => by cases h⟩, fun i o ho => ⟨g, 0, rfl, (h.lt g rfl).2, ?_⟩⟩
    obtain ⟨c0, c1, c2⟩ := ocs_at l i o ho
    have hadd : ∀ j, (⟨g, 0, none⟩ : Addr).add j = ⟨g, 0 + j, none⟩ := fun j => by unfold Addr.add; split <;> simp_all
    have g0 := h.cells (g := g) rfl _ _ c0
    have g1 := h.cells (g := g) rfl _ _ c1
    have g2 := h.cells (g := g) rfl _ _ c2
    rw [hadd] at g0 g1 g2
    exact ⟨g0, by rw [Nat.add_assoc]; exact g1, by rw [Nat.add_assoc]; exact g2⟩

/-- Rows of unlike elements lie apart. -/
theorem own_apart {w : World} {b1 b2 e1 e2 s1 s2 n1 n2 : Nat} {v1 v2 : Value} {x1 x2 : List Value} (h1 : w.ownsRow b1 e1 s1 v1 n1 x1) (h2 : w.ownsRow b2 e2 s2 v2 n2 x2) (he : e1 ≠ e2) : v1.ownBlock = none ∨ v1.ownBlock ≠ v2.ownBlock := by
  rcases h1.2 with ⟨rfl, _⟩ | ⟨g, cap, cur, rfl, _, hg, _⟩
  · exact .inl rfl
  · rcases h2.2 with ⟨rfl, _⟩ | ⟨g', cap', cur', rfl, _, hg', _⟩
    · exact .inr (by simp [Value.ownBlock])
    · refine .inr (fun e => ?_)
      simp [Value.ownBlock] at e
      subst e
      rw [hg] at hg'
      simp at hg'
      exact he hg'.2

/-- What a stretch becomes. -/
def flushD (kept : Nat) (put : List UInt8) (gone : Nat) : List OpD :=
  (if 0 < kept then [⟨1, kept, ⟨#[]⟩⟩] else []) ++ ((if 0 < put.length then [⟨2, 0, mk put⟩] else []) ++ (if 0 < gone then [⟨3, gone, ⟨#[]⟩⟩] else []))

theorem flushD_len (kept : Nat) (put : List UInt8) (gone : Nat) : (flushD kept put gone).length ≤ 3 := by
  unfold flushD
  split <;> split <;> split <;> simp

theorem own_op {w1 : World} {base n : Nat} {v' : Value} {L : List OpD} {o : OpD} (h : w1.ownsRow base 50 3 v' (n + 1) (ocs L ++ [Value.int .i64 o.k, .int .i64 o.n, .string o.t])) (hn : L.length = n) :
    w1.ownsRow base 50 3 v' (L ++ [o]).length (ocs (L ++ [o])) := by
  subst hn
  rw [ocs_append, ocs_one, List.length_append]
  exact h

theorem own_belowG {w w' : World} {base e z n : Nat} {v : Value} {L : List Value} (h : w.ownsRow base e z v n L) (hb : Below w.heap.size w w') : w'.ownsRow base e z v n L :=
  h.kept (row := none) ⟨hb.os, hb.tape, hb.output, hb.size, fun k hk _ => hb.block k hk⟩ (by cases v.ownBlock <;> simp)
theorem box_apart {w : World} {b e z n p : Nat} {v : Value} {x : List Value} {c : Array Value} {t : TypeId} (h : w.ownsRow b e z v n x) (hb : w.heap[p]? = some (.cells c t)) (he : e ≠ t) : some p ≠ v.ownBlock := by
  rcases h.2 with ⟨rfl, _⟩ | ⟨g, cap, cur, rfl, _, hg, _⟩
  · simp [Value.ownBlock]
  · intro e
    simp [Value.ownBlock] at e
    subst e
    rw [hb] at hg
    simp at hg
    exact he hg.2.symm

/-- A stretch at p, a delta and what is put in, on the way. -/
structure MidJ (base p : Nat) (w W : World) (d pv : Value) (D : List OpD) (put : List UInt8) (kept gone : Nat) : Prop where
  own : W.ownsRow base 50 3 d D.length (ocs D)
  put : W.ownsRow base 5 1 pv put.length (bv put)
  box : W.heap[p]? = some (.cells #[.int .i64 (kept : Int), pv, .int .i64 (gone : Int)] 97)
  bel : Below base w W
  le : base ≤ W.heap.size
  old : ∀ (q : Nat) (c : Array Value), w.heap[q]? = some (.cells c 97) → W.heap[q]? = some (.cells c 97)

theorem heap_lt {W : World} {p : Nat} {o : Obj} (h : W.heap[p]? = some o) : p < W.heap.size := (Array.getElem?_eq_some_iff.1 h).1

theorem MidJ.below {base p : Nat} {w W W' : World} {d pv : Value} {D : List OpD} {put : List UInt8} {kept gone : Nat} (h : MidJ base p w W d pv D put kept gone) (hb : Below W.heap.size W W') : MidJ base p w W' d pv D put kept gone :=
  ⟨own_belowG h.own hb, own_belowG h.put hb, (hb.block p (heap_lt h.box)).trans h.box, h.bel.trans (hb.mono h.le), Nat.le_trans h.le hb.size, fun q c hq => (hb.block q (heap_lt (h.old q c hq))).trans (h.old q c hq)⟩
theorem MidJ.cells {base p : Nat} {w W : World} {d pv : Value} {D : List OpD} {put : List UInt8} {kept gone : Nat} (h : MidJ base p w W d pv D put kept gone) :
    W.cell? ⟨p, 0, none⟩ = some (.int .i64 (kept : Int)) ∧ W.cell? ⟨p, 1, none⟩ = some pv ∧ W.cell? ⟨p, 2, none⟩ = some (.int .i64 (gone : Int)) :=
  ⟨cell_of_row _ _ 0 _ _ (0, 0) h.box, cell_of_row _ _ 1 _ _ (0, 0) h.box, cell_of_row _ _ 2 _ _ (0, 0) h.box⟩
theorem MidJ.app {base p : Nat} {w W W' : World} {d d' pv : Value} {D : List OpD} {put : List UInt8} {kept gone : Nat} {o : OpD} {x : Obj} (h : MidJ base p w W d pv D put kept gone)
    (ho : W'.ownsRow base 50 3 d' (D.length + 1) (ocs D ++ [Value.int .i64 o.k, .int .i64 o.n, .string o.t])) (hg : (W.alloc x).grownBy W' d.ownBlock) : MidJ base p w W' d' pv (D ++ [o]) put kept gone := by
  have hbox : (W.alloc x).heap[p]? = some (.cells #[.int .i64 (kept : Int), pv, .int .i64 (gone : Int)] 97) := by
    have := ((Below.refl W.heap.size W).alloc (Nat.le_refl _) x).block p (heap_lt h.box)
    rw [this]; exact h.box
  refine ⟨own_op ho rfl, (h.put.alloc x).kept hg (own_apart h.put h.own (by decide)), ?_, ?_, ?_, ?_⟩
  · rw [hg.block p (by have := heap_lt h.box; simp; omega) (box_apart h.own h.box (by decide))]
    exact hbox
  · exact (h.bel.alloc h.le x).grown hg (by have := h.le; simp; omega) (fun k hk => (h.own.lt k hk).1)
  · have := hg.size; have := h.le; simp at *; omega
  · intro q c hq
    have h1 := h.old q c hq
    rw [hg.block q (by have := heap_lt h1; simp; omega) (box_apart h.own h1 (by decide)), ((Below.refl W.heap.size W).alloc (Nat.le_refl _) x).block q (heap_lt h1)]
    exact h1

theorem three_one (a b : Int) (t : ByteArray) : ∀ u ∈ [Value.int .i64 a, .int .i64 b, .string t], u.oneCell' = true := by
  intro u hu
  simp at hu
  rcases hu with rfl | rfl | rfl <;> rfl
theorem midJ_conv {base p : Nat} {w W : World} {d pv : Value} {D : List OpD} {put : List UInt8} {kept gone : Nat} (h : MidJ base p w W d pv D put kept gone) : (convert 93 92 pv).run Try.prog W = .ok (.string (mk put)) W :=
  conv_own (dst := 92) Try.underlying93 Try.underlying5 Try.underlying92 h.put

set_option maxRecDepth 20000 in
set_option maxHeartbeats 8000000 in
theorem behind_any (base : Nat) (d pv : Value) (D : List OpD) (kept gone : Nat) (put : List UInt8) (w : World) (hb : base ≤ w.heap.size) (hD : D.length ≤ 100000) (hk : kept ≤ 1000000) (hg : gone ≤ 1000000) (hp : put.length ≤ 1000000)
    (ho : w.ownsRow base 50 3 d D.length (ocs D)) (hpo : w.ownsRow base 5 1 pv put.length (bv put)) :
    Calls Try.prog 61 #[.agg #[.int .i64 (kept : Int), pv, .int .i64 (gone : Int)], d] w fun e w' => ∃ u, e = .returned u ∧ w'.ownsRow base 50 3 u (D ++ flushD kept put gone).length (ocs (D ++ flushD kept put gone)) ∧ Below base w w' ∧ ∀ (q : Nat) (c : Array Value), w.heap[q]? = some (.cells c 97) → w'.heap[q]? = some (.cells c 97) := by
  obtain ⟨i0, hin, hz0, hz1, hz2⟩ := info_parts Try.infoOp
  obtain ⟨ao, cp, hpv, _⟩ := rdv_own hpo
  rw [bv_length] at hpv
  have hM : MidJ base w.heap.size w (w.alloc (.cells #[.int .i64 (kept : Int), pv, .int .i64 (gone : Int)] 97)) d pv D put kept gone :=
    ⟨ho.alloc _, hpo.alloc _, heap_alloc_new w _, (Below.refl _ _).alloc hb _, by simp; omega, fun q c hq => (((Below.refl w.heap.size w).alloc (Nat.le_refl _) _).block q (heap_lt hq)).trans hq⟩
  subst hpv
  have hc := midJ_conv hM
  clear ho hpo
  have hk' : (kept : Int) ≤ 1000000 := by omega
  have hg' : (gone : Int) ≤ 1000000 := by omega
  have hp' : (put.length : Int) ≤ 1000000 := by omega
  by_cases c1 : (0 : Int) < (kept : Int)
  · by_cases c2 : (0 : Int) < (put.length : Int)
    · by_cases c3 : (0 : Int) < (gone : Int)
      · have HF : Hid (flushD kept put gone = [⟨1, kept, ⟨#[]⟩⟩, ⟨2, 0, mk put⟩, ⟨3, gone, ⟨#[]⟩⟩]) := by show _ = _; rw [flushD, if_pos (by omega), if_pos (by omega), if_pos (by omega)]; rfl
        go_enter Try.func61, Try.ntmps61
        go_wp2_with (first | (go_at_call 68; refine (keepOp_any _ _).mono ?_; rintro e w1 ⟨rfl, hb1⟩; have hM := hM.below hb1; clear hb1) | (go_at_call 70; refine (remOp_any _ _).mono ?_; rintro e w1 ⟨rfl, hb1⟩; have hM := hM.below hb1; clear hb1) | (go_at_call 69; refine (insOp_any _ _).mono ?_; rintro e w1 ⟨rfl, hb1⟩; have hM := hM.below hb1; clear hb1) | (at_builtin; refine wpList_append_own _ rfl (.tmp 8) (.tmp 12) 22 rfl base 50 i0 (.agg #[.int .i64 0, .int .i64 0, .string ⟨#[]⟩]) 3 32 Try.underlying22 hin hz0 hz1 hz2 rfl (by decide) _ _ _ rfl (hM.own.alloc _) ⟨_, 0, none⟩ 1 1 [.int .i64 1, .int .i64 (kept : Int), .string ⟨#[]⟩] rfl rfl (many_new _ _ _) (three_one _ _ _) (by (try simp only [List.length_append, List.length_cons, List.length_nil]); (unfold maxLen; omega)) (by (try simp only [List.length_append, List.length_cons, List.length_nil]); omega) (by have := hM.le; simp; omega) ?_; intro v2 w2 ho2 hg2 _; have hM := hM.app (o := ⟨1, kept, ⟨#[]⟩⟩) ho2 hg2; clear ho2 hg2; obtain ⟨g0, g1, g2⟩ := hM.cells; have hc := midJ_conv hM) | (at_builtin; refine wpList_append_own _ rfl (.tmp 18) (.tmp 23) 22 rfl base 50 i0 (.agg #[.int .i64 0, .int .i64 0, .string ⟨#[]⟩]) 3 32 Try.underlying22 hin hz0 hz1 hz2 rfl (by decide) _ _ _ rfl (hM.own.alloc _) ⟨_, 0, none⟩ 1 1 [.int .i64 2, .int .i64 0, .string (mk put)] rfl rfl (many_new _ _ _) (three_one _ _ _) (by (try simp only [List.length_append, List.length_cons, List.length_nil]); (unfold maxLen; omega)) (by (try simp only [List.length_append, List.length_cons, List.length_nil]); omega) (by have := hM.le; simp; omega) ?_; intro v2 w2 ho2 hg2 _; have hM := hM.app (o := ⟨2, 0, mk put⟩) ho2 hg2; clear ho2 hg2; obtain ⟨g0, g1, g2⟩ := hM.cells; have hc := midJ_conv hM) | (at_builtin; refine wpList_append_own _ rfl (.tmp 28) (.tmp 32) 22 rfl base 50 i0 (.agg #[.int .i64 0, .int .i64 0, .string ⟨#[]⟩]) 3 32 Try.underlying22 hin hz0 hz1 hz2 rfl (by decide) _ _ _ rfl (hM.own.alloc _) ⟨_, 0, none⟩ 1 1 [.int .i64 3, .int .i64 (gone : Int), .string ⟨#[]⟩] rfl rfl (many_new _ _ _) (three_one _ _ _) (by (try simp only [List.length_append, List.length_cons, List.length_nil]); (unfold maxLen; omega)) (by (try simp only [List.length_append, List.length_cons, List.length_nil]); omega) (by have := hM.le; simp; omega) ?_; intro v2 w2 ho2 hg2 _; have hM := hM.app (o := ⟨3, gone, ⟨#[]⟩⟩) ho2 hg2; clear ho2 hg2; obtain ⟨g0, g1, g2⟩ := hM.cells; have hc := midJ_conv hM))
        go_ret
        exact ⟨_, rfl, by rw [HF.out]; simpa using hM.own, hM.bel, hM.old⟩
      · have HF : Hid (flushD kept put gone = [⟨1, kept, ⟨#[]⟩⟩, ⟨2, 0, mk put⟩]) := by show _ = _; rw [flushD, if_pos (by omega), if_pos (by omega), if_neg (by omega)]; rfl
        go_enter Try.func61, Try.ntmps61
        go_wp2_with (first | (go_at_call 68; refine (keepOp_any _ _).mono ?_; rintro e w1 ⟨rfl, hb1⟩; have hM := hM.below hb1; clear hb1) | (go_at_call 70; refine (remOp_any _ _).mono ?_; rintro e w1 ⟨rfl, hb1⟩; have hM := hM.below hb1; clear hb1) | (go_at_call 69; refine (insOp_any _ _).mono ?_; rintro e w1 ⟨rfl, hb1⟩; have hM := hM.below hb1; clear hb1) | (at_builtin; refine wpList_append_own _ rfl (.tmp 8) (.tmp 12) 22 rfl base 50 i0 (.agg #[.int .i64 0, .int .i64 0, .string ⟨#[]⟩]) 3 32 Try.underlying22 hin hz0 hz1 hz2 rfl (by decide) _ _ _ rfl (hM.own.alloc _) ⟨_, 0, none⟩ 1 1 [.int .i64 1, .int .i64 (kept : Int), .string ⟨#[]⟩] rfl rfl (many_new _ _ _) (three_one _ _ _) (by (try simp only [List.length_append, List.length_cons, List.length_nil]); (unfold maxLen; omega)) (by (try simp only [List.length_append, List.length_cons, List.length_nil]); omega) (by have := hM.le; simp; omega) ?_; intro v2 w2 ho2 hg2 _; have hM := hM.app (o := ⟨1, kept, ⟨#[]⟩⟩) ho2 hg2; clear ho2 hg2; obtain ⟨g0, g1, g2⟩ := hM.cells; have hc := midJ_conv hM) | (at_builtin; refine wpList_append_own _ rfl (.tmp 18) (.tmp 23) 22 rfl base 50 i0 (.agg #[.int .i64 0, .int .i64 0, .string ⟨#[]⟩]) 3 32 Try.underlying22 hin hz0 hz1 hz2 rfl (by decide) _ _ _ rfl (hM.own.alloc _) ⟨_, 0, none⟩ 1 1 [.int .i64 2, .int .i64 0, .string (mk put)] rfl rfl (many_new _ _ _) (three_one _ _ _) (by (try simp only [List.length_append, List.length_cons, List.length_nil]); (unfold maxLen; omega)) (by (try simp only [List.length_append, List.length_cons, List.length_nil]); omega) (by have := hM.le; simp; omega) ?_; intro v2 w2 ho2 hg2 _; have hM := hM.app (o := ⟨2, 0, mk put⟩) ho2 hg2; clear ho2 hg2; obtain ⟨g0, g1, g2⟩ := hM.cells; have hc := midJ_conv hM) | (at_builtin; refine wpList_append_own _ rfl (.tmp 28) (.tmp 32) 22 rfl base 50 i0 (.agg #[.int .i64 0, .int .i64 0, .string ⟨#[]⟩]) 3 32 Try.underlying22 hin hz0 hz1 hz2 rfl (by decide) _ _ _ rfl (hM.own.alloc _) ⟨_, 0, none⟩ 1 1 [.int .i64 3, .int .i64 (gone : Int), .string ⟨#[]⟩] rfl rfl (many_new _ _ _) (three_one _ _ _) (by (try simp only [List.length_append, List.length_cons, List.length_nil]); (unfold maxLen; omega)) (by (try simp only [List.length_append, List.length_cons, List.length_nil]); omega) (by have := hM.le; simp; omega) ?_; intro v2 w2 ho2 hg2 _; have hM := hM.app (o := ⟨3, gone, ⟨#[]⟩⟩) ho2 hg2; clear ho2 hg2; obtain ⟨g0, g1, g2⟩ := hM.cells; have hc := midJ_conv hM))
        go_ret
        exact ⟨_, rfl, by rw [HF.out]; simpa using hM.own, hM.bel, hM.old⟩
    · by_cases c3 : (0 : Int) < (gone : Int)
      · have HF : Hid (flushD kept put gone = [⟨1, kept, ⟨#[]⟩⟩, ⟨3, gone, ⟨#[]⟩⟩]) := by show _ = _; rw [flushD, if_pos (by omega), if_neg (by omega), if_pos (by omega)]; rfl
        go_enter Try.func61, Try.ntmps61
        go_wp2_with (first | (go_at_call 68; refine (keepOp_any _ _).mono ?_; rintro e w1 ⟨rfl, hb1⟩; have hM := hM.below hb1; clear hb1) | (go_at_call 70; refine (remOp_any _ _).mono ?_; rintro e w1 ⟨rfl, hb1⟩; have hM := hM.below hb1; clear hb1) | (go_at_call 69; refine (insOp_any _ _).mono ?_; rintro e w1 ⟨rfl, hb1⟩; have hM := hM.below hb1; clear hb1) | (at_builtin; refine wpList_append_own _ rfl (.tmp 8) (.tmp 12) 22 rfl base 50 i0 (.agg #[.int .i64 0, .int .i64 0, .string ⟨#[]⟩]) 3 32 Try.underlying22 hin hz0 hz1 hz2 rfl (by decide) _ _ _ rfl (hM.own.alloc _) ⟨_, 0, none⟩ 1 1 [.int .i64 1, .int .i64 (kept : Int), .string ⟨#[]⟩] rfl rfl (many_new _ _ _) (three_one _ _ _) (by (try simp only [List.length_append, List.length_cons, List.length_nil]); (unfold maxLen; omega)) (by (try simp only [List.length_append, List.length_cons, List.length_nil]); omega) (by have := hM.le; simp; omega) ?_; intro v2 w2 ho2 hg2 _; have hM := hM.app (o := ⟨1, kept, ⟨#[]⟩⟩) ho2 hg2; clear ho2 hg2; obtain ⟨g0, g1, g2⟩ := hM.cells; have hc := midJ_conv hM) | (at_builtin; refine wpList_append_own _ rfl (.tmp 18) (.tmp 23) 22 rfl base 50 i0 (.agg #[.int .i64 0, .int .i64 0, .string ⟨#[]⟩]) 3 32 Try.underlying22 hin hz0 hz1 hz2 rfl (by decide) _ _ _ rfl (hM.own.alloc _) ⟨_, 0, none⟩ 1 1 [.int .i64 2, .int .i64 0, .string (mk put)] rfl rfl (many_new _ _ _) (three_one _ _ _) (by (try simp only [List.length_append, List.length_cons, List.length_nil]); (unfold maxLen; omega)) (by (try simp only [List.length_append, List.length_cons, List.length_nil]); omega) (by have := hM.le; simp; omega) ?_; intro v2 w2 ho2 hg2 _; have hM := hM.app (o := ⟨2, 0, mk put⟩) ho2 hg2; clear ho2 hg2; obtain ⟨g0, g1, g2⟩ := hM.cells; have hc := midJ_conv hM) | (at_builtin; refine wpList_append_own _ rfl (.tmp 28) (.tmp 32) 22 rfl base 50 i0 (.agg #[.int .i64 0, .int .i64 0, .string ⟨#[]⟩]) 3 32 Try.underlying22 hin hz0 hz1 hz2 rfl (by decide) _ _ _ rfl (hM.own.alloc _) ⟨_, 0, none⟩ 1 1 [.int .i64 3, .int .i64 (gone : Int), .string ⟨#[]⟩] rfl rfl (many_new _ _ _) (three_one _ _ _) (by (try simp only [List.length_append, List.length_cons, List.length_nil]); (unfold maxLen; omega)) (by (try simp only [List.length_append, List.length_cons, List.length_nil]); omega) (by have := hM.le; simp; omega) ?_; intro v2 w2 ho2 hg2 _; have hM := hM.app (o := ⟨3, gone, ⟨#[]⟩⟩) ho2 hg2; clear ho2 hg2; obtain ⟨g0, g1, g2⟩ := hM.cells; have hc := midJ_conv hM))
        go_ret
        exact ⟨_, rfl, by rw [HF.out]; simpa using hM.own, hM.bel, hM.old⟩
      · have HF : Hid (flushD kept put gone = [⟨1, kept, ⟨#[]⟩⟩]) := by show _ = _; rw [flushD, if_pos (by omega), if_neg (by omega), if_neg (by omega)]; rfl
        go_enter Try.func61, Try.ntmps61
        go_wp2_with (first | (go_at_call 68; refine (keepOp_any _ _).mono ?_; rintro e w1 ⟨rfl, hb1⟩; have hM := hM.below hb1; clear hb1) | (go_at_call 70; refine (remOp_any _ _).mono ?_; rintro e w1 ⟨rfl, hb1⟩; have hM := hM.below hb1; clear hb1) | (go_at_call 69; refine (insOp_any _ _).mono ?_; rintro e w1 ⟨rfl, hb1⟩; have hM := hM.below hb1; clear hb1) | (at_builtin; refine wpList_append_own _ rfl (.tmp 8) (.tmp 12) 22 rfl base 50 i0 (.agg #[.int .i64 0, .int .i64 0, .string ⟨#[]⟩]) 3 32 Try.underlying22 hin hz0 hz1 hz2 rfl (by decide) _ _ _ rfl (hM.own.alloc _) ⟨_, 0, none⟩ 1 1 [.int .i64 1, .int .i64 (kept : Int), .string ⟨#[]⟩] rfl rfl (many_new _ _ _) (three_one _ _ _) (by (try simp only [List.length_append, List.length_cons, List.length_nil]); (unfold maxLen; omega)) (by (try simp only [List.length_append, List.length_cons, List.length_nil]); omega) (by have := hM.le; simp; omega) ?_; intro v2 w2 ho2 hg2 _; have hM := hM.app (o := ⟨1, kept, ⟨#[]⟩⟩) ho2 hg2; clear ho2 hg2; obtain ⟨g0, g1, g2⟩ := hM.cells; have hc := midJ_conv hM) | (at_builtin; refine wpList_append_own _ rfl (.tmp 18) (.tmp 23) 22 rfl base 50 i0 (.agg #[.int .i64 0, .int .i64 0, .string ⟨#[]⟩]) 3 32 Try.underlying22 hin hz0 hz1 hz2 rfl (by decide) _ _ _ rfl (hM.own.alloc _) ⟨_, 0, none⟩ 1 1 [.int .i64 2, .int .i64 0, .string (mk put)] rfl rfl (many_new _ _ _) (three_one _ _ _) (by (try simp only [List.length_append, List.length_cons, List.length_nil]); (unfold maxLen; omega)) (by (try simp only [List.length_append, List.length_cons, List.length_nil]); omega) (by have := hM.le; simp; omega) ?_; intro v2 w2 ho2 hg2 _; have hM := hM.app (o := ⟨2, 0, mk put⟩) ho2 hg2; clear ho2 hg2; obtain ⟨g0, g1, g2⟩ := hM.cells; have hc := midJ_conv hM) | (at_builtin; refine wpList_append_own _ rfl (.tmp 28) (.tmp 32) 22 rfl base 50 i0 (.agg #[.int .i64 0, .int .i64 0, .string ⟨#[]⟩]) 3 32 Try.underlying22 hin hz0 hz1 hz2 rfl (by decide) _ _ _ rfl (hM.own.alloc _) ⟨_, 0, none⟩ 1 1 [.int .i64 3, .int .i64 (gone : Int), .string ⟨#[]⟩] rfl rfl (many_new _ _ _) (three_one _ _ _) (by (try simp only [List.length_append, List.length_cons, List.length_nil]); (unfold maxLen; omega)) (by (try simp only [List.length_append, List.length_cons, List.length_nil]); omega) (by have := hM.le; simp; omega) ?_; intro v2 w2 ho2 hg2 _; have hM := hM.app (o := ⟨3, gone, ⟨#[]⟩⟩) ho2 hg2; clear ho2 hg2; obtain ⟨g0, g1, g2⟩ := hM.cells; have hc := midJ_conv hM))
        go_ret
        exact ⟨_, rfl, by rw [HF.out]; simpa using hM.own, hM.bel, hM.old⟩
  · by_cases c2 : (0 : Int) < (put.length : Int)
    · by_cases c3 : (0 : Int) < (gone : Int)
      · have HF : Hid (flushD kept put gone = [⟨2, 0, mk put⟩, ⟨3, gone, ⟨#[]⟩⟩]) := by show _ = _; rw [flushD, if_neg (by omega), if_pos (by omega), if_pos (by omega)]; rfl
        go_enter Try.func61, Try.ntmps61
        go_wp2_with (first | (go_at_call 68; refine (keepOp_any _ _).mono ?_; rintro e w1 ⟨rfl, hb1⟩; have hM := hM.below hb1; clear hb1) | (go_at_call 70; refine (remOp_any _ _).mono ?_; rintro e w1 ⟨rfl, hb1⟩; have hM := hM.below hb1; clear hb1) | (go_at_call 69; refine (insOp_any _ _).mono ?_; rintro e w1 ⟨rfl, hb1⟩; have hM := hM.below hb1; clear hb1) | (at_builtin; refine wpList_append_own _ rfl (.tmp 8) (.tmp 12) 22 rfl base 50 i0 (.agg #[.int .i64 0, .int .i64 0, .string ⟨#[]⟩]) 3 32 Try.underlying22 hin hz0 hz1 hz2 rfl (by decide) _ _ _ rfl (hM.own.alloc _) ⟨_, 0, none⟩ 1 1 [.int .i64 1, .int .i64 (kept : Int), .string ⟨#[]⟩] rfl rfl (many_new _ _ _) (three_one _ _ _) (by (try simp only [List.length_append, List.length_cons, List.length_nil]); (unfold maxLen; omega)) (by (try simp only [List.length_append, List.length_cons, List.length_nil]); omega) (by have := hM.le; simp; omega) ?_; intro v2 w2 ho2 hg2 _; have hM := hM.app (o := ⟨1, kept, ⟨#[]⟩⟩) ho2 hg2; clear ho2 hg2; obtain ⟨g0, g1, g2⟩ := hM.cells; have hc := midJ_conv hM) | (at_builtin; refine wpList_append_own _ rfl (.tmp 18) (.tmp 23) 22 rfl base 50 i0 (.agg #[.int .i64 0, .int .i64 0, .string ⟨#[]⟩]) 3 32 Try.underlying22 hin hz0 hz1 hz2 rfl (by decide) _ _ _ rfl (hM.own.alloc _) ⟨_, 0, none⟩ 1 1 [.int .i64 2, .int .i64 0, .string (mk put)] rfl rfl (many_new _ _ _) (three_one _ _ _) (by (try simp only [List.length_append, List.length_cons, List.length_nil]); (unfold maxLen; omega)) (by (try simp only [List.length_append, List.length_cons, List.length_nil]); omega) (by have := hM.le; simp; omega) ?_; intro v2 w2 ho2 hg2 _; have hM := hM.app (o := ⟨2, 0, mk put⟩) ho2 hg2; clear ho2 hg2; obtain ⟨g0, g1, g2⟩ := hM.cells; have hc := midJ_conv hM) | (at_builtin; refine wpList_append_own _ rfl (.tmp 28) (.tmp 32) 22 rfl base 50 i0 (.agg #[.int .i64 0, .int .i64 0, .string ⟨#[]⟩]) 3 32 Try.underlying22 hin hz0 hz1 hz2 rfl (by decide) _ _ _ rfl (hM.own.alloc _) ⟨_, 0, none⟩ 1 1 [.int .i64 3, .int .i64 (gone : Int), .string ⟨#[]⟩] rfl rfl (many_new _ _ _) (three_one _ _ _) (by (try simp only [List.length_append, List.length_cons, List.length_nil]); (unfold maxLen; omega)) (by (try simp only [List.length_append, List.length_cons, List.length_nil]); omega) (by have := hM.le; simp; omega) ?_; intro v2 w2 ho2 hg2 _; have hM := hM.app (o := ⟨3, gone, ⟨#[]⟩⟩) ho2 hg2; clear ho2 hg2; obtain ⟨g0, g1, g2⟩ := hM.cells; have hc := midJ_conv hM))
        go_ret
        exact ⟨_, rfl, by rw [HF.out]; simpa using hM.own, hM.bel, hM.old⟩
      · have HF : Hid (flushD kept put gone = [⟨2, 0, mk put⟩]) := by show _ = _; rw [flushD, if_neg (by omega), if_pos (by omega), if_neg (by omega)]; rfl
        go_enter Try.func61, Try.ntmps61
        go_wp2_with (first | (go_at_call 68; refine (keepOp_any _ _).mono ?_; rintro e w1 ⟨rfl, hb1⟩; have hM := hM.below hb1; clear hb1) | (go_at_call 70; refine (remOp_any _ _).mono ?_; rintro e w1 ⟨rfl, hb1⟩; have hM := hM.below hb1; clear hb1) | (go_at_call 69; refine (insOp_any _ _).mono ?_; rintro e w1 ⟨rfl, hb1⟩; have hM := hM.below hb1; clear hb1) | (at_builtin; refine wpList_append_own _ rfl (.tmp 8) (.tmp 12) 22 rfl base 50 i0 (.agg #[.int .i64 0, .int .i64 0, .string ⟨#[]⟩]) 3 32 Try.underlying22 hin hz0 hz1 hz2 rfl (by decide) _ _ _ rfl (hM.own.alloc _) ⟨_, 0, none⟩ 1 1 [.int .i64 1, .int .i64 (kept : Int), .string ⟨#[]⟩] rfl rfl (many_new _ _ _) (three_one _ _ _) (by (try simp only [List.length_append, List.length_cons, List.length_nil]); (unfold maxLen; omega)) (by (try simp only [List.length_append, List.length_cons, List.length_nil]); omega) (by have := hM.le; simp; omega) ?_; intro v2 w2 ho2 hg2 _; have hM := hM.app (o := ⟨1, kept, ⟨#[]⟩⟩) ho2 hg2; clear ho2 hg2; obtain ⟨g0, g1, g2⟩ := hM.cells; have hc := midJ_conv hM) | (at_builtin; refine wpList_append_own _ rfl (.tmp 18) (.tmp 23) 22 rfl base 50 i0 (.agg #[.int .i64 0, .int .i64 0, .string ⟨#[]⟩]) 3 32 Try.underlying22 hin hz0 hz1 hz2 rfl (by decide) _ _ _ rfl (hM.own.alloc _) ⟨_, 0, none⟩ 1 1 [.int .i64 2, .int .i64 0, .string (mk put)] rfl rfl (many_new _ _ _) (three_one _ _ _) (by (try simp only [List.length_append, List.length_cons, List.length_nil]); (unfold maxLen; omega)) (by (try simp only [List.length_append, List.length_cons, List.length_nil]); omega) (by have := hM.le; simp; omega) ?_; intro v2 w2 ho2 hg2 _; have hM := hM.app (o := ⟨2, 0, mk put⟩) ho2 hg2; clear ho2 hg2; obtain ⟨g0, g1, g2⟩ := hM.cells; have hc := midJ_conv hM) | (at_builtin; refine wpList_append_own _ rfl (.tmp 28) (.tmp 32) 22 rfl base 50 i0 (.agg #[.int .i64 0, .int .i64 0, .string ⟨#[]⟩]) 3 32 Try.underlying22 hin hz0 hz1 hz2 rfl (by decide) _ _ _ rfl (hM.own.alloc _) ⟨_, 0, none⟩ 1 1 [.int .i64 3, .int .i64 (gone : Int), .string ⟨#[]⟩] rfl rfl (many_new _ _ _) (three_one _ _ _) (by (try simp only [List.length_append, List.length_cons, List.length_nil]); (unfold maxLen; omega)) (by (try simp only [List.length_append, List.length_cons, List.length_nil]); omega) (by have := hM.le; simp; omega) ?_; intro v2 w2 ho2 hg2 _; have hM := hM.app (o := ⟨3, gone, ⟨#[]⟩⟩) ho2 hg2; clear ho2 hg2; obtain ⟨g0, g1, g2⟩ := hM.cells; have hc := midJ_conv hM))
        go_ret
        exact ⟨_, rfl, by rw [HF.out]; simpa using hM.own, hM.bel, hM.old⟩
    · by_cases c3 : (0 : Int) < (gone : Int)
      · have HF : Hid (flushD kept put gone = [⟨3, gone, ⟨#[]⟩⟩]) := by show _ = _; rw [flushD, if_neg (by omega), if_neg (by omega), if_pos (by omega)]; rfl
        go_enter Try.func61, Try.ntmps61
        go_wp2_with (first | (go_at_call 68; refine (keepOp_any _ _).mono ?_; rintro e w1 ⟨rfl, hb1⟩; have hM := hM.below hb1; clear hb1) | (go_at_call 70; refine (remOp_any _ _).mono ?_; rintro e w1 ⟨rfl, hb1⟩; have hM := hM.below hb1; clear hb1) | (go_at_call 69; refine (insOp_any _ _).mono ?_; rintro e w1 ⟨rfl, hb1⟩; have hM := hM.below hb1; clear hb1) | (at_builtin; refine wpList_append_own _ rfl (.tmp 8) (.tmp 12) 22 rfl base 50 i0 (.agg #[.int .i64 0, .int .i64 0, .string ⟨#[]⟩]) 3 32 Try.underlying22 hin hz0 hz1 hz2 rfl (by decide) _ _ _ rfl (hM.own.alloc _) ⟨_, 0, none⟩ 1 1 [.int .i64 1, .int .i64 (kept : Int), .string ⟨#[]⟩] rfl rfl (many_new _ _ _) (three_one _ _ _) (by (try simp only [List.length_append, List.length_cons, List.length_nil]); (unfold maxLen; omega)) (by (try simp only [List.length_append, List.length_cons, List.length_nil]); omega) (by have := hM.le; simp; omega) ?_; intro v2 w2 ho2 hg2 _; have hM := hM.app (o := ⟨1, kept, ⟨#[]⟩⟩) ho2 hg2; clear ho2 hg2; obtain ⟨g0, g1, g2⟩ := hM.cells; have hc := midJ_conv hM) | (at_builtin; refine wpList_append_own _ rfl (.tmp 18) (.tmp 23) 22 rfl base 50 i0 (.agg #[.int .i64 0, .int .i64 0, .string ⟨#[]⟩]) 3 32 Try.underlying22 hin hz0 hz1 hz2 rfl (by decide) _ _ _ rfl (hM.own.alloc _) ⟨_, 0, none⟩ 1 1 [.int .i64 2, .int .i64 0, .string (mk put)] rfl rfl (many_new _ _ _) (three_one _ _ _) (by (try simp only [List.length_append, List.length_cons, List.length_nil]); (unfold maxLen; omega)) (by (try simp only [List.length_append, List.length_cons, List.length_nil]); omega) (by have := hM.le; simp; omega) ?_; intro v2 w2 ho2 hg2 _; have hM := hM.app (o := ⟨2, 0, mk put⟩) ho2 hg2; clear ho2 hg2; obtain ⟨g0, g1, g2⟩ := hM.cells; have hc := midJ_conv hM) | (at_builtin; refine wpList_append_own _ rfl (.tmp 28) (.tmp 32) 22 rfl base 50 i0 (.agg #[.int .i64 0, .int .i64 0, .string ⟨#[]⟩]) 3 32 Try.underlying22 hin hz0 hz1 hz2 rfl (by decide) _ _ _ rfl (hM.own.alloc _) ⟨_, 0, none⟩ 1 1 [.int .i64 3, .int .i64 (gone : Int), .string ⟨#[]⟩] rfl rfl (many_new _ _ _) (three_one _ _ _) (by (try simp only [List.length_append, List.length_cons, List.length_nil]); (unfold maxLen; omega)) (by (try simp only [List.length_append, List.length_cons, List.length_nil]); omega) (by have := hM.le; simp; omega) ?_; intro v2 w2 ho2 hg2 _; have hM := hM.app (o := ⟨3, gone, ⟨#[]⟩⟩) ho2 hg2; clear ho2 hg2; obtain ⟨g0, g1, g2⟩ := hM.cells; have hc := midJ_conv hM))
        go_ret
        exact ⟨_, rfl, by rw [HF.out]; simpa using hM.own, hM.bel, hM.old⟩
      · have HF : Hid (flushD kept put gone = []) := by show _ = _; rw [flushD, if_neg (by omega), if_neg (by omega), if_neg (by omega)]; rfl
        go_enter Try.func61, Try.ntmps61
        go_wp2_with (first | (go_at_call 68; refine (keepOp_any _ _).mono ?_; rintro e w1 ⟨rfl, hb1⟩; have hM := hM.below hb1; clear hb1) | (go_at_call 70; refine (remOp_any _ _).mono ?_; rintro e w1 ⟨rfl, hb1⟩; have hM := hM.below hb1; clear hb1) | (go_at_call 69; refine (insOp_any _ _).mono ?_; rintro e w1 ⟨rfl, hb1⟩; have hM := hM.below hb1; clear hb1) | (at_builtin; refine wpList_append_own _ rfl (.tmp 8) (.tmp 12) 22 rfl base 50 i0 (.agg #[.int .i64 0, .int .i64 0, .string ⟨#[]⟩]) 3 32 Try.underlying22 hin hz0 hz1 hz2 rfl (by decide) _ _ _ rfl (hM.own.alloc _) ⟨_, 0, none⟩ 1 1 [.int .i64 1, .int .i64 (kept : Int), .string ⟨#[]⟩] rfl rfl (many_new _ _ _) (three_one _ _ _) (by (try simp only [List.length_append, List.length_cons, List.length_nil]); (unfold maxLen; omega)) (by (try simp only [List.length_append, List.length_cons, List.length_nil]); omega) (by have := hM.le; simp; omega) ?_; intro v2 w2 ho2 hg2 _; have hM := hM.app (o := ⟨1, kept, ⟨#[]⟩⟩) ho2 hg2; clear ho2 hg2; obtain ⟨g0, g1, g2⟩ := hM.cells; have hc := midJ_conv hM) | (at_builtin; refine wpList_append_own _ rfl (.tmp 18) (.tmp 23) 22 rfl base 50 i0 (.agg #[.int .i64 0, .int .i64 0, .string ⟨#[]⟩]) 3 32 Try.underlying22 hin hz0 hz1 hz2 rfl (by decide) _ _ _ rfl (hM.own.alloc _) ⟨_, 0, none⟩ 1 1 [.int .i64 2, .int .i64 0, .string (mk put)] rfl rfl (many_new _ _ _) (three_one _ _ _) (by (try simp only [List.length_append, List.length_cons, List.length_nil]); (unfold maxLen; omega)) (by (try simp only [List.length_append, List.length_cons, List.length_nil]); omega) (by have := hM.le; simp; omega) ?_; intro v2 w2 ho2 hg2 _; have hM := hM.app (o := ⟨2, 0, mk put⟩) ho2 hg2; clear ho2 hg2; obtain ⟨g0, g1, g2⟩ := hM.cells; have hc := midJ_conv hM) | (at_builtin; refine wpList_append_own _ rfl (.tmp 28) (.tmp 32) 22 rfl base 50 i0 (.agg #[.int .i64 0, .int .i64 0, .string ⟨#[]⟩]) 3 32 Try.underlying22 hin hz0 hz1 hz2 rfl (by decide) _ _ _ rfl (hM.own.alloc _) ⟨_, 0, none⟩ 1 1 [.int .i64 3, .int .i64 (gone : Int), .string ⟨#[]⟩] rfl rfl (many_new _ _ _) (three_one _ _ _) (by (try simp only [List.length_append, List.length_cons, List.length_nil]); (unfold maxLen; omega)) (by (try simp only [List.length_append, List.length_cons, List.length_nil]); omega) (by have := hM.le; simp; omega) ?_; intro v2 w2 ho2 hg2 _; have hM := hM.app (o := ⟨3, gone, ⟨#[]⟩⟩) ho2 hg2; clear ho2 hg2; obtain ⟨g0, g1, g2⟩ := hM.cells; have hc := midJ_conv hM))
        go_ret
        exact ⟨_, rfl, by rw [HF.out]; simpa using hM.own, hM.bel, hM.old⟩
end Go.Proofs.Ytphbjbigjpfjfaa

/-
  The contracts of joined and Normal.
-/
namespace Go.Proofs.Ytphbjbigjpfjfaa
open Go.ChangeShapes Go.WideShapes Go.ChangeAt Go.RowKit Go.PlainAid

/-- What joined has on its way. -/
structure JS where
  D : List OpD
  kept : Nat
  put : List UInt8
  gone : Nat
def JS.add (σ : JS) : St → JS
  | .keep n => if 0 < σ.put.length ∨ 0 < σ.gone then ⟨σ.D ++ flushD σ.kept σ.put σ.gone, n, [], 0⟩ else ⟨σ.D, σ.kept + n, σ.put, σ.gone⟩
  | .rem n => ⟨σ.D, σ.kept, σ.put, σ.gone + n⟩
  | .ins t => ⟨σ.D, σ.kept, σ.put ++ t.data.toList, σ.gone⟩
def JS.out (σ : JS) : List OpD := σ.D ++ flushD σ.kept σ.put σ.gone
def jrun (l : List St) : JS := l.foldl JS.add ⟨[], 0, [], 0⟩
/-- What joined gives. -/
def jn (l : List St) : List OpD := (jrun l).out

theorem rev_ind {α : Type _} {P : List α → Prop} (h0 : P []) (h1 : ∀ l a, P l → P (l ++ [a])) (l : List α) : P l := by
  have key : ∀ l : List α, P l.reverse := by
    intro l
    induction l with
    | nil => exact h0
    | cons a l ih => rw [List.reverse_cons]; exact h1 _ _ ih
  have := key l.reverse
  rwa [List.reverse_reverse] at this

theorem jrun_snoc (l : List St) (s : St) : jrun (l ++ [s]) = (jrun l).add s := by simp [jrun]
theorem jrun_take {l : List St} {k : Nat} (h : k < l.length) : jrun (l.take (k + 1)) = (jrun (l.take k)).add l[k] := by
  rw [List.take_succ_eq_append_getElem h, jrun_snoc]
theorem size_cpl {t : ByteArray} (h : 0 < cpl t) : t.size ≤ 4 * (cpl t).toNat := by
  have hv := cpl_valid (s := t) (by omega)
  have h1 := (whole_eq hv).1
  have h2 := enc_len (ptL t (cpl t).toNat)
  rw [ptL_length] at h2
  have h3 : (mk (enc (ptL t (cpl t).toNat))).size = t.size := by rw [h1]
  rw [mk_size] at h3
  omega
theorem jrun_bd (l : List St) : (∀ s ∈ l, s.Ok) → (jrun l).D.length ≤ 3 * l.length ∧ (jrun l).kept ≤ bsum l ∧ (jrun l).gone ≤ bsum l ∧ (jrun l).put.length ≤ 4 * tsum l := by
  induction l using rev_ind with
  | h0 => intro _; simp [jrun]
  | h1 l s ih =>
    intro h
    obtain ⟨h1, h2, h3, h4⟩ := ih (fun x hx => h x (by simp [hx]))
    have hs := h s (by simp)
    rw [jrun_snoc, bsum_append, tsum_append, List.length_append]
    have hf := flushD_len (jrun l).kept (jrun l).put (jrun l).gone
    have e1 : bsum [s] = s.b := by simp [bsum]
    have e2 : tsum [s] = s.c := by simp [tsum]
    rw [e1, e2]
    cases s with
    | keep n =>
      simp only [JS.add, St.b, St.c]
      split
      · simp only [List.length_append, List.length_cons, List.length_nil]; omega
      · simp only [List.length_cons, List.length_nil]; omega
    | rem n => simp only [JS.add, St.b, St.c, List.length_cons, List.length_nil]; omega
    | ins t =>
      have := size_cpl hs.1
      have hd := data_len t
      simp only [JS.add, St.b, St.c, List.length_append, List.length_cons, List.length_nil]; omega
theorem sum_take (l : List St) (k : Nat) : bsum (l.take k) ≤ bsum l ∧ tsum (l.take k) ≤ tsum l := by
  have e1 := bsum_append (l.take k) (l.drop k)
  have e2 := tsum_append (l.take k) (l.drop k)
  rw [List.take_append_drop] at e1 e2
  omega

theorem grown_set (w : World) (p j : Nat) (v : Value) : w.grownBy (w.setCell ⟨p, j, none⟩ v) (some p) :=
  ⟨rfl, rfl, rfl, by simp [World.setCell], fun k _ hn => Below.heap_setCell w ⟨p, j, none⟩ v k (fun e => hn (by rw [e]))⟩
theorem heap_setCell {w : World} {g : Nat} {cs : Array Value} {t : TypeId} (h : w.heap[g]? = some (.cells cs t)) (j : Nat) (v : Value) : (w.setCell ⟨g, j, none⟩ v).heap[g]? = some (.cells (cs.setIfInBounds j v) t) := by
  simp [World.setCell, Array.getElem?_modify, h]
theorem own_set {w : World} {b e z n p j : Nat} {v x : Value} {L : List Value} {c : Array Value} {t : TypeId} (h : w.ownsRow b e z v n L) (hb : w.heap[p]? = some (.cells c t)) (he : e ≠ t) : (w.setCell ⟨p, j, none⟩ x).ownsRow b e z v n L :=
  h.kept (grown_set w p j x) (.inr (fun e => box_apart h hb he e.symm))
theorem below_set {base : Nat} {w W : World} {p j : Nat} {x : Value} (h : Below base w W) (hp : base ≤ p) (hw : base ≤ W.heap.size) : Below base w (W.setCell ⟨p, j, none⟩ x) :=
  h.grown (grown_set W p j x) hw (fun k hk => by simp at hk; omega)
theorem frz {W : World} {p : Nat} {c : Array Value} {t : TypeId} (h : W.heap[p]? = some (.cells c t)) (j : Nat) : W.frozen? ⟨p, j, none⟩ = false := by
  simp [World.frozen?, h]

theorem old_set {w W : World} {p j : Nat} {x : Value} (h : ∀ (q : Nat) (c : Array Value), w.heap[q]? = some (.cells c 97) → W.heap[q]? = some (.cells c 97)) (hp : w.heap.size ≤ p) :
    ∀ (q : Nat) (c : Array Value), w.heap[q]? = some (.cells c 97) → (W.setCell ⟨p, j, none⟩ x).heap[q]? = some (.cells c 97) := fun q c hq => by
  have := heap_lt hq
  rw [Below.heap_setCell W ⟨p, j, none⟩ x q (by simp; omega)]
  exact h q c hq

section
variable {base p : Nat} {w W : World} {d pv : Value} {D : List OpD} {put : List UInt8} {kept gone : Nat}
theorem midJ_set0 (h : MidJ base p w W d pv D put kept gone) (hp : base ≤ p) (hq : w.heap.size ≤ p) (k' : Nat) : MidJ base p w (W.setCell ⟨p, 0, none⟩ (.int .i64 (k' : Int))) d pv D put k' gone :=
  ⟨own_set h.own h.box (by decide), own_set h.put h.box (by decide), heap_setCell h.box 0 _, below_set h.bel hp h.le, Nat.le_trans h.le (grown_set W p 0 _).size, old_set h.old hq⟩
theorem midJ_set2 (h : MidJ base p w W d pv D put kept gone) (hp : base ≤ p) (hq : w.heap.size ≤ p) (g' : Nat) : MidJ base p w (W.setCell ⟨p, 2, none⟩ (.int .i64 (g' : Int))) d pv D put kept g' :=
  ⟨own_set h.own h.box (by decide), own_set h.put h.box (by decide), heap_setCell h.box 2 _, below_set h.bel hp h.le, Nat.le_trans h.le (grown_set W p 2 _).size, old_set h.old hq⟩
theorem midJ_set1 (h : MidJ base p w W d pv D put kept gone) (hp : base ≤ p) (hq : w.heap.size ≤ p) {q : Value} {put' : List UInt8} (ho : W.ownsRow base 5 1 q put'.length (bv put')) : MidJ base p w (W.setCell ⟨p, 1, none⟩ q) d q D put' kept gone :=
  ⟨own_set h.own h.box (by decide), own_set ho h.box (by decide), heap_setCell h.box 1 _, below_set h.bel hp h.le, Nat.le_trans h.le (grown_set W p 1 _).size, old_set h.old hq⟩
/-- The delta has grown by a stretch. -/
theorem midJ_flush {W' : World} {u : Value} {D' : List OpD} (h : MidJ base p w W d pv D put kept gone) (ho : W'.ownsRow base 50 3 u D'.length (ocs D')) (hb : Below base W W')
    (hold : ∀ (q : Nat) (c : Array Value), W.heap[q]? = some (.cells c 97) → W'.heap[q]? = some (.cells c 97)) (hp : base ≤ p) (hq : w.heap.size ≤ p) :
    W'.heap[p]? = some (.cells #[.int .i64 (kept : Int), pv, .int .i64 (gone : Int)] 97) ∧
    MidJ base p w (((W'.setCell ⟨p, 0, none⟩ (.int .i64 ((0 : Nat) : Int))).setCell ⟨p, 1, none⟩ (.slice none 0 0)).setCell ⟨p, 2, none⟩ (.int .i64 ((0 : Nat) : Int))) u (.slice none 0 0) D' [] 0 0 := by
  have hbox := hold _ _ h.box
  have hb1 := h.bel.trans hb
  have hl1 := Nat.le_trans h.le hb.size
  have ho1 : ∀ (q : Nat) (c : Array Value), w.heap[q]? = some (.cells c 97) → W'.heap[q]? = some (.cells c 97) := fun q c hq => hold q c (h.old q c hq)
  have x0 := heap_setCell hbox 0 (.int .i64 ((0 : Nat) : Int))
  have x1 := heap_setCell x0 1 (.slice none 0 0)
  have x2 := heap_setCell x1 2 (.int .i64 ((0 : Nat) : Int))
  have s0 := (grown_set W' p 0 (.int .i64 ((0 : Nat) : Int))).size
  have s1 := (grown_set (W'.setCell ⟨p, 0, none⟩ (.int .i64 ((0 : Nat) : Int))) p 1 (.slice none 0 0)).size
  have s2 := (grown_set ((W'.setCell ⟨p, 0, none⟩ (.int .i64 ((0 : Nat) : Int))).setCell ⟨p, 1, none⟩ (.slice none 0 0)) p 2 (.int .i64 ((0 : Nat) : Int))).size
  exact ⟨hbox, ⟨own_set (own_set (own_set ho hbox (by decide)) x0 (by decide)) x1 (by decide), World.ownsRow_nil _ _ _ _, x2, below_set (below_set (below_set hb1 hp hl1) hp (by omega)) hp (by omega), by omega, old_set (old_set (old_set ho1 hq) hq) hq⟩⟩
/-- What is put in has grown. -/
theorem midJ_grow {W' : World} {q : Value} {t : ByteArray} (h : MidJ base p w W d pv D put kept gone) (ho : W'.ownsRow base 5 1 q (put.length + t.size) (bv put ++ Lib.strCells t)) (hg : W.grownBy W' pv.ownBlock) (hp : base ≤ p) (hq : w.heap.size ≤ p) :
    W'.heap[p]? = some (.cells #[.int .i64 (kept : Int), pv, .int .i64 (gone : Int)] 97) ∧ MidJ base p w (W'.setCell ⟨p, 1, none⟩ q) d q D (put ++ t.data.toList) kept gone := by
  have hbox : W'.heap[p]? = some (.cells #[.int .i64 (kept : Int), pv, .int .i64 (gone : Int)] 97) := by
    rw [hg.block p (heap_lt h.box) (box_apart h.put h.box (by decide))]
    exact h.box
  have ho' : W'.ownsRow base 5 1 q (put ++ t.data.toList).length (bv (put ++ t.data.toList)) := own_text (M := t.data.toList) (by rw [mk_data]; exact ho) rfl
  have hown := h.own.kept hg (own_apart h.own h.put (by decide))
  have hbel : Below base w W' := h.bel.grown hg h.le (fun k hk => (h.put.lt k hk).1)
  have hold : ∀ (q : Nat) (c : Array Value), w.heap[q]? = some (.cells c 97) → W'.heap[q]? = some (.cells c 97) := fun q c hq => by
    have h1 := h.old q c hq
    rw [hg.block q (heap_lt h1) (box_apart h.put h1 (by decide))]
    exact h1
  have hle := Nat.le_trans h.le hg.size
  exact ⟨hbox, own_set hown hbox (by decide), own_set ho' hbox (by decide), heap_setCell hbox 1 _, below_set hbel hp hle, Nat.le_trans hle (grown_set W' p 1 _).size, old_set hold hq⟩
end

theorem own_lower {w : World} {b b' e z n : Nat} {v : Value} {L : List Value} (h : w.ownsRow b e z v n L) (hb : b' ≤ b) : w.ownsRow b' e z v n L := by
  refine ⟨h.1, ?_⟩
  rcases h.2 with h1 | ⟨g, cap, cur, e1, h2, h3⟩
  · exact .inl h1
  · exact .inr ⟨g, cap, cur, e1, Nat.le_trans hb h2, h3⟩
theorem own_form {w : World} {b e z n : Nat} {v : Value} {L : List Value} (h : w.ownsRow b e z v n L) : ∃ ao cp, v = .slice ao n cp := by
  rcases h.2 with ⟨rfl, rfl⟩ | ⟨g, cap, cur, rfl, _⟩
  · exact ⟨_, _, rfl⟩
  · exact ⟨_, _, rfl⟩

set_option maxRecDepth 20000 in
set_option maxHeartbeats 2000000 in
theorem joined_any (v : Value) (l : List St) (w : World) (hr : RdV w v (sv l)) (hl : l.length ≤ 3000) (ho : ∀ s ∈ l, s.Ok) (hB : bsum l ≤ 1000) (hT : tsum l ≤ 1000) :
    Calls Try.prog 44 #[v] w fun e w' => ∃ u, e = .returned u ∧ w'.ownsRow w.heap.size 50 3 u (jn l).length (ocs (jn l)) ∧ Below w.heap.size w w' := by
  obtain ⟨i0, hin, hz0, hz1, hz2⟩ := info_parts Try.info5
  obtain ⟨ao, cp, rfl, hc⟩ := hr
  rw [sv_length]
  have kk := ta_kk
  have rk := ta_rk
  have rr := ta_rr
  have ik := ta_ik
  have ir := ta_ir
  have ii := ta_ii
  have hM0 : MidJ w.heap.size w.heap.size w (w.alloc (.cells #[.int .i64 ((0 : Nat) : Int), .slice none 0 0, .int .i64 ((0 : Nat) : Int)] 97)) (.slice none 0 0) (.slice none 0 0) [] [] 0 0 :=
    ⟨World.ownsRow_nil _ _ _ _, World.ownsRow_nil _ _ _ _, heap_alloc_new w _, (Below.refl _ _).alloc (Nat.le_refl _) _, by simp, fun q c hq => (((Below.refl w.heap.size w).alloc (Nat.le_refl _) _).block q (heap_lt hq)).trans hq⟩
  go_enter Try.func44, Try.ntmps44
  go_wp2
  go_loopw [3, 12] (fun d i wr => ∃ (k : Nat) (pv : Value), k ≤ l.length ∧ i = .int .i64 (k : Int) ∧ MidJ w.heap.size w.heap.size w wr d pv (jrun (l.take k)).D (jrun (l.take k)).put (jrun (l.take k)).kept (jrun (l.take k)).gone) (fun _ i _ => l.length - (intOf i).toNat)
  case atStart => exact ⟨0, _, by omega, rfl, hM0⟩
  case round =>
    obtain ⟨k, pv, hk, rfl, hM⟩ := hrel
    clear hM0
    have hbd := jrun_bd _ (ok_take ho k)
    have hst := sum_take l k
    have hkl : (l.take k).length ≤ 3000 := by rw [List.length_take]; omega
    have b1 : (jrun (l.take k)).D.length ≤ 9000 := by omega
    have b2 : (jrun (l.take k)).kept ≤ 1000 := by omega
    have b3 : (jrun (l.take k)).gone ≤ 1000 := by omega
    have b4 : (jrun (l.take k)).put.length ≤ 4000 := by omega
    clear hbd hst hkl
    obtain ⟨po, pc, hpv, _⟩ := rdv_own hM.put
    rw [bv_length] at hpv
    by_cases hlt : k < l.length
    · have hlt' : (k : Int) < (l.length : Int) := by omega
      have hsk := ho l[k] (List.getElem_mem hlt)
      have HB : Hid (jrun (l.take (k + 1)) = (jrun (l.take k)).add l[k]) := jrun_take hlt
      have hck : (l[k]).c ≤ 1000 := by have h1 := tsum_take l k hlt; have h2 := sum_take l (k + 1); omega
      obtain ⟨b, off, rfl, hbl, c0'⟩ := hc k (l[k]).val (by simp [sv, hlt])
      have c0 := (hM.bel.cell (p := ⟨b, off + k, none⟩) hbl).trans c0'
      clear c0' hc ho
      generalize l[k] = s at hsk HB c0 hck
      generalize hσ : jrun (l.take k) = σ at *
      clear hσ
      obtain ⟨D, kept, put, gone⟩ := σ
      simp only at hM b1 b2 b3 b4 hpv
      have b2' : (kept : Int) ≤ 1000 := by omega
      have b3' : (gone : Int) ≤ 1000 := by omega
      obtain ⟨m, hm⟩ : ∃ m, m = put.length := ⟨_, rfl⟩
      rw [← hm] at hpv
      have b4' : (m : Int) ≤ 4000 := by omega
      subst hpv
      obtain ⟨g0, g1, g2⟩ := hM.cells
      have f0 := frz hM.box 0
      have f1 := frz hM.box 1
      have f2 := frz hM.box 2
      cases s with
      | keep n =>
        simp only [St.val, St.Ok, JS.add] at c0 hsk HB
        have n1 : (n : Int) ≤ 1000 := by omega
        by_cases c1 : (0 : Int) < (m : Int)
        · rw [if_pos (.inl (by omega))] at HB
          have hC := behind_any w.heap.size _ _ D kept gone put wr hM.le (by omega) (by omega) (by omega) (by omega) hM.own hM.put
          have HM : Hid (MidJ w.heap.size w.heap.size w wr _ _ D put kept gone) := hM
          clear hM hm
          go_wp2_with (go_at_call 61; refine hC.mono ?_; rintro e w3 ⟨u, rfl, ho3, hb3, hold3⟩; obtain ⟨hbx3, hM3⟩ := midJ_flush HM.out ho3 hb3 hold3 (Nat.le_refl _) (Nat.le_refl _); have R := midJ_set0 hM3 (Nat.le_refl _) (Nat.le_refl _) n; clear hM3 ho3 hb3 hold3; have q0 := cell_of_row _ _ 0 _ _ (0, 0) hbx3; have q1 := cell_of_row _ _ 1 _ _ (0, 0) hbx3; have q2 := cell_of_row _ _ 2 _ _ (0, 0) hbx3; have z0 := frz hbx3 0; have z1 := frz hbx3 1; have z2 := frz hbx3 2; clear hbx3)
          go_roundw
          case rel => exact ⟨k + 1, _, by omega, by go_num, by rw [HB.out]; exact R⟩
          case measure => simp [intOf]; omega
        · obtain rfl : m = 0 := by omega
          by_cases c2 : (0 : Int) < (gone : Int)
          · rw [if_pos (.inr (by omega))] at HB
            have hC := behind_any w.heap.size _ _ D kept gone put wr hM.le (by omega) (by omega) (by omega) (by omega) hM.own hM.put
            have HM : Hid (MidJ w.heap.size w.heap.size w wr _ _ D put kept gone) := hM
            clear hM hm
            go_wp2_with (go_at_call 61; refine hC.mono ?_; rintro e w3 ⟨u, rfl, ho3, hb3, hold3⟩; obtain ⟨hbx3, hM3⟩ := midJ_flush HM.out ho3 hb3 hold3 (Nat.le_refl _) (Nat.le_refl _); have R := midJ_set0 hM3 (Nat.le_refl _) (Nat.le_refl _) n; clear hM3 ho3 hb3 hold3; have q0 := cell_of_row _ _ 0 _ _ (0, 0) hbx3; have q1 := cell_of_row _ _ 1 _ _ (0, 0) hbx3; have q2 := cell_of_row _ _ 2 _ _ (0, 0) hbx3; have z0 := frz hbx3 0; have z1 := frz hbx3 1; have z2 := frz hbx3 2; clear hbx3)
            go_roundw
            case rel => exact ⟨k + 1, _, by omega, by go_num, by rw [HB.out]; exact R⟩
            case measure => simp [intOf]; omega
          · rw [if_neg (by omega)] at HB
            have R := midJ_set0 hM (Nat.le_refl _) (Nat.le_refl _) (kept + n)
            have e : ((kept + n : Nat) : Int) = (kept : Int) + (n : Int) := by omega
            rw [e] at R
            clear e hM hm
            go_wp2
            go_roundw
            case rel => exact ⟨k + 1, _, by omega, by go_num, by rw [HB.out]; exact R⟩
            case measure => simp [intOf]; omega
      | rem n =>
        simp only [St.val, St.Ok, JS.add] at c0 hsk HB
        have n1 : (n : Int) ≤ 1000 := by omega
        have R := midJ_set2 hM (Nat.le_refl _) (Nat.le_refl _) (gone + n)
        have e : ((gone + n : Nat) : Int) = (gone : Int) + (n : Int) := by omega
        rw [e] at R
        clear e hM hm
        go_wp2
        go_roundw
        case rel => exact ⟨k + 1, _, by omega, by go_num, by rw [HB.out]; exact R⟩
        case measure => simp [intOf]; omega
      | ins t =>
        simp only [St.val, St.Ok, JS.add] at c0 hsk HB
        have hts := size_cpl hsk.1
        simp only [St.c] at hck
        have hts' : t.size ≤ 4000 := by omega
        clear hsk hm hts hck
        go_wp2_with (at_builtin; refine Lib.wpList_append_own_string _ rfl (.tmp 50) (.tmp 51) 93 92 rfl w.heap.size 5 i0 Try.underlying93 Try.underlying92 hin hz0 hz1 hz2 _ _ _ rfl hM.put t rfl (by unfold maxLen; omega) (by omega) hM.le ?_; intro v4 w4 ho4 hg4 _; obtain ⟨a4, c4, rfl⟩ := own_form ho4; obtain ⟨hbx4, R⟩ := midJ_grow hM ho4 hg4 (Nat.le_refl _) (Nat.le_refl _); have q1 := cell_of_row _ _ 1 _ _ (0, 0) hbx4; have z1 := frz hbx4 1; simp at q1)
        clear hM ho4 hg4
        go_roundw
        case rel => exact ⟨k + 1, _, by omega, by go_num, by rw [HB.out]; exact R⟩
        case measure => simp [intOf]; omega
    · have e : k = l.length := by omega
      subst e
      rw [List.take_length] at hM hpv b1 b2 b3 b4
      have HJ : Hid (jn l = (jrun l).D ++ flushD (jrun l).kept (jrun l).put (jrun l).gone) := rfl
      generalize jrun l = σ at *
      obtain ⟨D, kept, put, gone⟩ := σ
      simp only at hM b1 b2 b3 b4 hpv HJ
      subst hpv
      obtain ⟨g0, g1, g2⟩ := hM.cells
      have hC := behind_any w.heap.size _ _ D kept gone put wr hM.le (by omega) (by omega) (by omega) (by omega) hM.own hM.put
      have hbel := hM.bel
      clear hM hc ho
      go_wp2_with (go_at_call 61; refine hC.mono ?_; rintro e w3 ⟨u, rfl, ho3, hb3, _⟩)
      go_ret
      exact ⟨_, rfl, by rw [HJ.out]; exact ho3, hbel.trans hb3⟩

theorem normal_any (v : Value) (ds : List OpD) (w : World) (hr : RdD w v ds) (hm : ds.length ≤ maxLen) (hi : ∀ o ∈ ds, o.In) :
    Calls Try.prog 22 #[v] w fun e w' => ∃ u, e = .returned (.tuple #[u, .int .i64 (chk ds)]) ∧ w'.ownsRow w.heap.size 50 3 u (jn (stR ds)).length (ocs (jn (stR ds))) ∧ Below w.heap.size w w' := by
  have hS := stepsOf_any v ds w hr hm hi
  have hbd := stR_bd ds
  have hL := fun u W h => joined_any u (stR ds) W h (stR_len ds) (stR_ok hi) hbd.1 hbd.2
  clear hbd
  go_enter Try.func22, Try.ntmps22
  go_wp2_with (first | (go_at_call 39; refine hS.mono ?_; rintro e w1 ⟨u, rfl, ho1, hb1⟩) | (go_at_call 44; refine (hL _ _ (rdv_own ho1)).mono ?_; rintro e w2 ⟨u2, rfl, ho2, hb2⟩))
  go_ret2
  refine ⟨_, rfl, ?_, hb1.trans (hb2.mono hb1.size)⟩
  exact own_lower ho2 hb1.size
end Go.Proofs.Ytphbjbigjpfjfaa
