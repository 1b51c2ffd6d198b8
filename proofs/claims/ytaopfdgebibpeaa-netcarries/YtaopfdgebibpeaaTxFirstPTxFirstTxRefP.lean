/-
  Plain: the reference's way to read a code point comes to what next gives.
-/
import Derived.Test.YtaopfdgebibpeaaTxUtf
import Derived.Deep.RegionHeld3
import Derived.Deep.RegionWith
import Derived.Deep.QuietTactic
import Derived.BigQuiet
import Derived.WalkSmall
namespace Go.Proofs.Ytaopfdgebibpeaa
open Go.ChangeShapes Go.WideShapes Go.ChangeAt Go.RowKit Go.PlainAid

/-- How many bytes the reference looks at, by the first one. -/
def rfN (b : Int) : Nat := if 240 ≤ b ∧ b < 248 then 4 else if 224 ≤ b ∧ b < 240 then 3 else if 192 ≤ b ∧ b < 224 then 2 else 1
/-- The number that it makes of them. -/
def rfV (s : ByteArray) : Int :=
  if 240 ≤ bt s 0 ∧ bt s 0 < 248 then (((bt s 0 - 240) * 64 + bt s 1 % 64) * 64 + bt s 2 % 64) * 64 + bt s 3 % 64
  else if 224 ≤ bt s 0 ∧ bt s 0 < 240 then ((bt s 0 - 224) * 64 + bt s 1 % 64) * 64 + bt s 2 % 64
  else if 192 ≤ bt s 0 ∧ bt s 0 < 224 then (bt s 0 - 192) * 64 + bt s 1 % 64
  else bt s 0

/-- Where a code point's bytes stand, the reference comes to it. -/
theorem rf_of {s : ByteArray} {n : Nat} (hn : n ≤ 1114111) (h : At s 0 (ptB n)) : rfN (bt s 0) = (ptB n).length ∧ rfV s = (n : Int) := by
  by_cases c1 : n < 128
  · rw [ptB1 c1] at h ⊢
    obtain ⟨g1, g2⟩ := at_one.1 h
    rw [ofNat_toNat (by omega)] at g2
    unfold rfN rfV
    rw [if_neg (by omega), if_neg (by omega), if_neg (by omega), if_neg (by omega), if_neg (by omega), if_neg (by omega)]
    exact ⟨rfl, g2⟩
  · by_cases c2 : n < 2048
    · rw [ptB2 (by omega) c2] at h ⊢
      obtain ⟨⟨g1, g2⟩, h1⟩ := at_cons.1 h
      obtain ⟨g3, g4⟩ := at_one.1 h1
      rw [ofNat_toNat (by omega)] at g2 g4
      rw [Nat.zero_add] at g4
      unfold rfN rfV
      rw [if_neg (by omega), if_neg (by omega), if_pos (by omega), if_neg (by omega), if_neg (by omega), if_pos (by omega)]
      exact ⟨rfl, by omega⟩
    · by_cases c3 : n < 65536
      · rw [ptB3 (by omega) c3] at h ⊢
        obtain ⟨⟨g1, g2⟩, h1⟩ := at_cons.1 h
        obtain ⟨⟨g3, g4⟩, h2⟩ := at_cons.1 h1
        obtain ⟨g5, g6⟩ := at_one.1 h2
        rw [ofNat_toNat (by omega)] at g2 g4 g6
        rw [show 0 + 1 = 1 from rfl] at g4
        rw [show 0 + 1 + 1 = 2 from rfl] at g6
        unfold rfN rfV
        rw [if_neg (by omega), if_pos (by omega), if_neg (by omega), if_pos (by omega)]
        exact ⟨rfl, by omega⟩
      · rw [ptB4 (by omega)] at h ⊢
        obtain ⟨⟨g1, g2⟩, h1⟩ := at_cons.1 h
        obtain ⟨⟨g3, g4⟩, h2⟩ := at_cons.1 h1
        obtain ⟨⟨g5, g6⟩, h3⟩ := at_cons.1 h2
        obtain ⟨g7, g8⟩ := at_one.1 h3
        rw [ofNat_toNat (by omega)] at g2 g4 g6 g8
        rw [show 0 + 1 = 1 from rfl] at g4
        rw [show 0 + 1 + 1 = 2 from rfl] at g6
        rw [show 0 + 1 + 1 + 1 = 3 from rfl] at g8
        unfold rfN rfV
        rw [if_pos (by omega), if_pos (by omega)]
        exact ⟨rfl, by omega⟩

/-- The reference's test says no: there is no code point. -/
theorem rf_no {s : ByteArray} (h : ¬ (rfN (bt s 0) ≤ s.size ∧ szI (rfV s) ≠ 0 ∧ mk (ptB (rfV s).toNat) = s.extract 0 (rfN (bt s 0)))) : nx s 0 = (0, 0) := by
  by_cases hk : (nx s 0).2 = 0
  · exact nx_pair s 0 hk
  · exfalso
    obtain ⟨n, h1, h2, h3, h4⟩ := nx_of hk
    have hz := szI_nonneg h2
    obtain ⟨e1, e2⟩ := rf_of (by omega) h3
    have h5 := h3.1
    have h6 := at_extract h3
    rw [Nat.zero_add] at h6 h5
    apply h
    rw [e1, e2, Int.toNat_natCast]
    exact ⟨h5, h2, h6.symm⟩

/-- It says yes: there is that one. -/
theorem rf_yes {s : ByteArray} (h1 : rfN (bt s 0) ≤ s.size) (h2 : szI (rfV s) ≠ 0) (h3 : mk (ptB (rfV s).toNat) = s.extract 0 (rfN (bt s 0))) : nx s 0 = (rfV s, (rfN (bt s 0) : Int)) := by
  have hz := szI_nonneg h2
  obtain ⟨n, hn⟩ := Int.eq_ofNat_of_zero_le hz.1
  rw [hn] at h2 h3
  rw [Int.toNat_natCast] at h3
  have hl : (ptB n).length = rfN (bt s 0) := by
    have := congrArg ByteArray.size h3
    rw [mk_size, ByteArray.size_extract] at this
    omega
  have hat : At s 0 (ptB n) := by
    refine ⟨by omega, fun i hi => ?_⟩
    rw [Nat.zero_add, bt_data s i (by omega)]
    congr 2
    have e : ptB n = (s.extract 0 (rfN (bt s 0))).data.toList := by rw [← h3, mk_toList]
    simp only [e, Lib.extract_data]
    simp
  rw [nx_at h2 hat, hn, hl]

theorem list_ne {a b : ByteArray} (h : a ≠ b) : (a.toList != b.toList) = true := by
  rw [bne_iff_ne, ne_eq, Go.ByteArray.toList_eq, Go.ByteArray.toList_eq]
  intro e
  exact h (ByteArray.ext (Array.ext' e))

theorem slice_front (s : ByteArray) (k : Nat) (W : World) (h : k ≤ s.size) :
    (Instr.slice 9 (.string s) none (some (.int .i64 (k : Int))) none).run Try.prog W = .ok (.string (s.extract 0 k)) W := by
  rw [run_slice_string_h (P := Try.prog) W 9 s Try.underlying9 .i64 (k : Int) (by omega) (by omega), show ((k : Int)).toNat = k by omega]

end Go.Proofs.Ytaopfdgebibpeaa

/-
  The contract of the reference's first: it gives what next gives.
-/
namespace Go.Proofs.Ytaopfdgebibpeaa
open Go.ChangeShapes Go.WideShapes Go.ChangeAt Go.RowKit Go.PlainAid






end Go.Proofs.Ytaopfdgebibpeaa

/-
  The contracts of the reference's Points and Len.
-/
namespace Go.Proofs.Ytaopfdgebibpeaa
open Go.ChangeShapes Go.WideShapes Go.ChangeAt Go.RowKit Go.PlainAid

theorem suf_size (s : ByteArray) (a : Nat) : (s.extract a s.size).size = s.size - a := by rw [ByteArray.size_extract]; omega
theorem suf_bt (s : ByteArray) (a i : Nat) (h : a + i < s.size) : bt (s.extract a s.size) i = bt s (a + i) := by
  rw [bt_data _ _ (by rw [suf_size]; omega), bt_data s _ h]
  congr 2
  simp only [Lib.extract_data]
  simp
theorem suf_at {s : ByteArray} {a : Nat} {F : List UInt8} (ha : a ≤ s.size) : At (s.extract a s.size) 0 F ↔ At s a F := by
  constructor
  · rintro ⟨h1, h2⟩
    rw [suf_size] at h1
    exact ⟨by omega, fun i hi => by rw [← suf_bt s a i (by omega)]; simpa using h2 i hi⟩
  · rintro ⟨h1, h2⟩
    exact ⟨by rw [suf_size]; omega, fun i hi => by rw [Nat.zero_add, suf_bt s a i (by omega)]; exact h2 i hi⟩
theorem suf_nx (s : ByteArray) (a : Nat) (ha : a ≤ s.size) : nx (s.extract a s.size) 0 = nx s a := by
  by_cases h : (nx s a).2 = 0
  · by_cases h' : (nx (s.extract a s.size) 0).2 = 0
    · rw [nx_pair _ _ h, nx_pair _ _ h']
    · obtain ⟨n, _, g2, g3, _⟩ := nx_of h'
      have := nx_at g2 ((suf_at ha).1 g3)
      rw [this] at h
      have hl := ptB_len n
      simp only at h
      omega
  · obtain ⟨n, g1, g2, g3, g4⟩ := nx_of h
    rw [nx_at g2 ((suf_at ha).2 g3), ← g1, ← g4]
theorem suf_suf (s : ByteArray) (a b : Nat) : (s.extract a s.size).extract b (s.extract a s.size).size = s.extract (a + b) s.size := by
  apply ByteArray.ext
  apply Array.ext'
  simp only [Lib.extract_data, suf_size]
  apply List.ext_getElem?
  intro i
  simp only [List.getElem?_take, List.getElem?_drop]
  by_cases h : i < s.size - a - b
  · rw [if_pos (by omega), if_pos (by omega), if_pos (by omega)]
    congr 1; omega
  · rw [if_neg (by omega)]
    by_cases h2 : i < s.size - (a + b)
    · omega
    · rw [if_neg h2]

/-- How long a text in a slot is. -/
def szV : Value → Nat | .string s => s.size | _ => 0

theorem slice_tail (t : ByteArray) (k : Nat) (r : Int) (hr : r = (k : Int)) (W : World) (h : k ≤ t.size) :
    (Instr.slice 9 (.string t) (some (.int .i64 r)) none none).run Try.prog W = .ok (.string (t.extract k t.size)) W := by
  subst hr
  rw [run_slice_string_l (P := Try.prog) W 9 t Try.underlying9 .i64 (k : Int) (by omega) (by omega), show ((k : Int)).toNat = k by omega]



end Go.Proofs.Ytaopfdgebibpeaa
