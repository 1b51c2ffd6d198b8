/-
  live; a list of numbers that came in; what tells digests apart.
-/
import Derived.Test.YtiddlcebhecbaaaDigA
import Derived.Deep.Slices
namespace Go.Proofs.Ytiddlcebhecbaaa
open Go.RowKit Go.ChangeShapes Go.WideShapes Go.ChangeAt Go.PlainAid

theorem ext_e : ext 2166136261 [] = 2166136261 := rfl
theorem ext_a : ext 2166136261 [97] = 3826002220 := by simp [ext, fnv_eq, tim_eq]
theorem ext_f : ext 2166136261 [102, 111, 111, 98, 97, 114] = 3214735720 := by simp [ext, fnv_eq, tim_eq]

set_option maxHeartbeats 400000 in
theorem live_any (w : World) : Calls Try.prog 7 #[] w fun e w' => e = .returned (.bool true) ∧ Below w.heap.size w w' := by
  have c0 : Calls Try.prog 8 #[.string ⟨#[]⟩] w fun e w' => e = .returned (.int .u32 2166136261) ∧ w' = w := by
    have := sum_any ⟨#[]⟩ w (by decide)
    rw [ext_e] at this
    exact this
  have c1 : Calls Try.prog 8 #[.string ⟨#[97]⟩] w fun e w' => e = .returned (.int .u32 3826002220) ∧ w' = w := by
    have := sum_any ⟨#[97]⟩ w (by decide)
    rw [show (⟨#[97]⟩ : ByteArray).data.toList = [97] from rfl, ext_a] at this
    exact this
  have c2 : Calls Try.prog 8 #[.string ⟨#[102, 111, 111, 98, 97, 114]⟩] w fun e w' => e = .returned (.int .u32 3214735720) ∧ w' = w := by
    have := sum_any ⟨#[102, 111, 111, 98, 97, 114]⟩ w (by decide)
    rw [show (⟨#[102, 111, 111, 98, 97, 114]⟩ : ByteArray).data.toList = [102, 111, 111, 98, 97, 114] from rfl, ext_f] at this
    exact this
  have c3 : Calls Try.prog 12 #[.int .u32 1] w fun e w' => e = .returned (.string ⟨#[0, 0, 0, 1]⟩) ∧ Below w.heap.size w w' := name_any 1 w (by decide)
  go_enter Try.func7, Try.ntmps7
  go_wp2_with fail
  refine c0.mono ?_
  rintro e w' ⟨rfl, hw⟩
  rw [hw]
  clear hw w' c0
  go_wp2_with fail
  refine c1.mono ?_
  rintro e w' ⟨rfl, hw⟩
  rw [hw]
  clear hw w' c1
  go_wp2_with fail
  refine c2.mono ?_
  rintro e w' ⟨rfl, hw⟩
  rw [hw]
  clear hw w' c2
  go_wp2_with fail
  refine c3.mono ?_
  rintro e w1 ⟨rfl, hb⟩
  clear c3
  go_wp2
  go_ret
  exact ⟨rfl, hb⟩

theorem wf_bd {k : Int} (h : (Lit.int .i64 k).wf = true) : -9223372036854775808 ≤ k ∧ k ≤ 9223372036854775807 := by
  have e0 : IntKind.i64.min = -9223372036854775808 := by decide
  have e1 : IntKind.i64.max = 9223372036854775807 := by decide
  simpa [Lit.wf, e0, e1] using h

/-- Numbers at a value. -/
def RdI (W : World) (v : Value) (l : List Int) : Prop :=
  ∃ ao cp, v = .slice ao l.length cp ∧ ∀ (i : Nat) (o : Int), l[i]? = some o → ∃ b off, ao = some ⟨b, off, none⟩ ∧ b < W.heap.size ∧ W.cell? ⟨b, off + i, none⟩ = some (.int .i64 o)

theorem open_ints {H : Type} {enc : TypeId × Value → H} {w : World} {base : Nat} {spare : Nat → Bool} {held : Bool} {fuel : Nat} {v : Value} {x : DataW H × List MemPlace}
    (h : DataW.trod enc Try.prog w base spare held fuel 28 [v] = some x) :
    ∃ l : List Int, RdI w v l ∧ l.length ≤ maxLen ∧ ∀ c ∈ l, -9223372036854775808 ≤ c ∧ c ≤ 9223372036854775807 := by
  rcases Go.Deep.open_slice1 Try.underlying28 (by kernel_rfl) h with ⟨hcs, _⟩ | ⟨a, len, c, m, n, V, D, Pl, hcs, _, hl, hmx, hmm, _, hall⟩
  · simp at hcs
    subst hcs
    exact ⟨[], ⟨none, 0, rfl, fun i o h => by simp at h⟩, Nat.zero_le _, by simp⟩
  · simp at hcs
    subst hcs
    have hlm : len ≤ m := by rw [hmm]; split <;> omega
    obtain ⟨b, off, spot⟩ := a
    have hsp0 : 0 < len → spot = none := fun h => by
      have := World.cell?_spot (hall 0 (by omega)).1
      simpa [Addr.add] using this
    have each : ∀ i, i < len → ∃ o : Int, (-9223372036854775808 ≤ o ∧ o ≤ 9223372036854775807) ∧ spot = none ∧ b < w.heap.size ∧ w.cell? ⟨b, off + i, none⟩ = some (.int .i64 o) := by
      intro i hi
      obtain ⟨h1, h2⟩ := hall i (by omega)
      obtain ⟨a0, e0, _, w0⟩ := DataW.trod_int Try.underlying3 h2
      simp at e0
      rw [e0] at h1
      have hsp : spot = none := hsp0 (by omega)
      subst hsp
      have hadd : ∀ k, (⟨b, off, none⟩ : Addr).add k = ⟨b, off + k, none⟩ := fun k => by unfold Addr.add; split <;> simp_all
      rw [hadd] at h1
      exact ⟨a0, wf_bd w0, rfl, World.block_lt_of_cell? w _ h1, h1⟩
    obtain ⟨f, hf⟩ := @Go.Deep.choose_lt Int ⟨0⟩ _ _ each
    have hlen : ((List.range len).map f).length = len := by simp
    refine ⟨(List.range len).map f, ⟨some ⟨b, off, spot⟩, c, by rw [hlen], fun i o ho => ?_⟩, by rw [hlen]; omega, fun o ho => ?_⟩
    · have hi : i < len := by
        have := (List.getElem?_eq_some_iff.1 ho).1
        simpa using this
      simp [hi] at ho
      subst ho
      obtain ⟨_, rfl, r⟩ := hf i hi
      exact ⟨b, off, rfl, r⟩
    · obtain ⟨i, hi, rfl⟩ := List.mem_map.1 ho
      exact (hf i (List.mem_range.1 hi)).1

theorem tim_back {a : Nat} (h : a < 4294967296) : tim a * 899433627 % 4294967296 = a := by
  rw [tim_eq]
  omega
theorem tim_inj {a b : Nat} (ha : a < 4294967296) (hb : b < 4294967296) (h : tim a = tim b) : a = b := by
  rw [← tim_back ha, h, tim_back hb]
theorem xor_inj {a b c : Nat} (h : a ^^^ c = b ^^^ c) : a = b := by
  have h2 : (a ^^^ c) ^^^ c = (b ^^^ c) ^^^ c := by rw [h]
  rwa [Nat.xor_assoc, Nat.xor_assoc, Nat.xor_self, Nat.xor_zero, Nat.xor_zero] at h2
theorem ext_cons (n : Nat) (b : UInt8) (l : List UInt8) : ext n (b :: l) = ext (fnv n b) l := by
  unfold ext
  rw [List.foldl_cons]
theorem fnv_inj {a b : Nat} (ha : a < 4294967296) (hb : b < 4294967296) (x : UInt8) (h : fnv a x = fnv b x) : a = b := by
  rw [fnv_eq, fnv_eq] at h
  exact xor_inj (tim_inj (xor_lt a x ha) (xor_lt b x hb) h)
theorem fnv_injB {a : Nat} (ha : a < 4294967296) {x y : UInt8} (h : fnv a x = fnv a y) : x = y := by
  rw [fnv_eq, fnv_eq] at h
  have h2 := tim_inj (xor_lt a x ha) (xor_lt a y ha) h
  rw [Nat.xor_comm a, Nat.xor_comm a] at h2
  exact UInt8.toNat_inj.1 (xor_inj h2)
theorem ext_inj (l : List UInt8) : ∀ {a b : Nat}, a < 4294967296 → b < 4294967296 → ext a l = ext b l → a = b := by
  induction l with
  | nil =>
    intro a b _ _ h
    unfold ext at h
    rwa [List.foldl_nil, List.foldl_nil] at h
  | cons x l ih =>
    intro a b ha hb h
    rw [ext_cons, ext_cons] at h
    exact fnv_inj ha hb x (ih (fnv_lt _ _) (fnv_lt _ _) h)
theorem ext_turn (n : Nat) (hn : n < 4294967296) (l : List UInt8) (i : Nat) (hi : i < l.length) (y : UInt8) (hy : y ≠ 0) : ext n (l.set i (l[i] ^^^ y)) ≠ ext n l := by
  intro h
  have e1 : l.set i (l[i] ^^^ y) = l.take i ++ ([l[i] ^^^ y] ++ l.drop (i + 1)) := by
    rw [List.set_eq_take_append_cons_drop, if_pos hi]
    rfl
  have e2 : l = l.take i ++ ([l[i]] ++ l.drop (i + 1)) := by
    rw [List.singleton_append, List.getElem_cons_drop, List.take_append_drop]
  have e3 : ext n (l.take i ++ ([l[i]] ++ l.drop (i + 1))) = ext n l := by rw [← e2]
  rw [e1, ← e3, ext_append, ext_append, ext_append, ext_append] at h
  have hm := ext_lt hn (l.take i)
  generalize ext n (l.take i) = m at *
  have h1 := ext_inj _ (ext_lt hm _) (ext_lt hm _) h
  have h2 : l[i] ^^^ y = l[i] := fnv_injB hm (by rw [ext_cons, ext_cons] at h1; unfold ext at h1; rwa [List.foldl_nil, List.foldl_nil] at h1)
  apply hy
  have h3 : l[i] ^^^ (l[i] ^^^ y) = l[i] ^^^ l[i] := by rw [h2]
  rw [← UInt8.xor_assoc, UInt8.xor_self, UInt8.zero_xor] at h3
  exact h3
end Go.Proofs.Ytiddlcebhecbaaa
