/-
  A map from numbers below N to rows of bytes, as the maps' kit reads it (Map, without sectors). No program.
-/
import Derived.Maps.Own
import Derived.Maps.OwnSet
import Derived.Maps.Ext
import Derived.Lib.SlMapMerge
import Derived.Lib.SlKeysI
import Derived.Below
namespace Go.Proofs.YtcdnlkhjlgaaoaaGreatDoor
open Go.Maps Go.WideShapes

abbrev Sec := List UInt8

/-! ### The datum of a map -/

abbrev SecF := Nat → Option Sec

def entF (f : SecF) (i : Nat) : Option (Lit × DataW Unit) := (f i).map fun s => (Lit.int .i64 (i : Int), DataW.lit (.string s))

/-- The datum of the map that has f's sectors below N. -/
def DF (N : Nat) (f : SecF) : DataW Unit := .map ((List.range N).filterMap (entF f))

theorem entF_some {f : SecF} {i : Nat} {p : Lit × DataW Unit} (h : entF f i = some p) : ∃ s, f i = some s ∧ p = (.int .i64 (i : Int), .lit (.string s)) := by
  unfold entF at h
  cases hf : f i with
  | none => simp [hf] at h
  | some s => simp [hf] at h; exact ⟨s, rfl, h.symm⟩

theorem mem_DF {N : Nat} {f : SecF} {p : Lit × DataW Unit} : p ∈ (List.range N).filterMap (entF f) ↔ ∃ i s, i < N ∧ f i = some s ∧ p = (.int .i64 (i : Int), .lit (.string s)) := by
  rw [List.mem_filterMap]
  constructor
  · rintro ⟨i, hi, he⟩
    obtain ⟨s, hs, hp⟩ := entF_some he
    exact ⟨i, s, List.mem_range.1 hi, hs, hp⟩
  · rintro ⟨i, s, hi, hs, rfl⟩
    exact ⟨i, List.mem_range.2 hi, by simp [entF, hs]⟩

theorem canon_DF (N : Nat) (f : SecF) : Canon (DF N f) := by
  refine ⟨_, rfl, ?_, fun p hp => ?_⟩
  · rw [List.pairwise_filterMap]
    refine List.Pairwise.imp ?_ (List.pairwise_lt_range (n := N))
    intro i j hij p hp q hq
    obtain ⟨s, _, rfl⟩ := entF_some hp
    obtain ⟨t, _, rfl⟩ := entF_some hq
    simp only [Lit.before, decide_eq_true_eq]
    omega
  · obtain ⟨i, s, _, _, rfl⟩ := mem_DF.1 hp
    trivial

theorem key_mk (i : Int) : WideAt.IsKeyLit (.int .i64 i) := trivial

theorem has_DF (N : Nat) (f : SecF) (k : Lit) : has (DF N f) k = true ↔ ∃ i s, i < N ∧ f i = some s ∧ k = .int .i64 (i : Int) := by
  unfold DF
  rw [has_eq, List.any_eq_true]
  constructor
  · rintro ⟨p, hp, hs⟩
    obtain ⟨i, s, hi, hf, rfl⟩ := mem_DF.1 hp
    exact ⟨i, s, hi, hf, (WideAt.sameKey_eq hs).symm⟩
  · rintro ⟨i, s, hi, hf, rfl⟩
    exact ⟨_, mem_DF.2 ⟨i, s, hi, hf, rfl⟩, WideAt.sameKey_self (key_mk _)⟩

theorem has_DF_at (N : Nat) (f : SecF) (i : Nat) : has (DF N f) (.int .i64 (i : Int)) = (decide (i < N) && (f i).isSome) := by
  rw [Bool.eq_iff_iff, has_DF]
  simp only [Bool.and_eq_true, decide_eq_true_eq]
  constructor
  · rintro ⟨j, s, hj, hf, he⟩
    simp only [Lit.int.injEq, true_and] at he
    have : i = j := by omega
    subst this
    exact ⟨hj, by simp [hf]⟩
  · rintro ⟨hi, hs⟩
    obtain ⟨s, hs⟩ := Option.isSome_iff_exists.1 hs
    exact ⟨i, s, hi, hs, rfl⟩

theorem not_has_DF (N : Nat) (f : SecF) {k : Int} (h : k < 0 ∨ (N : Int) ≤ k) : has (DF N f) (.int .i64 k) = false := by
  rw [Bool.eq_false_iff]
  intro hh
  obtain ⟨i, s, hi, _, he⟩ := (has_DF N f _).1 hh
  simp only [Lit.int.injEq, true_and] at he
  omega

theorem atKey_DF {N : Nat} {f : SecF} {i : Nat} {s : Sec} (hi : i < N) (hf : f i = some s) (z : DataW Unit) : (DF N f).atKey (.int .i64 (i : Int)) z = .lit (.string s) :=
  WideAt.atKey_mem z (key_mk _) (apart_of_rising (by obtain ⟨es, he, hp, _⟩ := canon_DF N f; cases he; exact hp)) (mem_DF.2 ⟨i, s, hi, hf, rfl⟩)

/-- f with s at k. -/
def putF (f : SecF) (k : Nat) (s : Sec) : SecF := fun i => if i = k then some s else f i

theorem isMap_DF (N : Nat) (f : SecF) : IsMap (DF N f) := ⟨_, rfl⟩

theorem oneI_total {a b : Lit} (ha : ∃ x, a = .int .i64 x) (hb : ∃ x, b = .int .i64 x) (hne : a ≠ b) : a.before b = true ∨ b.before a = true := by
  obtain ⟨x, rfl⟩ := ha
  obtain ⟨y, rfl⟩ := hb
  simp only [Lit.before, decide_eq_true_eq]
  have : x ≠ y := fun e => hne (by rw [e])
  omega
theorem oneI : OneKind (fun l : Lit => ∃ x, l = .int .i64 x) :=
  ⟨fun h => by obtain ⟨x, rfl⟩ := h; trivial, fun ha hb hne => oneI_total ha hb hne⟩

theorem canonK_DF (N : Nat) (f : SecF) : CanonK (fun l : Lit => ∃ x, l = .int .i64 x) (DF N f) := by
  obtain ⟨es, he, hp, _⟩ := canon_DF N f
  cases he
  exact ⟨_, rfl, hp, fun p hp => by obtain ⟨i, s, _, _, rfl⟩ := mem_DF.1 hp; exact ⟨_, rfl⟩⟩

theorem put_DF {N : Nat} {f : SecF} {k : Nat} (s : Sec) (hk : k < N) : (DF N f).put (.int .i64 (k : Int)) (.lit (.string s)) = DF N (putF f k s) := by
  refine Maps.ext ((canonK_put oneI ⟨_, rfl⟩ _ (canonK_DF N f)).canon oneI) (canon_DF _ _) (fun l => ?_) (fun l z h => ?_)
  · by_cases e : l = .int .i64 (k : Int)
    · subst e
      rw [has_put_same (isMap_DF N f) (key_mk _), has_DF_at]
      simp [hk, putF]
    · rw [has_put_other e, Bool.eq_iff_iff, has_DF, has_DF]
      constructor
      · rintro ⟨i, t, hi, hf, rfl⟩
        exact ⟨i, t, hi, by unfold putF; rw [if_neg (fun h => e (by rw [h]))]; exact hf, rfl⟩
      · rintro ⟨i, t, hi, hf, rfl⟩
        unfold putF at hf
        rw [if_neg (fun h => e (by rw [h]))] at hf
        exact ⟨i, t, hi, hf, rfl⟩
  · by_cases e : l = .int .i64 (k : Int)
    · subst e
      rw [atKey_put_same (isMap_DF N f) (key_mk _), atKey_DF hk (s := s) (by simp [putF])]
    · rw [has_put_other e, has_DF] at h
      obtain ⟨i, t, hi, hf, rfl⟩ := h
      rw [atKey_put_other e, atKey_DF hi hf, atKey_DF hi (s := t) (by unfold putF; rw [if_neg (fun h => e (by rw [h]))]; exact hf)]

/-- g's sectors over f's. -/
def orF (g f : SecF) : SecF := fun i => (g i).or (f i)

theorem merged_DF {N : Nat} {f g : SecF} {D : DataW Unit} {left : Lit → Bool} (hM : Merged D (DF N f) (DF N g) left) (hl : ∀ k, left k = false) (c : Canon D) : D = DF N (orF g f) := by
  refine Maps.ext c (canon_DF _ _) (fun l => ?_) (fun l z h => ?_)
  · rw [hM.1 l, hl l, Bool.eq_iff_iff]
    simp only [Bool.not_false, Bool.and_true, Bool.or_eq_true, has_DF]
    constructor
    · rintro (⟨i, s, hi, hf, rfl⟩ | ⟨i, s, hi, hf, rfl⟩)
      · cases hg : g i with
        | none => exact ⟨i, s, hi, by simp [orF, hg, hf], rfl⟩
        | some t => exact ⟨i, t, hi, by simp [orF, hg], rfl⟩
      · exact ⟨i, s, hi, by simp [orF, hf], rfl⟩
    · rintro ⟨i, s, hi, hf, rfl⟩
      cases hg : g i with
      | none => exact .inl ⟨i, s, hi, by simpa [orF, hg] using hf, rfl⟩
      | some t => exact .inr ⟨i, t, hi, hg, rfl⟩
  · have h2 := hM.2 l z
    rw [hl l] at h2
    simp only [Bool.not_false, Bool.and_true] at h2
    rw [hM.1 l, hl l] at h
    simp only [Bool.not_false, Bool.and_true, Bool.or_eq_true, has_DF] at h
    rw [h2]
    by_cases hg : has (DF N g) l = true
    · rw [if_pos hg]
      obtain ⟨i, s, hi, hf, rfl⟩ := (has_DF _ _ _).1 hg
      rw [atKey_DF hi hf, atKey_DF hi (s := s) (by simp [orF, hf])]
    · rw [if_neg hg]
      rcases h with ⟨i, s, hi, hf, rfl⟩ | h
      · have hn : g i = none := by
          cases hgi : g i with
          | none => rfl
          | some t => exact absurd ((has_DF _ _ _).2 ⟨i, t, hi, hgi, rfl⟩) hg
        rw [atKey_DF hi hf, atKey_DF hi (s := s) (by simp [orF, hf, hn])]
      · exact absurd ((has_DF _ _ _).2 h) hg

theorem DF_none (N : Nat) : DF N (fun _ => none) = .map [] := by
  unfold DF
  congr 1
  rw [List.filterMap_eq_nil_iff]
  intro i _
  rfl

theorem DF_congr {N : Nat} {f g : SecF} (h : ∀ i, i < N → f i = g i) : DF N f = DF N g := by
  have key : ∀ l : List Nat, (∀ i ∈ l, i < N) → l.filterMap (entF f) = l.filterMap (entF g) := by
    intro l
    induction l with
    | nil => intro _; rfl
    | cons i r ih =>
      intro hl
      have hi : entF f i = entF g i := by unfold entF; rw [h i (hl i (by simp))]
      rw [List.filterMap_cons, List.filterMap_cons, hi, ih (fun j hj => hl j (by simp [hj]))]
  unfold DF
  rw [key _ (fun i hi => List.mem_range.1 hi)]

theorem size_DF (N : Nat) (f : SecF) : Maps.size (DF N f) ≤ N := by
  unfold DF
  rw [size_eq]
  exact Nat.le_trans (List.length_filterMap_le _ _) (by simp)

/-- The numbers below N at which f has a sector, rising. -/
def keysF (N : Nat) (f : SecF) : List Nat := (List.range N).filter fun i => (f i).isSome

theorem intKeys_DF (N : Nat) (f : SecF) : intKeys (DF N f) = (keysF N f).map Int.ofNat := by
  unfold DF intKeys keysF
  induction List.range N with
  | nil => rfl
  | cons i r ih =>
    simp only at ih
    cases hf : f i with
    | none => simp [entF, hf] at ih ⊢; exact ih
    | some s => simp [entF, hf, Go.intOf] at ih ⊢; exact ih

theorem keysF_sorted (N : Nat) (f : SecF) : (keysF N f).Pairwise (· < ·) := (List.pairwise_lt_range (n := N)).filter _

theorem keysF_le (N : Nat) (f : SecF) : (keysF N f).length ≤ N := Nat.le_trans (List.length_filter_le _ _) (by simp)

theorem sorted_keys {N : Nat} {f : SecF} {ss : List Int} (h : ss.Perm (intKeys (DF N f))) : ss.mergeSort leI = (keysF N f).map Int.ofNat := by
  rw [mergeSort_of_perm_i h, intKeys_DF]
  refine List.mergeSort_of_pairwise ?_
  rw [List.pairwise_map]
  refine (keysF_sorted N f).imp ?_
  intro a b hab
  simp
  omega

theorem mem_keysF {N : Nat} {f : SecF} {i : Nat} : i ∈ keysF N f ↔ i < N ∧ (f i).isSome = true := by simp [keysF]
end Go.Proofs.YtcdnlkhjlgaaoaaGreatDoor
