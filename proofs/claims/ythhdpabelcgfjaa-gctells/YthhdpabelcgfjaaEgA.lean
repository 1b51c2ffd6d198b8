/-
  Marks: a map of numbers, as a set; lists of numbers in the world. The contracts of has, put and drop.
-/
import Derived.Test.YthhdpabelcgfjaaRows
import Derived.WalkKit
import Derived.ProofKit
import Derived.OpenShut
import Derived.PlainAid
import Derived.Laws.Rows
import Derived.Laws.IdiomStrings
import Derived.WalkLawsBesides
import Derived.Handy
import Derived.Maps.Own
import Derived.Maps.OwnSet
import Derived.Maps.OwnOps
import Derived.Maps.Ext
import Derived.Maps.RangeWalk
import Derived.Lib.SlMapMerge
import Derived.Lib.SlKeysI
import Derived.Lib.Hide
import Derived.Below
import Derived.Deep.WholeRow
namespace Go.Proofs.Ythhdpabelcgfjaa.dg
open Go.Maps Go.WideShapes Go.RowKit Go.ChangeShapes Go.ChangeAt Go.PlainAid

theorem ret_bool {b : Bool} (h : b = true) : Ending.returned (.bool b) = .returned (.bool true) := by rw [h]
theorem ret_int {k : IntKind} {a b : Int} (h : a = b) : Ending.returned (.int k a) = .returned (.int k b) := by rw [h]
theorem chain {w a b : World} (h : Below w.heap.size w a) (k : Below a.heap.size a b) : Below w.heap.size w b := h.trans (k.mono h.size)
theorem heap_lt {W : World} {p : Nat} {o : Obj} (h : W.heap[p]? = some o) : p < W.heap.size := (Array.getElem?_eq_some_iff.1 h).1
theorem wf_bd {k : Int} (h : (Lit.int .i64 k).wf = true) : -9223372036854775808 ≤ k ∧ k ≤ 9223372036854775807 := by
  have e0 : IntKind.i64.min = -9223372036854775808 := by decide
  have e1 : IntKind.i64.max = 9223372036854775807 := by decide
  simpa [Lit.wf, e0, e1] using h
theorem wf_i64 {k : Int} (h0 : -9223372036854775808 ≤ k) (h1 : k ≤ 9223372036854775807) : (Lit.int .i64 k).wf = true := by
  have e0 : IntKind.i64.min = -9223372036854775808 := by decide
  have e1 : IntKind.i64.max = 9223372036854775807 := by decide
  simp only [Lit.wf, e0, e1, h0, h1, decide_true, Bool.and_self]

/-! ### All blocks but those of S are as they were -/

structure Only (S : List Nat) (w w' : World) : Prop where
  os : w'.os = w.os
  tape : w'.tape = w.tape
  output : w'.output = w.output
  size : w.heap.size ≤ w'.heap.size
  block : ∀ k, k < w.heap.size → k ∉ S → w'.heap[k]? = w.heap[k]?
theorem Only.refl (S : List Nat) (w : World) : Only S w w := ⟨rfl, rfl, rfl, Nat.le_refl _, fun _ _ _ => rfl⟩
theorem Only.trans {S : List Nat} {a b c : World} (h : Only S a b) (k : Only S b c) : Only S a c :=
  ⟨k.os.trans h.os, k.tape.trans h.tape, k.output.trans h.output, Nat.le_trans h.size k.size, fun i hi hn => (k.block i (Nat.lt_of_lt_of_le hi h.size) hn).trans (h.block i hi hn)⟩
theorem Only.mono {S T : List Nat} {a b : World} (h : Only S a b) (hs : ∀ k ∈ S, k ∈ T) : Only T a b := ⟨h.os, h.tape, h.output, h.size, fun i hi hn => h.block i hi (fun hk => hn (hs i hk))⟩
theorem Only.of_grown {S : List Nat} {a b : World} {row : Option Nat} (h : a.grownBy b row) (hs : ∀ k, row = some k → k ∈ S) : Only S a b :=
  ⟨h.os, h.tape, h.output, h.size, fun i hi hn => h.block i hi (fun e => hn (hs i e.symm))⟩
theorem Only.of_below {S : List Nat} {a b : World} (h : Below a.heap.size a b) : Only S a b := ⟨h.os, h.tape, h.output, h.size, fun i hi _ => h.block i hi⟩
theorem Only.alloc (S : List Nat) (w : World) (o : Obj) : Only S w (w.alloc o) := ⟨rfl, rfl, rfl, by simp, fun k hk _ => Below.heap_alloc w o k hk⟩
theorem Only.drew (S : List Nat) (w : World) : Only S w w.drew := ⟨rfl, rfl, rfl, Nat.le_refl _, fun _ _ _ => rfl⟩
theorem Only.setCell {S : List Nat} (w : World) {p : Addr} (hp : p.block ∈ S) (v : Value) : Only S w (w.setCell p v) :=
  ⟨rfl, rfl, rfl, by simp [World.setCell], fun k _ hn => Below.heap_setCell w p v k (fun e => hn (by rw [e]; exact hp))⟩
theorem Only.below {S : List Nat} {w w' : World} (h : Only S w w') {B : Nat} (hB : B ≤ w.heap.size) (hS : ∀ k ∈ S, B ≤ k) : Below B w w' :=
  ⟨h.os, h.tape, h.output, h.size, fun k hk => h.block k (by omega) (fun hm => by have := hS k hm; omega)⟩
theorem only_heap {S : List Nat} {w w' : World} {b : Nat} {o : Obj} (h : w.heap[b]? = some o) (ho : Only S w w') (hb : b ∉ S) : w'.heap[b]? = some o := (ho.block b (heap_lt h) hb).trans h
theorem Only.new {S T : List Nat} {a b c : World} (h : Only T a b) (k : Only S b c) (hs : ∀ i ∈ S, i ∈ T ∨ a.heap.size ≤ i) : Only T a c :=
  ⟨k.os.trans h.os, k.tape.trans h.tape, k.output.trans h.output, Nat.le_trans h.size k.size, fun i hi hn => (k.block i (Nat.lt_of_lt_of_le hi h.size) (fun hk => (hs i hk).elim hn (fun h => by omega))).trans (h.block i hi hn)⟩
theorem only_cell {S : List Nat} {w w' : World} {b j : Nat} {v : Value} (ho : Only S w w') (hl : b < w.heap.size) (hb : b ∉ S) (h : w.cell? ⟨b, j, none⟩ = some v) : w'.cell? ⟨b, j, none⟩ = some v := by
  unfold World.cell? at *
  rw [ho.block b hl hb]
  exact h
theorem ownsMap_only {P : Program} {k : TypeId} {R : Value → Option (DataW Unit × List MemPlace)} {w w' : World} {b n : Nat} {D : DataW Unit} {S : List Nat} (h : w.ownsMap P k R b n D) (ho : Only S w w') (hb : b ∉ S) : w'.ownsMap P k R b n D := by
  have hlt := h.lt
  obtain ⟨es, clock, hh, F, hs, hD⟩ := h
  exact ⟨es, clock, (ho.block b hlt hb).trans hh, F, hs, hD⟩
/-- A cell lies in no map's block. -/
theorem map_ne {P : Program} {k : TypeId} {R : Value → Option (DataW Unit × List MemPlace)} {w : World} {b n g j : Nat} {D : DataW Unit} {v : Value} (h : w.ownsMap P k R b n D) (hc : w.cell? ⟨g, j, none⟩ = some v) : g ≠ b := by
  rintro rfl
  obtain ⟨es, clock, hh, _⟩ := h
  simp [World.cell?, hh] at hc

/-! ### A set of numbers below 512, as a map's datum -/

def entS (f : Nat → Bool) (i : Nat) : Option (Lit × DataW Unit) := if f i then some (Lit.int .i64 (i : Int), .agg []) else none
def SD (f : Nat → Bool) : DataW Unit := .map ((List.range 512).filterMap (entS f))
theorem entS_some {f : Nat → Bool} {i : Nat} {p : Lit × DataW Unit} (h : entS f i = some p) : f i = true ∧ p = (.int .i64 (i : Int), .agg []) := by
  unfold entS at h
  split at h
  · rename_i hf; exact ⟨hf, (Option.some.inj h).symm⟩
  · cases h
theorem mem_SD {f : Nat → Bool} {p : Lit × DataW Unit} : p ∈ (List.range 512).filterMap (entS f) ↔ ∃ i, i < 512 ∧ f i = true ∧ p = (.int .i64 (i : Int), .agg []) := by
  rw [List.mem_filterMap]
  constructor
  · rintro ⟨i, hi, he⟩
    obtain ⟨hs, hp⟩ := entS_some he
    exact ⟨i, List.mem_range.1 hi, hs, hp⟩
  · rintro ⟨i, hi, hs, rfl⟩
    exact ⟨i, List.mem_range.2 hi, by simp [entS, hs]⟩
theorem oneI_total {a b : Lit} (ha : ∃ x, a = .int .i64 x) (hb : ∃ x, b = .int .i64 x) (hne : a ≠ b) : a.before b = true ∨ b.before a = true := by
  obtain ⟨x, rfl⟩ := ha
  obtain ⟨y, rfl⟩ := hb
  simp only [Lit.before, decide_eq_true_eq]
  have : x ≠ y := fun e => hne (by rw [e])
  omega
theorem oneI : OneKind (fun l : Lit => ∃ x, l = .int .i64 x) :=
  ⟨fun h => by obtain ⟨x, rfl⟩ := h; trivial, fun ha hb hne => oneI_total ha hb hne⟩
theorem rising_SD (f : Nat → Bool) : ((List.range 512).filterMap (entS f)).Pairwise (fun p q => p.1.before q.1 = true) := by
  rw [List.pairwise_filterMap]
  refine List.Pairwise.imp ?_ (List.pairwise_lt_range (n := 512))
  intro i j hij p hp q hq
  obtain ⟨_, rfl⟩ := entS_some hp
  obtain ⟨_, rfl⟩ := entS_some hq
  simp only [Lit.before, decide_eq_true_eq]
  omega
theorem canon_SD (f : Nat → Bool) : Canon (SD f) := by
  refine ⟨_, rfl, rising_SD f, fun p hp => ?_⟩
  obtain ⟨i, _, _, rfl⟩ := mem_SD.1 hp
  trivial
theorem canonK_SD (f : Nat → Bool) : CanonK (fun l : Lit => ∃ x, l = .int .i64 x) (SD f) :=
  ⟨_, rfl, rising_SD f, fun p hp => by obtain ⟨i, _, _, rfl⟩ := mem_SD.1 hp; exact ⟨_, rfl⟩⟩
theorem isMap_SD (f : Nat → Bool) : IsMap (SD f) := ⟨_, rfl⟩
theorem key_mk (i : Int) : WideAt.IsKeyLit (.int .i64 i) := trivial
theorem has_SD (f : Nat → Bool) (k : Lit) : has (SD f) k = true ↔ ∃ i, i < 512 ∧ f i = true ∧ k = .int .i64 (i : Int) := by
  unfold SD
  rw [has_eq, List.any_eq_true]
  constructor
  · rintro ⟨p, hp, hs⟩
    obtain ⟨i, hi, hf, rfl⟩ := mem_SD.1 hp
    exact ⟨i, hi, hf, (WideAt.sameKey_eq hs).symm⟩
  · rintro ⟨i, hi, hf, rfl⟩
    exact ⟨_, mem_SD.2 ⟨i, hi, hf, rfl⟩, WideAt.sameKey_self (key_mk _)⟩
/-- Is a number in the set? -/
def inS (f : Nat → Bool) (k : Int) : Bool := decide (0 ≤ k) && decide (k < 512) && f k.toNat
theorem has_at (f : Nat → Bool) (k : Int) : has (SD f) (.int .i64 k) = inS f k := by
  rw [Bool.eq_iff_iff, has_SD]
  simp only [inS, Bool.and_eq_true, decide_eq_true_eq]
  constructor
  · rintro ⟨i, hi, hf, he⟩
    simp only [Lit.int.injEq, true_and] at he
    subst he
    exact ⟨⟨by omega, by omega⟩, by simpa using hf⟩
  · rintro ⟨⟨h0, h1⟩, hf⟩
    exact ⟨k.toNat, by omega, hf, by simp; omega⟩
theorem inS_nat {f : Nat → Bool} {i : Nat} (h : i < 512) : inS f (i : Int) = f i := by
  have : (i : Int) < 512 := by omega
  simp [inS, this]
theorem atKey_SD {f : Nat → Bool} {i : Nat} (hi : i < 512) (hf : f i = true) (z : DataW Unit) : (SD f).atKey (.int .i64 (i : Int)) z = .agg [] :=
  WideAt.atKey_mem z (key_mk _) (apart_of_rising (rising_SD f)) (mem_SD.2 ⟨i, hi, hf, rfl⟩)
def setF (f : Nat → Bool) (k : Nat) (b : Bool) : Nat → Bool := fun i => if i = k then b else f i
theorem put_SD {f : Nat → Bool} {k : Nat} (hk : k < 512) : (SD f).put (.int .i64 (k : Int)) (.agg []) = SD (setF f k true) := by
  refine Maps.ext ((canonK_put oneI ⟨_, rfl⟩ _ (canonK_SD f)).canon oneI) (canon_SD _) (fun l => ?_) (fun l z h => ?_)
  · by_cases e : l = .int .i64 (k : Int)
    · subst e
      rw [has_put_same (isMap_SD f) (key_mk _), has_at, inS_nat hk]
      simp [setF]
    · rw [has_put_other e, Bool.eq_iff_iff, has_SD, has_SD]
      constructor
      · rintro ⟨i, hi, hf, rfl⟩
        exact ⟨i, hi, by unfold setF; rw [if_neg (fun h => e (by rw [h]))]; exact hf, rfl⟩
      · rintro ⟨i, hi, hf, rfl⟩
        unfold setF at hf
        rw [if_neg (fun h => e (by rw [h]))] at hf
        exact ⟨i, hi, hf, rfl⟩
  · by_cases e : l = .int .i64 (k : Int)
    · subst e
      rw [atKey_put_same (isMap_SD f) (key_mk _), atKey_SD hk (by simp [setF])]
    · rw [has_put_other e, has_SD] at h
      obtain ⟨i, hi, hf, rfl⟩ := h
      rw [atKey_put_other e, atKey_SD hi hf, atKey_SD hi (by unfold setF; rw [if_neg (fun h => e (by rw [h]))]; exact hf)]
theorem canon_del (f : Nat → Bool) (k : Lit) : Canon ((SD f).del k) := by
  unfold SD
  rw [DataW.del_eq]
  refine ⟨_, rfl, (rising_SD f).filter _, fun p hp => ?_⟩
  obtain ⟨i, _, _, rfl⟩ := mem_SD.1 (List.mem_filter.1 hp).1
  trivial
theorem del_SD {f : Nat → Bool} {k : Nat} : (SD f).del (.int .i64 (k : Int)) = SD (setF f k false) := by
  refine Maps.ext (canon_del f _) (canon_SD _) (fun l => ?_) (fun l z h => ?_)
  · by_cases e : l = .int .i64 (k : Int)
    · subst e
      rw [has_del_same]
      symm
      rw [Bool.eq_false_iff]
      intro hh
      obtain ⟨i, hi, hf, he⟩ := (has_SD _ _).1 hh
      simp only [Lit.int.injEq, true_and] at he
      have : k = i := by omega
      subst this
      simp [setF] at hf
    · rw [has_del_other e, Bool.eq_iff_iff, has_SD, has_SD]
      constructor
      · rintro ⟨i, hi, hf, rfl⟩
        exact ⟨i, hi, by unfold setF; rw [if_neg (fun h => e (by rw [h]))]; exact hf, rfl⟩
      · rintro ⟨i, hi, hf, rfl⟩
        unfold setF at hf
        rw [if_neg (fun h => e (by rw [h]))] at hf
        exact ⟨i, hi, hf, rfl⟩
  · by_cases e : l = .int .i64 (k : Int)
    · subst e
      rw [has_del_same] at h
      cases h
    · rw [has_del_other e, has_SD] at h
      obtain ⟨i, hi, hf, rfl⟩ := h
      rw [atKey_del_other e, atKey_SD hi hf, atKey_SD hi (by unfold setF; rw [if_neg (fun h => e (by rw [h]))]; exact hf)]
theorem ent_none (l : List Nat) : l.filterMap (entS fun _ => false) = [] := List.filterMap_eq_nil_iff.2 fun _ _ => rfl
theorem SD_none : SD (fun _ => false) = .map [] := by
  unfold SD
  rw [ent_none]
theorem SD_congr {f g : Nat → Bool} (h : ∀ i, i < 512 → f i = g i) : SD f = SD g := by
  have key : ∀ l : List Nat, (∀ i ∈ l, i < 512) → l.filterMap (entS f) = l.filterMap (entS g) := by
    intro l
    induction l with
    | nil => intro _; rfl
    | cons i r ih =>
      intro hl
      have hi : entS f i = entS g i := by unfold entS; rw [h i (hl i (by simp))]
      rw [List.filterMap_cons, List.filterMap_cons, hi, ih (fun j hj => hl j (by simp [hj]))]
  unfold SD
  rw [key _ (fun i hi => List.mem_range.1 hi)]
theorem len_ent (f : Nat → Bool) (l : List Nat) : (l.filterMap (entS f)).length = (l.filter f).length := by
  induction l with
  | nil => rfl
  | cons i r ih =>
    cases hf : f i with
    | false => simp [entS, hf] at ih ⊢; exact ih
    | true => simp [entS, hf] at ih ⊢; exact ih
theorem size_SD (f : Nat → Bool) : Maps.size (SD f) = ((List.range 512).filter f).length := by
  unfold SD
  rw [size_eq, len_ent]
theorem size_le (f : Nat → Bool) : Maps.size (SD f) ≤ 512 := by
  rw [size_SD]
  exact Nat.le_trans (List.length_filter_le _ _) (by simp)

/-! ### A set in the world -/

theorem keyed : Keyed Try.prog 3 := int_keyed Try.underlying3
theorem key_int {k : Int} (h0 : -9223372036854775808 ≤ k) (h1 : k ≤ 9223372036854775807) : keyOf Try.prog 3 (.int .i64 k) = some (.int .i64 k) :=
  keyOf_int_mk Try.underlying3 (wf_i64 h0 h1)
theorem Try.infoU : (Try.prog.info? 56).map (fun i => (i.zero, i.size)) = some (some (.agg #[]), 0) := by kernel_rfl
theorem Try.zeroU (u : World) : (zeroValue 56).run Try.prog u = .ok (.agg #[]) u := (zero_of_info Try.infoU).1 u

/-- At b lies a set. -/
def IsSet (W : World) (b : Nat) (f : Nat → Bool) : Prop := W.ownsMap Try.prog 3 unitElem b 512 (SD f)
theorem tightS {w : World} {b m : Nat} {f : Nat → Bool} (h : w.ownsMap Try.prog 3 unitElem b m (SD f)) : IsSet w b f := by
  obtain ⟨es, c, hb, F, _, hD⟩ := h
  refine ⟨es, c, hb, F, ?_, hD⟩
  have := size_le f
  rw [hD, size_eq, length_sorted] at this
  simpa using this
theorem IsSet.only {W W' : World} {b : Nat} {f : Nat → Bool} {S : List Nat} (h : IsSet W b f) (ho : Only S W W') (hb : b ∉ S) : IsSet W' b f := ownsMap_only h ho hb
theorem IsSet.below {W W' : World} {b : Nat} {f : Nat → Bool} (h : IsSet W b f) (hb : Below W.heap.size W W') : IsSet W' b f := h.only (Only.of_below (S := []) hb) (by simp)
theorem IsSet.congr {W : World} {b : Nat} {f g : Nat → Bool} (h : IsSet W b f) (e : ∀ i, i < 512 → f i = g i) : IsSet W b g := by
  unfold IsSet at *
  rw [← SD_congr e]
  exact h
theorem IsSet.lt {W : World} {b : Nat} {f : Nat → Bool} (h : IsSet W b f) : b < W.heap.size := World.ownsMap.lt h

/-- Numbers at a value. -/
def RdI (W : World) (v : Value) (l : List Int) : Prop :=
  ∃ ao cp, v = .slice ao l.length cp ∧ ∀ (i : Nat) (o : Int), l[i]? = some o → ∃ b off, ao = some ⟨b, off, none⟩ ∧ b < W.heap.size ∧ W.cell? ⟨b, off + i, none⟩ = some (.int .i64 o)
theorem RdI.below {W W' : World} {v : Value} {l : List Int} (h : RdI W v l) (hb : Below W.heap.size W W') : RdI W' v l := by
  obtain ⟨ao, cp, h1, h2⟩ := h
  refine ⟨ao, cp, h1, fun i o ho => ?_⟩
  obtain ⟨b, off, e1, e2, e3⟩ := h2 i o ho
  exact ⟨b, off, e1, Nat.lt_of_lt_of_le e2 hb.size, (hb.cell (p := ⟨b, off + i, none⟩) e2).trans e3⟩
theorem RdI.map {W W' : World} {v : Value} {l : List Int} {g : Nat} {f : Nat → Bool} (h : RdI W v l) (hs : IsSet W g f) (ho : Only [g] W W') : RdI W' v l := by
  obtain ⟨ao, cp, h1, h2⟩ := h
  refine ⟨ao, cp, h1, fun i o hi => ?_⟩
  obtain ⟨b, off, e1, e2, e3⟩ := h2 i o hi
  have hne := map_ne hs e3
  exact ⟨b, off, e1, Nat.lt_of_lt_of_le e2 ho.size, only_cell ho e2 (by simp [hne]) e3⟩
theorem RdI.nil (W : World) : RdI W (.slice none 0 0) [] := ⟨none, 0, rfl, fun i o h => by simp at h⟩

set_option maxHeartbeats 800000 in
theorem has_any {w : World} {b : Nat} {f : Nat → Bool} (h : IsSet w b f) (k : Int) (h0 : -9223372036854775808 ≤ k) (h1 : k ≤ 9223372036854775807) :
    Calls Try.prog 30 #[.map (some b), .int .i64 k] w fun e w' => e = .returned (.bool (inS f k)) ∧ Below w.heap.size w w' := by
  have hkey := key_int h0 h1
  have hown : w.ownsMap Try.prog 3 unitElem b 512 (SD f) := h
  have he := has_at f k
  generalize inS f k = r at *
  go_enter Try.func30, Try.ntmps30
  go_wp2_with (at_lookup; refine wpList_lookup_own_unit _ rfl _ _ 68 rfl 3 56 keyed Try.underlying68 (Try.zeroU _) b 512 (SD f) rfl hown _ _ rfl hkey ?_; rw [he])
  go_ret
  exact ⟨rfl, (Below.refl _ _).alloc (Nat.le_refl _) _⟩

/-- With numbers more; with numbers fewer. -/
def putL (f : Nat → Bool) (l : List Int) : Nat → Bool := fun i => f i || l.contains (i : Int)
def dropL (f : Nat → Bool) (l : List Int) : Nat → Bool := fun i => f i && !l.contains (i : Int)
theorem putL_snoc (f : Nat → Bool) (l : List Int) (k : Nat) : setF (putL f l) k true = putL f (l ++ [(k : Int)]) := by
  funext i
  unfold setF putL
  by_cases e : i = k
  · subst e; simp
  · rw [if_neg e]
    have : (i : Int) ≠ (k : Int) := by omega
    simp [List.contains_eq_mem, this]
theorem dropL_snoc (f : Nat → Bool) (l : List Int) (k : Nat) : setF (dropL f l) k false = dropL f (l ++ [(k : Int)]) := by
  funext i
  unfold setF dropL
  by_cases e : i = k
  · subst e; simp
  · rw [if_neg e]
    have : (i : Int) ≠ (k : Int) := by omega
    simp [List.contains_eq_mem, this]
theorem putL_nil (f : Nat → Bool) : putL f [] = f := by funext i; simp [putL]
theorem dropL_nil (f : Nat → Bool) : dropL f [] = f := by funext i; simp [dropL]

set_option maxHeartbeats 1500000 in
theorem put_any {w : World} {b : Nat} {f : Nat → Bool} {v : Value} {l : List Int} (h : IsSet w b f) (hv : RdI w v l) (hl : l.length ≤ 4611686018427387904) (hb : ∀ x ∈ l, 0 ≤ x ∧ x < 512) :
    Calls Try.prog 45 #[.map (some b), v] w fun e w' => e = .returned (.tuple #[]) ∧ IsSet w' b (putL f l) ∧ Only [b] w w' := by
  have hrd : ∀ W, Only [b] w W → RdI W v l := fun W ho => hv.map h ho
  obtain ⟨ao, cp, rfl, _⟩ := id hv
  clear hv
  have h0 : IsSet w b (putL f (l.take 0)) := by rw [List.take_zero, putL_nil]; exact h
  clear h
  go_enter Try.func45, Try.ntmps45
  go_wp2_with fail
  go_loopw [8] (fun i wr => ∃ k : Nat, k ≤ l.length ∧ i = .int .i64 (k : Int) ∧ IsSet wr b (putL f (l.take k)) ∧ Only [b] w wr) (fun i _ => l.length - (Go.RowKit.intOf i).toNat)
  case atStart => exact ⟨0, Nat.zero_le _, rfl, h0, Only.refl _ _⟩
  case round =>
    obtain ⟨k, hk, rfl, hS, hO⟩ := hrel
    clear h0
    by_cases c : k < l.length
    · have c' : (k : Int) < (l.length : Int) := by omega
      obtain ⟨_, _, e1, hcs⟩ := hrd wr hO
      obtain ⟨g, off, e2, hg, c0⟩ := hcs k l[k] (by simp [c])
      simp at e1
      obtain ⟨rfl, rfl⟩ := e1
      subst e2
      clear hcs hrd
      obtain ⟨x, hx⟩ := Int.eq_ofNat_of_zero_le (hb l[k] (by simp)).1
      have hx2 : x < 512 := by have := (hb l[k] (by simp)).2; omega
      have HT : Hid (l.take (k + 1) = l.take k ++ [(x : Int)]) := by
        show _ = _
        rw [List.take_succ_eq_append_getElem c, hx]
      rw [hx] at c0
      clear hx hb
      have hkey := key_int (k := (x : Int)) (by omega) (by omega)
      have hown : wr.ownsMap Try.prog 3 unitElem b 512 (SD (putL f (l.take k))) := hS
      clear hS
      go_wp2_with (at_mapUpdate; refine wpList_mapUpdate_own _ rfl _ _ _ 68 rfl 3 56 keyed Try.underlying68 unitElem b _ _ rfl hown (by unfold maxLen; omega) _ _ _ rfl rfl hkey _ _ unitElem_mk ?_; intro w3 hown3 hg3)
      have hO3 : Only [b] wr w3 := Only.of_grown hg3 (by simp)
      rw [put_SD hx2, putL_snoc, ← HT.out] at hown3
      have hS3 := tightS hown3
      have hO4 := hO.trans hO3
      clear hown hown3 hg3 hO3 hO
      go_roundw
      case rel => exact ⟨k + 1, by omega, by go_num, hS3, hO4⟩
      case measure => simp [Go.RowKit.intOf]; omega
    · obtain rfl : k = l.length := by omega
      have HS : Hid (IsSet wr b (putL f l)) := by rw [List.take_length] at hS; exact hS
      clear hS hrd hb
      go_wp2_with fail
      go_end0
      exact ⟨rfl, HS.out, hO⟩

end Go.Proofs.Ythhdpabelcgfjaa.dg
