/-
  Writes of a Commit: as data, and as a function from home sectors. No walk.
-/
import Derived.Test.YtblhmfkohbdmeaaWalI
namespace Go.Proofs.Ytblhmfkohbdmeaa
open Go.RowKit Go.Maps

/-- A write. -/
structure WrD where
  k : Int
  x : ByteArray

/-- Its number is an int, its text is no longer than texts are. -/
structure WrD.Ok (o : WrD) : Prop where
  k0 : -9223372036854775808 ≤ o.k
  k1 : o.k ≤ 9223372036854775807
  x1 : o.x.size ≤ maxLen

/-- At v lies a list of writes. -/
def RdWr (w : World) (v : Value) (l : List WrD) : Prop :=
  ∃ ao cp, v = .slice ao l.length cp ∧ (l.length ≤ cp ∧ (ao = none → cp = 0)) ∧ ∀ (i : Nat) (o : WrD), l[i]? = some o → ∃ b off, ao = some ⟨b, off, none⟩ ∧ b < w.heap.size ∧ w.cell? ⟨b, off + i * 2, none⟩ = some (.int .i64 o.k) ∧ w.cell? ⟨b, off + i * 2 + 1, none⟩ = some (.string o.x)

theorem RdWr.below {w w' : World} {v : Value} {l : List WrD} (h : RdWr w v l) {B : Nat} (hb : Below B w w') (hB : B = w.heap.size) : RdWr w' v l := by
  subst hB
  obtain ⟨ao, cp, e, h0, h1⟩ := h
  refine ⟨ao, cp, e, h0, fun i o hi => ?_⟩
  obtain ⟨b, off, e1, hl, c0, c1⟩ := h1 i o hi
  exact ⟨b, off, e1, Nat.lt_of_lt_of_le hl hb.size, (hb.cell (p := ⟨b, off + i * 2, none⟩) hl).trans c0, (hb.cell (p := ⟨b, off + i * 2 + 1, none⟩) hl).trans c1⟩

/-- May it be one of a Commit on N home sectors? -/
def WrD.good (N : Nat) (o : WrD) : Bool := decide (0 ≤ o.k) && decide (o.k < (N : Int)) && (o.x.size == 64)

/-- A Commit that may be, but for its length. -/
def OkW (N : Nat) (l : List WrD) : Prop := (∀ o ∈ l, o.good N = true) ∧ l.Pairwise (fun a b => a.k ≠ b.k)
instance (N : Nat) (l : List WrD) : Decidable (OkW N l) := by unfold OkW; infer_instance

/-- What stands against a Commit. -/
def apartE (N : Nat) (l : List WrD) : Int := if OkW N l then (if 24 < l.length then 4 else 0) else 1

/-- The sectors that are written. -/
def fOf (l : List WrD) : SecF := l.foldl (fun f o => putF f o.k.toNat o.x.data.toList) (fun _ => none)

theorem fOf_snoc (l : List WrD) (o : WrD) : fOf (l ++ [o]) = putF (fOf l) o.k.toNat o.x.data.toList := by simp [fOf]

theorem good_parts {N : Nat} {o : WrD} (h : o.good N = true) : 0 ≤ o.k ∧ o.k < (N : Int) ∧ o.x.size = 64 := by
  simp [WrD.good] at h
  exact ⟨h.1.1, h.1.2, h.2⟩
theorem good_len {N : Nat} {o : WrD} (h : o.good N = true) : o.x.data.toList.length = 64 := by
  rw [Array.length_toList]
  exact (good_parts h).2.2

theorem rev_ind {α : Type _} {P : List α → Prop} (h0 : P []) (h1 : ∀ l a, P l → P (l ++ [a])) (l : List α) : P l := by
  have key : ∀ l : List α, P l.reverse := by
    intro l
    induction l with
    | nil => exact h0
    | cons a l ih => rw [List.reverse_cons]; exact h1 _ _ ih
  have := key l.reverse
  rwa [List.reverse_reverse] at this

theorem OkW.snoc {N : Nat} {l : List WrD} {o : WrD} : OkW N (l ++ [o]) ↔ OkW N l ∧ o.good N = true ∧ ∀ a ∈ l, a.k ≠ o.k := by
  unfold OkW
  rw [List.pairwise_append]
  simp only [List.mem_append, List.mem_singleton, List.pairwise_cons, List.not_mem_nil]
  constructor
  · rintro ⟨h1, h2, _, h3⟩
    exact ⟨⟨fun a ha => h1 a (.inl ha), h2⟩, h1 o (.inr rfl), fun a ha => h3 a ha o rfl⟩
  · rintro ⟨⟨h1, h2⟩, h3, h4⟩
    refine ⟨fun a ha => ?_, h2, ?_, fun a ha b hb => by subst hb; exact h4 a ha⟩
    · rcases ha with ha | rfl
      · exact h1 a ha
      · exact h3
    · refine ⟨fun _ h => ?_, .nil⟩
      cases h

theorem fOf_mem {N : Nat} {l : List WrD} (h : OkW N l) {o : WrD} (ho : o ∈ l) : fOf l o.k.toNat = some o.x.data.toList := by
  induction l using rev_ind with
  | h0 => simp at ho
  | h1 l a ih =>
    obtain ⟨h1, h2, h3⟩ := OkW.snoc.1 h
    rw [fOf_snoc]
    unfold putF
    rw [List.mem_append, List.mem_singleton] at ho
    rcases ho with ho | rfl
    · have g1 := good_parts (h1.1 o ho)
      have g2 := good_parts h2
      have := h3 o ho
      rw [if_neg (by omega)]
      exact ih h1 ho
    · rw [if_pos rfl]

theorem fOf_some {l : List WrD} {i : Nat} {t : Sec} (h : fOf l i = some t) : ∃ o ∈ l, o.k.toNat = i ∧ o.x.data.toList = t := by
  induction l using rev_ind with
  | h0 => simp [fOf] at h
  | h1 l a ih =>
    rw [fOf_snoc] at h
    unfold putF at h
    split at h
    · rename_i e
      exact ⟨a, by simp, e.symm, Option.some.inj h⟩
    · obtain ⟨o, ho, h1, h2⟩ := ih h
      exact ⟨o, by simp [ho], h1, h2⟩

theorem fOf_full {N : Nat} {l : List WrD} (h : OkW N l) : Full (fOf l) := by
  intro i t ht
  obtain ⟨o, ho, _, rfl⟩ := fOf_some ht
  exact good_len (h.1 o ho)

theorem fOf_none {l : List WrD} {i : Nat} (h : ∀ o ∈ l, o.k.toNat ≠ i) : fOf l i = none := by
  cases hf : fOf l i with
  | none => rfl
  | some t =>
    obtain ⟨o, ho, e, _⟩ := fOf_some hf
    exact absurd e (h o ho)

theorem keysF_succ (N : Nat) (f : SecF) : keysF (N + 1) f = keysF N f ++ (if (f N).isSome then [N] else []) := by
  unfold keysF
  rw [List.range_succ, List.filter_append]
  congr 1
  by_cases h : (f N).isSome <;> simp [h]

theorem keys_put (f : SecF) (k : Nat) (s : Sec) (hf : f k = none) : ∀ N, (keysF N (putF f k s)).length = (keysF N f).length + (if k < N then 1 else 0)
  | 0 => by simp [keysF]
  | N + 1 => by
    rw [keysF_succ, keysF_succ, List.length_append, List.length_append, keys_put f k s hf N]
    by_cases h : k = N
    · subst h
      simp [putF, hf]
    · have : putF f k s N = f N := by unfold putF; rw [if_neg (fun e => h e.symm)]
      rw [this]
      have e : (k < N + 1) ↔ (k < N) := by omega
      simp only [e]
      omega

theorem keysF_none (N : Nat) : keysF N (fun _ => none) = [] := by simp [keysF]

theorem keys_len {N : Nat} {l : List WrD} (h : OkW N l) : (keysF N (fOf l)).length = l.length := by
  induction l using rev_ind with
  | h0 => simp [fOf, keysF_none]
  | h1 l a ih =>
    obtain ⟨h1, h2, h3⟩ := OkW.snoc.1 h
    have g := good_parts h2
    rw [fOf_snoc, keys_put _ _ _ (fOf_none (fun o ho => by have := good_parts (h1.1 o ho); have := h3 o ho; omega)), ih h1, if_pos (by omega)]
    simp

theorem size_keys (N : Nat) (f : SecF) : Maps.size (DF N f) = (keysF N f).length := by
  unfold DF keysF
  rw [size_eq]
  induction List.range N with
  | nil => rfl
  | cons i r ih =>
    cases hf : f i with
    | none => simpa [entF, hf] using ih
    | some s => simpa [entF, hf] using ih

/-- v, ok := m[k] of the journal's maps. -/
theorem sec_look_okW {w : World} {b N : Nat} {f : SecF} (h : w.ownsMap Try.prog 3 secR b N (DF N f)) (k : Int) (h0 : -9223372036854775808 ≤ k) (h1 : k ≤ 9223372036854775807) :
    ((k < 0 ∨ (N : Int) ≤ k ∨ f k.toNat = none) ∧ (Instr.lookup 91 (.map (some b)) (.int .i64 k) true).run Try.prog w = .ok (.tuple #[secV zeroS, .bool false]) w) ∨
    (∃ s, 0 ≤ k ∧ k < (N : Int) ∧ f k.toNat = some s ∧ (Instr.lookup 91 (.map (some b)) (.int .i64 k) true).run Try.prog w = .ok (.tuple #[secV s, .bool true]) w) := by
  obtain ⟨v, ps, hrun, hR⟩ := h.look_ok keyed Try.underlying91 (Try.zeroW w) (secR_mk zeroS_len) (key_int k h0 h1)
  obtain ⟨s, rfl, _, hz⟩ := secR_inv hR
  by_cases hk : 0 ≤ k ∧ k < (N : Int)
  · obtain ⟨i, rfl⟩ := Int.eq_ofNat_of_zero_le hk.1
    have hi : i < N := by omega
    cases hf : f i with
    | none =>
      left
      refine ⟨.inr (.inr (by simpa using hf)), ?_⟩
      rw [atKey_of_not_has (by rw [has_DF_at]; simp [hf])] at hz
      simp only [Prod.mk.injEq, DataW.lit.injEq, Lit.string.injEq] at hz
      rw [hrun, ← hz.1, has_DF_at, hf]
      simp
    | some t =>
      right
      refine ⟨t, hk.1, hk.2, by simpa using hf, ?_⟩
      rw [atKey_DF hi hf] at hz
      simp only [Prod.mk.injEq, DataW.lit.injEq, Lit.string.injEq] at hz
      rw [hrun, ← hz.1, has_DF_at, hf]
      simp [hi]
  · left
    have hn := not_has_DF N f (k := k) (by omega)
    refine ⟨by omega, ?_⟩
    rw [atKey_of_not_has hn] at hz
    simp only [Prod.mk.injEq, DataW.lit.injEq, Lit.string.injEq] at hz
    rw [hrun, ← hz.1, hn]

theorem OkW.take {N : Nat} {l : List WrD} (h : OkW N l) (j : Nat) : OkW N (l.take j) :=
  ⟨fun o ho => h.1 o (List.mem_of_mem_take ho), h.2.sublist (List.take_sublist _ _)⟩
theorem OkW.of_take {N : Nat} {l : List WrD} {j : Nat} (h : ¬ OkW N (l.take j)) : ¬ OkW N l := fun h' => h (h'.take j)
theorem take_snoc {α : Type _} (l : List α) (j : Nat) (h : j < l.length) : l.take (j + 1) = l.take j ++ [l[j]] := by
  rw [List.take_add_one, List.getElem?_eq_getElem h]
  rfl

theorem fOf_append (a b : List WrD) : fOf (a ++ b) = orF (fOf b) (fOf a) := by
  induction b using rev_ind with
  | h0 => rw [List.append_nil]; rfl
  | h1 b o ih =>
    rw [← List.append_assoc, fOf_snoc, ih, fOf_snoc]
    funext i
    unfold orF putF
    by_cases h : i = o.k.toNat <;> simp [h]

theorem RdWr.take {w : World} {ao : Option Addr} {cp : Nat} {l : List WrD} (h : RdWr w (.slice ao l.length cp) l) (n : Nat) (hn : n ≤ l.length) : RdWr w (.slice ao n cp) (l.take n) := by
  obtain ⟨ao', cp', e, ⟨h1, h2⟩, h3⟩ := h
  cases e
  have hl : (l.take n).length = n := by simp; omega
  refine ⟨ao, cp, by rw [hl], ⟨by rw [hl]; omega, h2⟩, fun i o hi => h3 i o ?_⟩
  have := (List.getElem?_eq_some_iff.1 hi).1
  rw [hl] at this
  rw [List.getElem?_take_of_lt this] at hi
  exact hi

theorem RdWr.drop {w : World} {b off cp : Nat} {l : List WrD} (h : RdWr w (.slice (some ⟨b, off, none⟩) l.length cp) l) (n : Nat) (hn : n ≤ l.length) : RdWr w (.slice (some ⟨b, off + n * 2, none⟩) (l.length - n) (cp - n)) (l.drop n) := by
  obtain ⟨ao', cp', e, ⟨h1, h2⟩, h3⟩ := h
  cases e
  refine ⟨_, _, by rw [List.length_drop], ⟨by rw [List.length_drop]; omega, fun h => by cases h⟩, fun i o hi => ?_⟩
  rw [List.getElem?_drop] at hi
  obtain ⟨b', off', e', hl, c0, c1⟩ := h3 (n + i) o hi
  cases e'
  exact ⟨b, _, rfl, hl, by rw [show off + n * 2 + i * 2 = off + (n + i) * 2 by omega]; exact c0, by rw [show off + n * 2 + i * 2 + 1 = off + (n + i) * 2 + 1 by omega]; exact c1⟩

theorem OkW.drop {N : Nat} {l : List WrD} (h : OkW N l) (j : Nat) : OkW N (l.drop j) :=
  ⟨fun o ho => h.1 o (List.mem_of_mem_drop ho), h.2.sublist (List.drop_sublist _ _)⟩
end Go.Proofs.Ytblhmfkohbdmeaa
