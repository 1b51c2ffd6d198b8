/-
  What is safe behind a crash, sector by sector.
-/
import Derived.Test.YthgdjgbikljbeaaDevT
namespace Go.Proofs.Ythgdjgbikljbeaa

theorem keysF_succ (i : Nat) (f : SecF) : keysF (i + 1) f = keysF i f ++ (if (f i).isSome then [i] else []) := by
  unfold keysF
  rw [List.range_succ, List.filter_append]
  congr 1
  cases h : (f i).isSome <;> simp [h]

theorem keysF_split {N i : Nat} (f : SecF) (h : i ≤ N) : ∃ r, keysF N f = keysF i f ++ r ∧ ∀ x ∈ r, i ≤ x := by
  obtain ⟨d, rfl⟩ := Nat.exists_eq_add_of_le h
  induction d with
  | zero => exact ⟨[], by simp, by simp⟩
  | succ d ih =>
    obtain ⟨r, h1, h2⟩ := ih (by omega)
    refine ⟨r ++ (if (f (i + d)).isSome then [i + d] else []), ?_, ?_⟩
    · rw [show i + (d + 1) = (i + d) + 1 by omega, keysF_succ, h1, List.append_assoc]
    · intro x hx
      rcases List.mem_append.1 hx with hx | hx
      · exact h2 x hx
      · split at hx
        · simp at hx; omega
        · simp at hx

/-- Where a key stands among the keys. -/
theorem key_at {N i : Nat} {f : SecF} (hi : i < N) (hf : (f i).isSome = true) : (keysF N f)[(keysF i f).length]? = some i := by
  obtain ⟨r, h1, _⟩ := keysF_split f (show i + 1 ≤ N by omega)
  rw [h1, keysF_succ, if_pos hf, List.append_assoc, List.getElem?_append_right (Nat.le_refl _)]
  simp

theorem key_not {N i : Nat} {f : SecF} (hi : i < N) (hf : (f i).isSome = false) (x : Nat) (hx : (keysF N f)[(keysF i f).length]? = some x) : x ≠ i := by
  obtain ⟨r, h1, h2⟩ := keysF_split f (show i + 1 ≤ N by omega)
  rw [h1, keysF_succ, hf, if_neg (by simp), List.append_nil, List.getElem?_append_right (Nat.le_refl _)] at hx
  have := h2 x (List.mem_of_getElem? hx)
  omega

theorem keysF_mono {N i : Nat} (f : SecF) (h : i ≤ N) : (keysF i f).length ≤ (keysF N f).length := by
  obtain ⟨r, h1, _⟩ := keysF_split f h
  rw [h1]
  simp

theorem key_inj {N : Nat} {f : SecF} {a b x : Nat} (ha : (keysF N f)[a]? = some x) (hb : (keysF N f)[b]? = some x) : a = b := by
  obtain ⟨h1, e1⟩ := List.getElem?_eq_some_iff.1 ha
  obtain ⟨h2, e2⟩ := List.getElem?_eq_some_iff.1 hb
  have hs := List.pairwise_iff_getElem.1 (keysF_sorted N f)
  rcases Nat.lt_trichotomy a b with h | h | h
  · have := hs a b h1 h2 h
    omega
  · exact h
  · have := hs b a h2 h1 h
    omega

theorem crF_at (s : DevS) (m : List UInt8) (i : Nat) : ∀ k, k ≤ s.keys.length →
    crF s m k i = if (keysF i s.waits).length < k ∧ (s.waits i).isSome = true ∧ i < s.n ∧ oddAt m (keysF i s.waits).length = true then some ((s.waits i).getD zeroS) else s.safe i
  | 0, _ => by simp [crF]
  | k + 1, hk => by
    have ih := crF_at s m i k (by omega)
    have hkey : s.keys[k]? = some s.keys[k] := List.getElem?_eq_getElem (by omega)
    have hgd : s.keys.getD k 0 = s.keys[k] := by simp [List.getD, hkey]
    have hmem := mem_keysF.1 (List.getElem_mem (show k < s.keys.length by omega))
    unfold crF
    rw [hgd]
    by_cases ho : oddAt m k = true
    · rw [if_pos ho]
      unfold putF
      by_cases e : i = s.keys[k]
      · rw [if_pos e]
        subst e
        have hq : (keysF s.keys[k] s.waits).length = k := key_inj (key_at hmem.1 hmem.2) hkey
        rw [if_pos ⟨by omega, hmem.2, hmem.1, by rw [hq]; exact ho⟩]
      · rw [if_neg e, ih]
        by_cases hc : (s.waits i).isSome = true ∧ i < s.n
        · have hq : (keysF i s.waits).length ≠ k := fun hq => e (by
            have h2 := key_at hc.2 hc.1
            rw [hq] at h2
            have h3 : (keysF s.n s.waits)[k]? = some s.keys[k] := hkey
            rw [h3] at h2
            exact (Option.some.inj h2).symm)
          have : (keysF i s.waits).length < k ↔ (keysF i s.waits).length < k + 1 := by omega
          simp only [this]
        · rw [if_neg (fun h => hc ⟨h.2.1, h.2.2.1⟩), if_neg (fun h => hc ⟨h.2.1, h.2.2.1⟩)]
    · rw [if_neg ho, ih]
      by_cases hq : (keysF i s.waits).length = k
      · rw [if_neg (by rw [hq]; omega), if_neg (by rw [hq]; exact fun h => ho h.2.2.2)]
      · have : (keysF i s.waits).length < k ↔ (keysF i s.waits).length < k + 1 := by omega
        simp only [this]

/-- What is safe of i behind a crash. -/
theorem crashed_safeAt {s : DevS} (m : List UInt8) {i : Nat} (hi : i < s.n) :
    (s.crashed m).safeAt i = if (s.waits i).isSome = true ∧ oddAt m (keysF i s.waits).length = true then s.readAt i else s.safeAt i := by
  show (crF s m s.keys.length i).getD zeroS = _
  rw [crF_at s m i _ (Nat.le_refl _)]
  by_cases hc : (s.waits i).isSome = true ∧ oddAt m (keysF i s.waits).length = true
  · have hlt : (keysF i s.waits).length < s.keys.length := by
      have := key_at hi hc.1
      exact (List.getElem?_eq_some_iff.1 this).1
    rw [if_pos ⟨hlt, hc.1, hi, hc.2⟩, if_pos hc]
    unfold DevS.readAt
    obtain ⟨t, ht⟩ := Option.isSome_iff_exists.1 hc.1
    simp [ht]
  · rw [if_neg (fun h => hc ⟨h.2.1, h.2.2.2⟩), if_neg hc]
    rfl

theorem crashed_readAt (s : DevS) (m : List UInt8) (i : Nat) : (s.crashed m).readAt i = (s.crashed m).safeAt i := rfl
theorem crashed_up (s : DevS) (m : List UInt8) : (s.crashed m).up = true := rfl
theorem crashed_keys (s : DevS) (m : List UInt8) : (s.crashed m).keys = [] := by
  unfold DevS.keys keysF
  rw [List.filter_eq_nil_iff]
  intro i _
  simp [DevS.crashed]
end Go.Proofs.Ythgdjgbikljbeaa
