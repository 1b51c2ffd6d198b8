/-
  What a pair may be; a copy of a list of writes.
-/
import Derived.Test.YtblhmfkohbdmeaaWLawI
import Derived.Laws.AppendOwnNone
namespace Go.Proofs.Ytblhmfkohbdmeaa
open Go.RowKit Go.Maps

/-- What is found behind any crash. -/
def CrOK (N : Nat) (s : DevS) (M : Nat → List ByteArray) (late : List WrD) : Prop :=
  ∀ m, ∃ y, Rest N (s.crashed m) y ∧ ((∀ i, i < N → mk (y i) ∈ M i) ∨ (late ≠ [] ∧ OkW N late ∧ ∀ i, i < N → (∀ t, fOf late i = some t → y i = t) ∧ (fOf late i = none → mk (y i) ∈ M i)))

/-- A journal that is not lost. -/
structure Live (N : Nat) (s : DevS) (M : Nat → List ByteArray) : Prop where
  n : s.n = N + 25
  hs : s.safeAt N = zeroS
  hr : s.readAt N = zeroS
  hd : Heads N s M
  sf : ∀ i, i < N → Go.Proofs.Ytblhmfkohbdmeaa.mk (s.safeAt i) ∈ M i

section
variable {N : Nat} {s s' : DevS} {M : Nat → List ByteArray} {late lw : List WrD}
theorem Live.rd (h : Live N s M) (i : Nat) (hi : i < N) : Go.Proofs.Ytblhmfkohbdmeaa.mk (s.readAt i) ∈ M i := by
  obtain ⟨L, hL⟩ := h.hd i hi
  rw [hL]
  simp
theorem Live.cr (h : Live N s M) (late : List WrD) : CrOK N s M late := fun m => by
  have hK : KK N s.safeAt s.readAt s := ⟨h.n, h.hs, h.hr, fun i _ => ⟨.inl rfl, .inr rfl⟩⟩
  obtain ⟨y, h1, h2⟩ := hK.crash m
  refine ⟨y, h1, .inl fun i hi => ?_⟩
  rcases h2 i hi with e | e
  · rw [e]; exact h.sf i hi
  · rw [e]; exact h.rd i hi
theorem Live.cut (h : Live N s M) (hok : OkW N lw) (hne : lw ≠ []) (hc : Cut N lw s s') : CrOK N s' M lw := fun m => by
  obtain ⟨y, h1, h2⟩ := hc m
  refine ⟨y, h1, ?_⟩
  rcases h2 with h2 | h2
  · refine .inr ⟨hne, hok, fun i hi => ⟨fun t ht => ?_, fun hn => ?_⟩⟩
    · rw [h2 i hi]; unfold put; rw [ht]; rfl
    · rw [h2 i hi]; unfold put; rw [hn]; exact h.rd i hi
  · refine .inl fun i hi => ?_
    rcases h2 i hi with e | e
    · rw [e]; exact h.sf i hi
    · rw [e]; exact h.rd i hi
theorem crF_fuse (k : Int) (m : List UInt8) : ∀ j, crF { s with fuse := k } m j = crF s m j
  | 0 => rfl
  | j + 1 => by
    rw [crF, crF, crF_fuse k m j]
    rfl
theorem crashed_fuse (k : Int) (m : List UInt8) : DevS.crashed { s with fuse := k } m = s.crashed m := by
  unfold DevS.crashed
  rw [crF_fuse]
  rfl
theorem CrOK.fuse (h : CrOK N s M late) (k : Int) : CrOK N { s with fuse := k } M late := fun m => by rw [crashed_fuse]; exact h m

/-- What may be behind a Commit that answered OK. -/
def Mc (l : List WrD) (M : Nat → List ByteArray) (i : Nat) : List ByteArray := match fOf l i with
  | some t => [mk t]
  | none => M i
theorem Mc_nil (M : Nat → List ByteArray) : Mc [] M = M := rfl
theorem Mc_snoc (l : List WrD) (o : WrD) (M : Nat → List ByteArray) : Mc (l ++ [o]) M = setM (Mc l M) o.k.toNat [o.x] := by
  funext i
  unfold Mc setM
  rw [fOf_snoc]
  unfold putF
  by_cases h : i = o.k.toNat
  · rw [if_pos h, if_pos h]
    simp [mk_data]
  · rw [if_neg h, if_neg h]
/-- The first k cut to one. -/
def Mk (M : Nat → List ByteArray) (k i : Nat) : List ByteArray := if i < k then (M i).take 1 else M i
theorem Mk_zero (M : Nat → List ByteArray) : Mk M 0 = M := by funext i; unfold Mk; rw [if_neg (by omega)]
theorem Mk_succ (M : Nat → List ByteArray) (k : Nat) : Mk M (k + 1) = setM (Mk M k) k ((M k).take 1) := by
  funext i
  unfold Mk setM
  by_cases h : i = k
  · subst h
    rw [if_pos (by omega), if_pos rfl]
  · rw [if_neg h]
    dsimp only
    by_cases h2 : i < k
    · rw [if_pos (by omega), if_pos h2]
    · rw [if_neg (by omega), if_neg h2]
theorem Mc_head (h : Live N s M) (l : List WrD) (i : Nat) (hi : i < N) : ∃ L, Mc l M i = Go.Proofs.Ytblhmfkohbdmeaa.mk (put l s.readAt i) :: L := by
  unfold Mc put
  cases fOf l i with
  | none => exact h.hd i hi
  | some t => exact ⟨[], rfl⟩
/-- Behind a Commit that answered OK it is live. -/
theorem live_of (h : Live N s M) (l : List WrD) (hC : Clean N (put l s.readAt) s') : Live N s' (Mk (Mc l M) N) := by
  have e : ∀ i, i < N → Mk (Mc l M) N i = [Go.Proofs.Ytblhmfkohbdmeaa.mk (s'.readAt i)] := fun i hi => by
    obtain ⟨L, hL⟩ := Mc_head h l i hi
    unfold Mk
    rw [if_pos hi, hL, (hC.rest i hi).2]
    rfl
  refine ⟨hC.n, hC.hs, hC.hr, fun i hi => ⟨[], e i hi⟩, fun i hi => ?_⟩
  rw [e i hi, (hC.rest i hi).1, (hC.rest i hi).2]
  simp
theorem Mk_len (M : Nat → List ByteArray) (k i B : Nat) (h : (M i).length ≤ B) : (Mk M k i).length ≤ B := by
  unfold Mk
  split
  · rw [List.length_take]; omega
  · exact h
theorem Mc_len (l : List WrD) (M : Nat → List ByteArray) (i B : Nat) (h : (M i).length ≤ B) (hB : 1 ≤ B) : (Mc l M i).length ≤ B := by
  unfold Mc
  split
  · simpa using hB
  · exact h
end

/-- The writes' cells. -/
def wcs (l : List WrD) : List Value := (l.map fun o => [Value.int .i64 o.k, Value.string o.x]).flatten
theorem wcs_nil : wcs [] = [] := rfl
theorem wcs_cons (o : WrD) (l : List WrD) : wcs (o :: l) = .int .i64 o.k :: .string o.x :: wcs l := rfl
theorem wcs_len : ∀ l : List WrD, (wcs l).length = l.length * 2
  | [] => rfl
  | o :: l => by rw [wcs_cons, List.length_cons, List.length_cons, wcs_len l, List.length_cons]; omega
theorem wcs_at : ∀ (l : List WrD) (i : Nat) (o : WrD), l[i]? = some o → (wcs l)[i * 2]? = some (.int .i64 o.k) ∧ (wcs l)[i * 2 + 1]? = some (.string o.x)
  | [], i, o, h => by simp at h
  | a :: l, 0, o, h => by simp at h; subst h; exact ⟨rfl, rfl⟩
  | a :: l, i + 1, o, h => by
    have := wcs_at l i o (by simpa using h)
    rw [wcs_cons, show (i + 1) * 2 = i * 2 + 1 + 1 by omega]
    simpa using this
theorem wcs_inv (l : List WrD) (j : Nat) (u : Value) (h : (wcs l)[j]? = some u) : ∃ i o, l[i]? = some o ∧ ((j = i * 2 ∧ u = .int .i64 o.k) ∨ (j = i * 2 + 1 ∧ u = .string o.x)) := by
  have hj : j < l.length * 2 := by
    have := (List.getElem?_eq_some_iff.1 h).1
    rwa [wcs_len] at this
  have hi : j / 2 < l.length := by omega
  obtain ⟨c0, c1⟩ := wcs_at l (j / 2) l[j / 2] (by simp [hi])
  rcases Nat.mod_two_eq_zero_or_one j with e | e
  · rw [show j / 2 * 2 = j by omega, h] at c0
    exact ⟨j / 2, l[j / 2], by simp [hi], .inl ⟨by omega, Option.some.inj c0⟩⟩
  · rw [show j / 2 * 2 + 1 = j by omega, h] at c1
    exact ⟨j / 2, l[j / 2], by simp [hi], .inr ⟨by omega, Option.some.inj c1⟩⟩
theorem wcs_one (l : List WrD) : ∀ u ∈ wcs l, u.oneCell' = true := by
  intro u hu
  obtain ⟨j, hj, rfl⟩ := List.getElem_of_mem hu
  obtain ⟨i, o, _, h⟩ := wcs_inv l j (wcs l)[j] (by simp [hj])
  rcases h with ⟨_, e⟩ | ⟨_, e⟩ <;> rw [e] <;> rfl
theorem wcs_src {W : World} {b off cp : Nat} {l : List WrD} (h : RdWr W (.slice (some ⟨b, off, none⟩) l.length cp) l) : ∀ (j : Nat) (u : Value), (wcs l)[j]? = some u → W.cell? ((⟨b, off, none⟩ : Addr).add j) = some u := by
  intro j u hu
  obtain ⟨_, _, e, _, h3⟩ := h
  cases e
  obtain ⟨i, o, hi, h⟩ := wcs_inv l j u hu
  obtain ⟨b', off', e', _, c0, c1⟩ := h3 i o hi
  cases e'
  rw [Addr.add_mid]
  rcases h with ⟨rfl, rfl⟩ | ⟨rfl, rfl⟩
  · exact c0
  · rw [← Nat.add_assoc]; exact c1
theorem rdwt_own {W : World} {B : Nat} {v : Value} {l : List WrD} (h : W.ownsRow B 57 2 v l.length (wcs l)) : RdWT W v l := by
  rcases h.2 with ⟨rfl, h0⟩ | ⟨g, cap, cur, rfl, hb, hg, hn, _, hc, ht⟩
  · have : l = [] := List.eq_nil_of_length_eq_zero h0
    subst this
    exact RdWT.nil W
  · refine ⟨_, cap, rfl, ⟨hn, fun h => by cases h⟩, fun i o ho => ⟨g, cur, rfl, hg, ?_⟩⟩
    have hi := (List.getElem?_eq_some_iff.1 ho).1
    obtain ⟨c0, c1⟩ := wcs_at l i o ho
    rw [← ht, List.getElem?_take_of_lt (by omega)] at c0 c1
    exact ⟨by simpa using c0, by simpa using c1⟩
theorem Try.infoWr : (Try.prog.info? 57).map (fun i => (i.zero, i.size, i.bytes)) = some (some (.agg #[.int .i64 0, .string ⟨#[]⟩]), 2, 24) := by kernel_rfl
end Go.Proofs.Ytblhmfkohbdmeaa
