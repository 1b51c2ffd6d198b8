/-
  What a journal's writes leave on a device, cut off anywhere, whatever survives. Plain facts; no walk.
-/
import Derived.Test.YtblhmfkohbdmeaaWalN
namespace Go.Proofs.Ytblhmfkohbdmeaa
open Go.RowKit Go.Maps

/-! ### Steps of a device -/
section
variable {s : DevS}
theorem write_frozen (h : s.up = false) (k : Int) (x : ByteArray) : s.write k x = (3, s) := by unfold DevS.write; rw [if_pos h]
theorem sync_frozen (h : s.up = false) : s.sync = (3, s) := by unfold DevS.sync; rw [if_pos h]
theorem sync_go (h : s.up = true) : s.sync = (0, { s.synced with fuse := burnt s.fuse }) := by unfold DevS.sync; rw [if_neg (by simp [h])]
theorem write_go (h : s.up = true) (i : Nat) (hi : i < s.n) (t : Sec) (ht : t.length = 64) : s.write (i : Int) (Go.Proofs.Ytblhmfkohbdmeaa.mk t) = (0, { s with waits := putF s.waits i t, fuse := burnt s.fuse }) := by
  unfold DevS.write
  rw [if_neg (by simp [h]), if_neg]
  · simp [mk_list]
  · rw [not_or]
    refine ⟨?_, ?_⟩
    · have : s.inB (i : Int) = true := by unfold DevS.inB; simp; omega
      simp [this]
    · simp [Go.Proofs.Ytblhmfkohbdmeaa.mk_size ht]

theorem readAt_write (i : Nat) (t : Sec) (g : Int) (j : Nat) : DevS.readAt { s with waits := putF s.waits i t, fuse := g } j = if j = i then t else s.readAt j := by
  unfold DevS.readAt DevS.safeAt putF
  by_cases h : j = i <;> simp [h]
theorem safeAt_write (i : Nat) (t : Sec) (g : Int) (j : Nat) : DevS.safeAt { s with waits := putF s.waits i t, fuse := g } j = s.safeAt j := rfl
theorem safeAt_sync (g : Int) (j : Nat) : DevS.safeAt { s.synced with fuse := g } j = s.readAt j := by
  unfold DevS.readAt DevS.safeAt DevS.synced orF
  cases h : s.waits j <;> simp [h]
theorem readAt_sync (g : Int) (j : Nat) : DevS.readAt { s.synced with fuse := g } j = s.readAt j := by
  have h := safeAt_sync (s := s) g j
  unfold DevS.readAt
  rw [h]
  unfold DevS.synced
  simp [DevS.readAt]

theorem cr_view (m : List UInt8) (i : Nat) : ∀ k, k ≤ s.keys.length → (crF s m k i).getD zeroS = s.safeAt i ∨ (crF s m k i).getD zeroS = s.readAt i
  | 0, _ => .inl rfl
  | k + 1, hk => by
    unfold crF
    split
    · unfold putF
      by_cases h : i = s.keys.getD k 0
      · rw [if_pos h]
        right
        have hm : i ∈ keysF s.n s.waits := by
          rw [h, getD_lt _ _ hk]
          exact List.getElem_mem hk
        obtain ⟨t, ht⟩ := Option.isSome_iff_exists.1 (mem_keysF.1 hm).2
        rw [← h, ht]
        simp [DevS.readAt, ht]
      · rw [if_neg h]
        exact cr_view m i k (by omega)
    · exact cr_view m i k (by omega)
theorem crash_view (m : List UInt8) (i : Nat) : (s.crashed m).readAt i = s.safeAt i ∨ (s.crashed m).readAt i = s.readAt i := cr_view m i _ (Nat.le_refl _)
theorem crash_keys (m : List UInt8) : (s.crashed m).keys = [] := keysF_none _
theorem crash_up (m : List UInt8) : (s.crashed m).up = true := rfl
theorem crash_n (m : List UInt8) : (s.crashed m).n = s.n := rfl
theorem burnt_inf : burnt (-1) = -1 := rfl
theorem up_of {g : Int} (h : s.fuse = g) : s.up = (g != 0) := by unfold DevS.up; rw [h]
end

/-! ### Headings -/
structure LOK (N : Nat) (l : List Nat) : Prop where
  len : l.length ≤ 24
  lt : ∀ x ∈ l, x < N
  asc : l.Pairwise (· < ·)

theorem LOK.nil (N : Nat) : LOK N [] := ⟨by simp, by simp, by simp⟩
theorem hd_nil : hdL [] 0 = zeroS := by decide
theorem hd_nil' : hdL [] ([] : List Nat).length = zeroS := hd_nil
theorem mk_eq {a b : List UInt8} (h : Go.Proofs.Ytblhmfkohbdmeaa.mk a = Go.Proofs.Ytblhmfkohbdmeaa.mk b) : a = b := by
  have := congrArg (fun x : ByteArray => x.data.toList) h
  simpa [mk_list] using this

/-! ### What a device may be -/
/-- At rest, with content x. -/
structure Rest (N : Nat) (s : DevS) (x : Nat → Sec) : Prop where
  n : s.n = N + 25
  keys : s.keys = []
  hd : ∃ l, LOK N l ∧ s.readAt N = hdL l l.length ∧ ∀ i, i < N → x i = (slotF s N l l.length i).getD (s.readAt i)

/-- The slots hold f for l. -/
def SlotOK (N : Nat) (l : List Nat) (f : Nat → Sec) (s : DevS) : Prop := ∀ j (h : j < l.length), s.safeAt (N + 1 + j) = f l[j] ∧ s.readAt (N + 1 + j) = f l[j]

/-- The heading names l; the others are x. -/
structure MM (N : Nat) (l : List Nat) (f x : Nat → Sec) (s : DevS) : Prop where
  n : s.n = N + 25
  hs : s.safeAt N = hdL l l.length
  hr : s.readAt N = hdL l l.length
  slots : SlotOK N l f s
  rest : ∀ i, i < N → i ∉ l → s.safeAt i = x i ∧ s.readAt i = x i

/-- The heading names l or nothing; the home sectors are y. -/
structure EE (N : Nat) (l : List Nat) (f y : Nat → Sec) (s : DevS) : Prop where
  n : s.n = N + 25
  hs : s.safeAt N = hdL l l.length ∨ s.safeAt N = zeroS
  hr : s.readAt N = hdL l l.length ∨ s.readAt N = zeroS
  slots : SlotOK N l f s
  rest : ∀ i, i < N → s.safeAt i = y i ∧ s.readAt i = y i

/-- No heading; the home sectors are of two sorts. -/
structure KK (N : Nat) (a b : Nat → Sec) (s : DevS) : Prop where
  n : s.n = N + 25
  hs : s.safeAt N = zeroS
  hr : s.readAt N = zeroS
  rest : ∀ i, i < N → (s.safeAt i = a i ∨ s.safeAt i = b i) ∧ (s.readAt i = a i ∨ s.readAt i = b i)

/-- No heading; the home sectors are x, and safe. -/
structure Clean (N : Nat) (x : Nat → Sec) (s : DevS) : Prop where
  n : s.n = N + 25
  hs : s.safeAt N = zeroS
  hr : s.readAt N = zeroS
  rest : ∀ i, i < N → s.safeAt i = x i ∧ s.readAt i = x i

/-- What is there when f is brought home over y. -/
def over (l : List Nat) (f y : Nat → Sec) (i : Nat) : Sec := if i ∈ l then f i else y i

theorem slot_over {N : Nat} {l : List Nat} {f : Nat → Sec} {s : DevS} (hl : LOK N l) (h : ∀ j (h : j < l.length), s.readAt (N + 1 + j) = f l[j]) (i : Nat) : (slotF s N l l.length i).getD (s.readAt i) = over l f s.readAt i := by
  unfold over
  by_cases hi : i ∈ l
  · rw [if_pos hi]
    obtain ⟨j, hj, rfl⟩ := List.getElem_of_mem hi
    rw [slotF_at hl.asc hj _ hj (Nat.le_refl _)]
    exact h j hj
  · rw [if_neg hi, slotF_none hi _ (Nat.le_refl _)]
    rfl

theorem two {α : Type _} {a b c : α} (h : a = b ∨ a = c) (hb : b = c) : a = c := by
  rcases h with h | h
  · rw [h, hb]
  · exact h

section
variable {N : Nat} {l : List Nat} {f x y a b : Nat → Sec} {s : DevS}

theorem MM.crash (h : MM N l f x s) (hl : LOK N l) (hx : ∀ i ∈ l, x i = f i) (m : List UInt8) : Rest N (s.crashed m) x := by
  have hsl : ∀ j (h : j < l.length), (s.crashed m).readAt (N + 1 + j) = f l[j] := fun j hj => by
    obtain ⟨h1, h2⟩ := h.slots j hj
    exact two ((crash_view m (N + 1 + j)).imp (fun e => e.trans h1) (fun e => e.trans h2)) rfl
  refine ⟨h.n, crash_keys m, l, hl, ?_, fun i hi => ?_⟩
  · exact two ((crash_view m N).imp (fun e => e.trans h.hs) (fun e => e.trans h.hr)) rfl
  · rw [slot_over hl hsl]
    unfold over
    by_cases hm : i ∈ l
    · rw [if_pos hm]
      exact hx i hm
    · rw [if_neg hm]
      obtain ⟨h1, h2⟩ := h.rest i hi hm
      exact (two ((crash_view m i).imp (fun e => e.trans h1) (fun e => e.trans h2)) rfl).symm

theorem EE.crash (h : EE N l f y s) (hl : LOK N l) (m : List UInt8) : Rest N (s.crashed m) y ∨ Rest N (s.crashed m) (over l f y) := by
  have hsl : ∀ j (h : j < l.length), (s.crashed m).readAt (N + 1 + j) = f l[j] := fun j hj => by
    obtain ⟨h1, h2⟩ := h.slots j hj
    exact two ((crash_view m (N + 1 + j)).imp (fun e => e.trans h1) (fun e => e.trans h2)) rfl
  have hhome : ∀ i, i < N → (s.crashed m).readAt i = y i := fun i hi => by
    obtain ⟨h1, h2⟩ := h.rest i hi
    exact two ((crash_view m i).imp (fun e => e.trans h1) (fun e => e.trans h2)) rfl
  have hh : (s.crashed m).readAt N = hdL l l.length ∨ (s.crashed m).readAt N = zeroS := by
    rcases crash_view (s := s) m N with e | e
    · rw [e]; exact h.hs
    · rw [e]; exact h.hr
  rcases hh with hh | hh
  · right
    refine ⟨h.n, crash_keys m, l, hl, hh, fun i hi => ?_⟩
    rw [slot_over hl hsl]
    unfold over
    rw [hhome i hi]
  · left
    refine ⟨h.n, crash_keys m, [], LOK.nil N, by rw [hh]; exact hd_nil.symm, fun i hi => ?_⟩
    exact (hhome i hi).symm

theorem KK.crash (h : KK N a b s) (m : List UInt8) : ∃ y, Rest N (s.crashed m) y ∧ ∀ i, i < N → y i = a i ∨ y i = b i := by
  refine ⟨(s.crashed m).readAt, ⟨h.n, crash_keys m, [], LOK.nil N, ?_, fun i _ => rfl⟩, fun i hi => ?_⟩
  · rw [hd_nil']
    exact two ((crash_view m N).imp (fun e => e.trans h.hs) (fun e => e.trans h.hr)) rfl
  · obtain ⟨h1, h2⟩ := h.rest i hi
    rcases crash_view (s := s) m i with e | e
    · rw [e]; exact h1
    · rw [e]; exact h2

theorem Clean.kk (h : Clean N x s) : KK N x x s := ⟨h.n, h.hs, h.hr, fun i hi => ⟨.inl (h.rest i hi).1, .inl (h.rest i hi).2⟩⟩
theorem Rest.congr (h : Rest N s x) (hxy : ∀ i, i < N → x i = y i) : Rest N s y := by
  obtain ⟨l, h1, h2, h3⟩ := h.hd
  exact ⟨h.n, h.keys, l, h1, h2, fun i hi => by rw [← hxy i hi]; exact h3 i hi⟩
theorem Clean.crash (h : Clean N x s) (m : List UInt8) : Rest N (s.crashed m) x := by
  obtain ⟨y, h1, h2⟩ := h.kk.crash m
  exact h1.congr fun i hi => by rcases h2 i hi with e | e <;> exact e
end
end Go.Proofs.Ytblhmfkohbdmeaa
