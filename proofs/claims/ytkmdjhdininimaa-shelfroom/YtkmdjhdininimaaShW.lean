/-
  What a Put leaves on a device, cut off anywhere, whatever survives. Plain facts; no walk.
-/
import Derived.Test.YtkmdjhdininimaaShT
namespace Go.Proofs.Ytkmdjhdininimaa
open Go.RowKit Go.Maps

section
variable {s : DevS}
theorem getD_ltS (l : List Nat) (k : Nat) (h : k < l.length) : l.getD k 0 = l[k] := by simp [List.getD, h]
theorem write_frozen (h : s.up = false) (k : Int) (x : ByteArray) : s.write k x = (3, s) := by unfold DevS.write; rw [if_pos h]
theorem sync_frozen (h : s.up = false) : s.sync = (3, s) := by unfold DevS.sync; rw [if_pos h]
theorem sync_go (h : s.up = true) : s.sync = (0, { s.synced with fuse := burnt s.fuse }) := by unfold DevS.sync; rw [if_neg (by simp [h])]
theorem write_go (h : s.up = true) (i : Nat) (hi : i < s.n) (t : Sec) (ht : t.length = 64) : s.write (i : Int) (Go.Proofs.Ytkmdjhdininimaa.mk t) = (0, { s with waits := putF s.waits i t, fuse := burnt s.fuse }) := by
  unfold DevS.write
  rw [if_neg (by simp [h]), if_neg]
  · simp [mk_list]
  · rw [not_or]
    refine ⟨?_, ?_⟩
    · have : s.inB (i : Int) = true := by unfold DevS.inB; simp; omega
      simp [this]
    · simp [Go.Proofs.Ytkmdjhdininimaa.mk_size ht]
theorem readAt_write (i : Nat) (t : Sec) (g : Int) (j : Nat) : DevS.readAt { s with waits := putF s.waits i t, fuse := g } j = if j = i then t else s.readAt j := by
  unfold DevS.readAt DevS.safeAt putF
  by_cases h : j = i <;> simp [h]
theorem safeAt_write (i : Nat) (t : Sec) (g : Int) (j : Nat) : DevS.safeAt { s with waits := putF s.waits i t, fuse := g } j = s.safeAt j := rfl
theorem safeAt_sync (g : Int) (j : Nat) : DevS.safeAt { s.synced with fuse := g } j = s.readAt j := by
  unfold DevS.readAt DevS.safeAt DevS.synced orF
  cases h : s.waits j <;> simp [h]
theorem readAt_sync (g : Int) (j : Nat) : DevS.readAt { s.synced with fuse := g } j = s.readAt j := by
  have h := safeAt_sync (s := s) g j
  unfold DevS.readAt
  rw [h]
  unfold DevS.synced
  simp [DevS.readAt]
theorem cr_view (m : List UInt8) (i : Nat) : ∀ k, k ≤ s.keys.length → (crF s m k i).getD zeroS = s.safeAt i ∨ (crF s m k i).getD zeroS = s.readAt i
  | 0, _ => .inl rfl
  | k + 1, hk => by
    unfold crF
    split
    · unfold putF
      by_cases h : i = s.keys.getD k 0
      · rw [if_pos h]
        right
        have hm : i ∈ keysF s.n s.waits := by
          rw [h, getD_ltS _ _ hk]
          exact List.getElem_mem hk
        obtain ⟨t, ht⟩ := Option.isSome_iff_exists.1 (mem_keysF.1 hm).2
        rw [← h, ht]
        simp [DevS.readAt, ht]
      · rw [if_neg h]
        exact cr_view m i k (by omega)
    · exact cr_view m i k (by omega)
theorem crash_view (m : List UInt8) (i : Nat) : (s.crashed m).readAt i = s.safeAt i ∨ (s.crashed m).readAt i = s.readAt i := cr_view m i _ (Nat.le_refl _)
theorem keysF_none (n : Nat) : keysF n (fun _ => none) = [] := by simp [keysF]
theorem crash_keys (m : List UInt8) : (s.crashed m).keys = [] := keysF_none _
theorem crash_up (m : List UInt8) : (s.crashed m).up = true := rfl
theorem crash_n (m : List UInt8) : (s.crashed m).n = s.n := rfl
theorem burnt_inf : burnt (-1) = -1 := rfl
theorem noKeys (h : s.keys = []) {i : Nat} (hi : i < s.n) : s.safeAt i = s.readAt i := by
  have hw : s.waits i = none := by
    cases hq : s.waits i with
    | none => rfl
    | some t =>
      have : i ∈ s.keys := mem_keysF.2 ⟨hi, by rw [hq]; rfl⟩
      rw [h] at this
      cases this
  simp [DevS.readAt, hw]
theorem settle_calm (h : s.keys = []) : s.settle = s := by unfold DevS.settle; rw [h]; rfl
end

/-! ### What a device tells -/
def DevS.text (s : DevS) : List UInt8 := s.txt (s.pat (hPl (s.readAt 0))) (hLn (s.readAt 0))
structure Says (s : DevS) (t : List UInt8) : Prop where
  hd : HdOk s (s.readAt 0)
  tx : s.text = t
theorem room_le (s : DevS) : s.room ≤ 64 * s.each ∧ s.room ≤ 40000 := by unfold DevS.room; omega
theorem each_n {s s' : DevS} (h : s'.n = s.n) : s'.each = s.each := by unfold DevS.each; rw [h]
theorem room_n {s s' : DevS} (h : s'.n = s.n) : s'.room = s.room := by unfold DevS.room; rw [each_n h]
theorem pat_n {s s' : DevS} (h : s'.n = s.n) (i : Nat) : s'.pat i = s.pat i := by unfold DevS.pat; rw [each_n h]
theorem bys_congr {s s' : DevS} (x : Nat) : ∀ k, (∀ j, j < k → s'.readAt (x + j) = s.readAt (x + j)) → s'.bys x k = s.bys x k
  | 0, _ => rfl
  | k + 1, h => by rw [bys_succ, bys_succ, bys_congr x k (fun j hj => h j (by omega)), h k (by omega)]
theorem Says.of {s s' : DevS} {t : List UInt8} (h : Says s t) (hn : s'.n = s.n) (h0 : s'.readAt 0 = s.readAt 0) (hx : ∀ j, j < s.each → s'.readAt (s.pat (hPl (s.readAt 0)) + j) = s.readAt (s.pat (hPl (s.readAt 0)) + j)) : Says s' t := by
  have h1 := h.hd.ln
  have h2 := room_le s
  refine ⟨⟨by rw [h0]; exact h.hd.pl, by rw [h0, room_n hn]; exact h.hd.ln, by rw [h0]; exact h.hd.me⟩, ?_⟩
  rw [← h.tx]
  unfold DevS.text DevS.txt
  rw [h0, pat_n hn, bys_congr]
  intro j hj
  exact hx j (by omega)

theorem hPl_hdS (f n : Nat) (hf : f < 256) : hPl (hdS f n) = f := by
  simp only [hPl, hdS, List.getD_cons_zero]
  simp
  omega
theorem hLn_hdS (f n : Nat) (hn : n < 65536) : hLn (hdS f n) = n := by
  simp only [hLn, hdS, List.getD_cons_succ, List.getD_cons_zero]
  simp
  omega
theorem hdS_len (f n : Nat) : (hdS f n).length = 64 := rfl

theorem secs_len : ∀ (k : Nat) (l : List UInt8), l.length ≤ k → (secs l).length = (l.length + 63) / 64 := by
  intro k
  induction k with
  | zero =>
    intro l h
    have : l = [] := List.eq_nil_of_length_eq_zero (by omega)
    subst this
    rfl
  | succ k ih =>
    intro l h
    by_cases hn : l = []
    · subst hn; rfl
    · have hp := List.length_pos_iff.2 hn
      rw [secs_cons hn, List.length_cons, ih (l.drop 64) (by simp; omega)]
      simp
      omega
theorem secs_all (l : List UInt8) : ∀ t ∈ secs l, t.length = 64 := by
  have key : ∀ (k : Nat) (l : List UInt8), l.length ≤ k → ∀ t ∈ secs l, t.length = 64 := by
    intro k
    induction k with
    | zero =>
      intro l h t ht
      have : l = [] := List.eq_nil_of_length_eq_zero (by omega)
      subst this
      simp [secs_nil] at ht
    | succ k ih =>
      intro l h t ht
      by_cases hn : l = []
      · subst hn; simp [secs_nil] at ht
      · have hp := List.length_pos_iff.2 hn
        rw [secs_cons hn] at ht
        rcases List.mem_cons.1 ht with rfl | ht
        · exact padS_len l
        · exact ih (l.drop 64) (by simp; omega) t ht
  exact key _ l (Nat.le_refl _)
theorem secs_flat : ∀ (k : Nat) (l : List UInt8), l.length ≤ k → (secs l).flatten.take l.length = l := by
  intro k
  induction k with
  | zero =>
    intro l h
    have : l = [] := List.eq_nil_of_length_eq_zero (by omega)
    subst this
    rfl
  | succ k ih =>
    intro l h
    by_cases hn : l = []
    · subst hn; rfl
    · have hp := List.length_pos_iff.2 hn
      rw [secs_cons hn, List.flatten_cons, List.take_append, padS_len]
      by_cases h64 : l.length ≤ 64
      · have e1 : l.length - 64 = 0 := by omega
        rw [e1, List.take_zero, List.append_nil]
        unfold padS
        rw [List.take_append, List.take_of_length_le (by simp; omega), List.take_of_length_le h64]
        simp
      · have e1 : l.length - 64 = (l.drop 64).length := by simp
        rw [e1, ih (l.drop 64) (by simp; omega), List.take_of_length_le (by rw [padS_len]; omega)]
        unfold padS
        have e2 : 64 - l.length = 0 := by omega
        rw [e2, List.replicate_zero, List.append_nil, List.take_append_drop]
theorem bys_secs {s : DevS} (x : Nat) : ∀ (S : List Sec), (∀ j (h : j < S.length), s.readAt (x + j) = S[j]) → s.bys x S.length = S.flatten := by
  intro S h
  unfold DevS.bys
  rw [List.flatMap_def]
  congr 1
  apply List.ext_getElem
  · simp
  · intro i h1 h2
    simp only [List.getElem_map, List.getElem_range]
    exact h i h2
theorem says_new {s : DevS} {l : List UInt8} {f : Nat} (hf : f < 2) (hl : l.length ≤ s.room) (h0 : s.readAt 0 = hdS f l.length) (hx : ∀ j (h : j < (secs l).length), s.readAt (s.pat f + j) = (secs l)[j]) : Says s l := by
  have h2 := room_le s
  have e1 : hPl (s.readAt 0) = f := by rw [h0]; exact hPl_hdS _ _ (by omega)
  have e2 : hLn (s.readAt 0) = l.length := by rw [h0]; exact hLn_hdS _ _ (by omega)
  refine ⟨⟨by rw [e1]; exact hf, by rw [e2]; exact hl, by rw [e1, e2, h0]⟩, ?_⟩
  unfold DevS.text DevS.txt
  rw [e1, e2, ← secs_len _ l (Nat.le_refl _), bys_secs _ _ hx]
  exact secs_flat _ l (Nat.le_refl _)

/-! ### Sectors that are written one behind the other -/
structure Wrote (s : DevS) (a : Nat) (S : List Sec) (r : Int × DevS) : Prop where
  n : r.2.n = s.n
  age : r.2.age = s.age
  safe : ∀ i, r.2.safeAt i = s.safeAt i
  out : ∀ i, i < a ∨ a + S.length ≤ i → r.2.readAt i = s.readAt i
  end_ : (r.1 = 0 ∧ (s.fuse = -1 → r.2.fuse = -1) ∧ ∀ j (h : j < S.length), r.2.readAt (a + j) = S[j]) ∨ (r.1 = 3 ∧ r.2.up = false ∧ s.fuse ≠ -1)
theorem wrS_any : ∀ (S : List Sec) (s : DevS) (a : Nat), a + S.length ≤ s.n → (∀ t ∈ S, t.length = 64) → Wrote s a S (wrS s a S)
  | [], s, a, _, _ => ⟨rfl, rfl, fun _ => rfl, fun _ _ => rfl, .inl ⟨rfl, fun h => h, fun j h => by simp at h⟩⟩
  | t :: r, s, a, hn, h64 => by
    cases hu : s.up with
    | false =>
      have e : wrS s a (t :: r) = (3, s) := by rw [wrS, write_frozen hu, if_neg (show ¬ (3 : Int) = 0 by decide)]
      rw [e]
      exact ⟨rfl, rfl, fun _ => rfl, fun _ _ => rfl, .inr ⟨rfl, hu, fun hf => by unfold DevS.up at hu; rw [hf] at hu; cases hu⟩⟩
    | true =>
      rw [List.length_cons] at hn
      have e := write_go hu a (by omega) t (h64 t (by simp))
      have e2 : wrS s a (t :: r) = wrS { s with waits := putF s.waits a t, fuse := burnt s.fuse } (a + 1) r := by rw [wrS, e, if_pos rfl]
      have ih := wrS_any r { s with waits := putF s.waits a t, fuse := burnt s.fuse } (a + 1) (by show _ ≤ s.n; omega) (fun x hx => h64 x (by simp [hx]))
      rw [e2]
      generalize wrS { s with waits := putF s.waits a t, fuse := burnt s.fuse } (a + 1) r = R at *
      refine ⟨ih.n, ih.age, fun i => ih.safe i, fun i hi => ?_, ?_⟩
      · rw [List.length_cons] at hi
        rw [ih.out i (by omega), readAt_write, if_neg (by omega)]
      · rcases ih.end_ with ⟨h1, h2, h3⟩ | ⟨h1, h2, h3⟩
        · refine .inl ⟨h1, fun hf => h2 (by show burnt s.fuse = -1; rw [hf]; rfl), fun j hj => ?_⟩
          cases j with
          | zero => rw [Nat.add_zero, ih.out a (by omega), readAt_write, if_pos rfl]; rfl
          | succ j =>
            have := h3 j (by simpa using hj)
            rw [show a + (j + 1) = a + 1 + j by omega]
            exact this
        · exact .inr ⟨h1, h2, fun hf => h3 (by show burnt s.fuse = -1; rw [hf]; rfl)⟩

/-! ### A Put -/
/-- What a Put of l leaves on a device at rest that tells t. -/
structure PutR (s : DevS) (t l : List UInt8) (r : Int × DevS) : Prop where
  n : r.2.n = s.n
  age : r.2.age = s.age
  end_ : (r.1 = 0 ∧ (s.fuse = -1 → r.2.fuse = -1) ∧ r.2.keys = [] ∧ Says r.2 l) ∨ (r.1 = 3 ∧ r.2.up = false ∧ s.fuse ≠ -1 ∧ ∀ m, Says (r.2.crashed m) t ∨ Says (r.2.crashed m) l)
theorem Says.crash {s : DevS} {t : List UInt8} (h : Says s t) (hk : s.keys = []) (h8 : 8 ≤ s.n) (m : List UInt8) : Says (s.crashed m) t := by
  have hv : ∀ i, i < s.n → (s.crashed m).readAt i = s.readAt i := fun i hi => by
    rcases crash_view (s := s) m i with e | e
    · rw [e, noKeys hk hi]
    · exact e
  refine h.of rfl (hv 0 (by omega)) fun j hj => hv _ ?_
  have hp := h.hd.pl
  unfold DevS.pat
  unfold DevS.each at *
  split <;> omega
theorem sync_keys {s : DevS} (h : s.up = true) : s.sync.2.keys = [] := by rw [sync_go h]; exact keysF_none _
theorem fuse_down {s : DevS} (h : s.up = false) : s.fuse ≠ -1 := fun hf => by unfold DevS.up at h; rw [hf] at h; cases h
set_option maxHeartbeats 1000000 in
theorem repS_any {s : DevS} {t l : List UInt8} (hs : Says s t) (hk : s.keys = []) (h8 : 8 ≤ s.n) (hl : l.length ≤ s.room) : PutR s t l (repS s l) := by
  have h2 := room_le s
  have hpl := hs.hd.pl
  unfold repS
  rw [settle_calm hk]
  obtain ⟨pl, hpe⟩ : ∃ pl, pl = hPl (s.readAt 0) := ⟨_, rfl⟩
  rw [← hpe] at hpl ⊢
  have hsl := secs_len _ l (Nat.le_refl _)
  have hec : 2 * s.each + 1 ≤ s.n := by unfold DevS.each; omega
  have hfp : s.pat (1 - pl) + (secs l).length ≤ s.n ∧ 1 ≤ s.pat (1 - pl) := by
    unfold DevS.pat
    split <;> omega
  have hap : ∀ j, j < s.each → s.pat pl + j < s.pat (1 - pl) ∨ s.pat (1 - pl) + (secs l).length ≤ s.pat pl + j := by
    intro j hj
    obtain rfl | rfl : pl = 0 ∨ pl = 1 := by omega
    · left
      show 1 + j < 1 + s.each
      omega
    · right
      show 1 + (secs l).length ≤ 1 + s.each + j
      omega
  have hup : ∀ j, j < s.each → s.pat pl + j < s.n := by
    intro j hj
    unfold DevS.pat
    split <;> omega
  -- where all but the free place is as it was, it tells t
  have old : ∀ s' : DevS, s'.n = s.n → (∀ i, i < s.n → i < s.pat (1 - pl) ∨ s.pat (1 - pl) + (secs l).length ≤ i → s'.safeAt i = s.readAt i ∧ s'.readAt i = s.readAt i) → ∀ m, Says (s'.crashed m) t := fun s' hn hv m => by
    have hw : ∀ i, i < s.n → i < s.pat (1 - pl) ∨ s.pat (1 - pl) + (secs l).length ≤ i → (s'.crashed m).readAt i = s.readAt i := fun i hi ho => by
      rcases crash_view (s := s') m i with e | e
      · rw [e]; exact (hv i hi ho).1
      · rw [e]; exact (hv i hi ho).2
    refine hs.of hn (hw 0 (by omega) (.inl (by omega))) fun j hj => ?_
    rw [← hpe]
    exact hw _ (hup j hj) (hap j hj)
  have w1 := wrS_any (secs l) s (s.pat (1 - pl)) hfp.1 (secs_all l)
  generalize wrS s (s.pat (1 - pl)) (secs l) = R1 at *
  obtain ⟨x1, s1⟩ := R1
  have hv1 : ∀ i, i < s.n → i < s.pat (1 - pl) ∨ s.pat (1 - pl) + (secs l).length ≤ i → s1.safeAt i = s.readAt i ∧ s1.readAt i = s.readAt i := fun i hi ho => ⟨by rw [w1.safe i]; exact noKeys hk hi, w1.out i ho⟩
  have hn1 : s1.n = s.n := w1.n
  have ha1 : s1.age = s.age := w1.age
  rcases w1.end_ with ⟨h0, hf1, hx1⟩ | ⟨h0, hu1, hf1⟩
  · simp only at h0 hf1 hx1
    subst h0
    rw [thn_ok rfl]
    simp only
    cases hu1 : s1.up with
    | false =>
      rw [sync_frozen hu1, thn_no (show (3 : Int) ≠ 0 by decide)]
      exact ⟨hn1, ha1, .inr ⟨rfl, hu1, fun hf => fuse_down hu1 (hf1 hf), fun m => .inl (old s1 hn1 hv1 m)⟩⟩
    | true =>
      rw [sync_go hu1, thn_ok rfl]
      simp only
      obtain ⟨s2, hs2⟩ : ∃ s2 : DevS, s2 = { s1.synced with fuse := burnt s1.fuse } := ⟨_, rfl⟩
      rw [← hs2]
      have hn2 : s2.n = s.n := by rw [hs2]; exact hn1
      have ha2 : s2.age = s.age := by rw [hs2]; exact ha1
      have hr2 : ∀ i, s2.readAt i = s1.readAt i := fun i => by rw [hs2]; exact readAt_sync _ _
      have hq2 : ∀ i, s2.safeAt i = s1.readAt i := fun i => by rw [hs2]; exact safeAt_sync _ _
      have hf2 : s.fuse = -1 → s2.fuse = -1 := fun hf => by rw [hs2]; show burnt s1.fuse = -1; rw [hf1 hf]; rfl
      have hk2 : s2.keys = [] := by rw [hs2]; exact keysF_none _
      clear hs2
      have hv2 : ∀ i, i < s.n → i < s.pat (1 - pl) ∨ s.pat (1 - pl) + (secs l).length ≤ i → s2.safeAt i = s.readAt i ∧ s2.readAt i = s.readAt i := fun i hi ho => ⟨by rw [hq2 i]; exact (hv1 i hi ho).2, by rw [hr2 i]; exact (hv1 i hi ho).2⟩
      cases hu2 : s2.up with
      | false =>
        rw [write_frozen hu2, thn_no (show (3 : Int) ≠ 0 by decide)]
        exact ⟨hn2, ha2, .inr ⟨rfl, hu2, fun hf => fuse_down hu2 (hf2 hf), fun m => .inl (old s2 hn2 hv2 m)⟩⟩
      | true =>
        have ew := write_go hu2 0 (by omega) (hdS (1 - pl) l.length) (hdS_len _ _)
        rw [show ((0 : Nat) : Int) = 0 from rfl] at ew
        rw [ew, thn_ok rfl]
        simp only
        obtain ⟨s3, hs3⟩ : ∃ s3 : DevS, s3 = { s2 with waits := putF s2.waits 0 (hdS (1 - pl) l.length), fuse := burnt s2.fuse } := ⟨_, rfl⟩
        rw [← hs3]
        have hn3 : s3.n = s.n := by rw [hs3]; exact hn2
        have ha3 : s3.age = s.age := by rw [hs3]; exact ha2
        have hr3 : ∀ i, s3.readAt i = if i = 0 then hdS (1 - pl) l.length else s2.readAt i := fun i => by rw [hs3]; exact readAt_write _ _ _ _
        have hq3 : ∀ i, s3.safeAt i = s2.readAt i := fun i => by rw [hs3]; show s2.safeAt i = _; rw [hq2, hr2]
        have hf3 : s.fuse = -1 → s3.fuse = -1 := fun hf => by rw [hs3]; show burnt s2.fuse = -1; rw [hf2 hf]; rfl
        clear hs3
        have new : ∀ s' : DevS, s'.n = s.n → s'.readAt 0 = hdS (1 - pl) l.length → (∀ i, i ≠ 0 → i < s.n → s'.readAt i = s2.readAt i) → Says s' l := fun s' hn h0 hi => by
          refine says_new (f := 1 - pl) (by omega) (by rw [room_n hn]; exact hl) h0 fun j hj => ?_
          rw [pat_n hn, hi _ (by omega) (by omega), hr2]
          exact hx1 j hj
        cases hu3 : s3.up with
        | false =>
          rw [sync_frozen hu3]
          refine ⟨hn3, ha3, .inr ⟨rfl, hu3, fun hf => fuse_down hu3 (hf3 hf), fun m => ?_⟩⟩
          have hoth : ∀ i, i ≠ 0 → (s3.crashed m).readAt i = s2.readAt i := fun i hi => by
            rcases crash_view (s := s3) m i with e | e
            · rw [e, hq3]
            · rw [e, hr3, if_neg hi]
          rcases crash_view (s := s3) m 0 with e | e
          · left
            rw [hq3] at e
            refine hs.of hn3 (by rw [e]; exact (hv2 0 (by omega) (.inl (by omega))).2) fun j hj => ?_
            rw [← hpe, hoth _ (by have : 1 ≤ s.pat pl := by unfold DevS.pat; split <;> omega
                                  omega)]
            exact (hv2 _ (hup j hj) (hap j hj)).2
          · right
            rw [hr3, if_pos rfl] at e
            exact new _ hn3 e fun i hi _ => hoth i hi
        | true =>
          rw [sync_go hu3]
          refine ⟨hn3, ha3, .inl ⟨rfl, fun hf => by show burnt s3.fuse = -1; rw [hf3 hf]; rfl, keysF_none _, new _ hn3 ?_ fun i hi _ => ?_⟩⟩
          · rw [readAt_sync, hr3, if_pos rfl]
          · rw [readAt_sync, hr3, if_neg hi]
  · simp only at h0 hu1 hf1
    subst h0
    rw [thn_no (show (3 : Int) ≠ 0 by decide)]
    exact ⟨hn1, ha1, .inr ⟨rfl, hu1, hf1, fun m => .inl (old s1 hn1 hv1 m)⟩⟩
/-- A new device tells the empty text. -/
theorem says_newS (n : Nat) : Says (newS n) [] := by
  have e : (newS n).readAt 0 = hdS 0 0 := by show zeroS = hdS 0 0; decide
  exact says_new (f := 0) (by decide) (by simp) e fun j h => by simp [secs_nil] at h
end Go.Proofs.Ytkmdjhdininimaa
