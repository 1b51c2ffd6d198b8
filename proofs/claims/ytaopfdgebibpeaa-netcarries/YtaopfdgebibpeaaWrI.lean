/-
  Forms of messages are read as they were written, and no form goes on or ends sooner.
-/
import Derived.Test.YtaopfdgebibpeaaWrH
namespace Go.Proofs.Ytaopfdgebibpeaa
open Go.ChangeShapes Go.WideShapes Go.ChangeAt Go.RowKit Go.PlainAid

theorem at_whole {s : ByteArray} {L : List UInt8} (h : At s 0 L) (hl : L.length = s.size) : mk L = s := by
  have := at_extract h
  rw [Nat.zero_add, hl] at this
  rw [← this]
  exact ByteArray.extract_zero_size
theorem at_self (L M : List UInt8) : At (mk (L ++ M)) 0 L := by
  have h := at_list [] L M
  simpa only [List.nil_append, List.length_nil] using h

/-- What was read of a delta is written so. -/
theorem dec_of {t : ByteArray} {d : List OpD} (h : decR t = (d, 0)) : mk (encB (stR d)) = t ∧ chk d = 0 := by
  unfold decR at h
  split at h
  · simp at h
  · rename_i hn
    rcases pk.tk_cases t 0 1125899906842624 with ⟨n, p, hr, -, -, hp, -⟩ | ⟨er, hr, her⟩
    · rw [hr] at hn h
      obtain ⟨b, m, e1, e2, -, h3, h4⟩ := pk.tk_of (by decide) hr
      obtain rfl : b = 0 := by omega
      obtain rfl : m = n := by omega
      simp only [Int.toNat_natCast] at h
      cases hg : decGo t m (p : Int) [] with
      | none => rw [hg] at h; simp [decF] at h
      | some r =>
        obtain ⟨l, q⟩ := r
        rw [hg] at h
        unfold decF at h
        simp only at h
        split at h
        · simp at h
        · rename_i hc
          have hc0 : chk (l.map St.op) = 0 := by omega
          have hq : q = (t.size : Int) := by omega
          obtain ⟨m', f1, f2, -, f4, f5⟩ := decGo_of _ p [] l q hp hg
          rw [List.nil_append] at f1
          subst f1
          have hd : d = l.map St.op := by simp at h; exact h.symm
          subst hd
          refine ⟨?_, hc0⟩
          have hs : stR (l.map St.op) = l := map_op_inj (stR_op hc0)
          rw [hs]
          have hp2 : p = 0 + (numB m).length := by omega
          apply at_whole
          · rw [encB, f2]
            exact at_append.2 ⟨h3, by rw [← hp2]; exact f4⟩
          · rw [encB, f2, List.length_append]; omega
    · rw [hr] at hn
      simp only at hn
      omega

theorem at_set {m : MsD} {f : Nat} {x : Int} (hf : f ≤ 5) : (m.set f x).at f = x := by
  match f, hf with
  | 0, _ => rfl
  | 1, _ => rfl
  | 2, _ => rfl
  | 3, _ => rfl
  | 4, _ => rfl
  | 5, _ => rfl
theorem at_set' {m : MsD} {f g : Nat} {x : Int} (hf : f ≤ 5) (hg : g ≠ f) : (m.set f x).at g = m.at g := by
  match f, hf, g, hg with
  | 0, _, 0, h => exact absurd rfl h
  | 1, _, 1, h => exact absurd rfl h
  | 2, _, 2, h => exact absurd rfl h
  | 3, _, 3, h => exact absurd rfl h
  | 4, _, 4, h => exact absurd rfl h
  | 5, _, 5, h => exact absurd rfl h
  | 0, _, g + 1, _ => match g with | 0 | 1 | 2 | 3 | 4 => rfl | g + 5 => rfl
  | 1, _, 0, _ => rfl
  | 1, _, g + 2, _ => match g with | 0 | 1 | 2 | 3 => rfl | g + 4 => rfl
  | 2, _, 0, _ | 2, _, 1, _ => rfl
  | 2, _, g + 3, _ => match g with | 0 | 1 | 2 => rfl | g + 3 => rfl
  | 3, _, 0, _ | 3, _, 1, _ | 3, _, 2, _ => rfl
  | 3, _, g + 4, _ => match g with | 0 | 1 => rfl | g + 2 => rfl
  | 4, _, 0, _ | 4, _, 1, _ | 4, _, 2, _ | 4, _, 3, _ => rfl
  | 4, _, g + 5, _ => match g with | 0 => rfl | g + 1 => rfl
  | 5, _, 0, _ | 5, _, 1, _ | 5, _, 2, _ | 5, _, 3, _ | 5, _, 4, _ => rfl
  | 5, _, g + 6, _ => rfl
theorem ns_cons (m : MsD) (f : Nat) (fs : List Nat) : m.ns (f :: fs) = (m.at f).toNat :: m.ns fs := rfl
theorem nmB_cons (n : Nat) (ns : List Nat) : nmB (n :: ns) = numB n ++ nmB ns := by simp [nmB]

/-- Numbers that stand there are read. -/
theorem tkF_at {s : ByteArray} (M : MsD) : ∀ (fs : List Nat) (m : MsD) (a : Nat), (∀ f ∈ fs, 0 ≤ M.at f ∧ M.at f ≤ big) → At s a (nmB (M.ns fs)) →
    tkF s fs m (a : Int) = (fs.foldl (fun m f => m.set f (M.at f)) m, ((a + (nmB (M.ns fs)).length : Nat) : Int), true)
  | [], m, a, _, _ => by simp [tkF, MsD.ns, nmB]
  | f :: fs, m, a, h, hA => by
    rw [ns_cons, nmB_cons] at hA ⊢
    obtain ⟨h1, h2⟩ := at_append.1 hA
    have hf := h f (by simp)
    have e := pk.tk_at (most := big) (by decide) (by rw [Int.toNat_of_nonneg hf.1]; exact hf.2) h1
    rw [tkF, e]
    simp only [if_pos]
    rw [tkF_at M fs _ _ (fun g hg => h g (by simp [hg])) h2, Int.toNat_of_nonneg hf.1, List.length_append, List.foldl_cons, Nat.add_assoc]

/-- What was read stands there. -/
theorem tkF_of {s : ByteArray} : ∀ (fs : List Nat) (m : MsD) (a : Nat), a ≤ s.size → fs.Nodup → (∀ f ∈ fs, f ≤ 5) → (tkF s fs m (a : Int)).2.2 = true →
    At s a (nmB ((tkF s fs m (a : Int)).1.ns fs)) ∧ (tkF s fs m (a : Int)).2.1 = ((a + (nmB ((tkF s fs m (a : Int)).1.ns fs)).length : Nat) : Int) ∧ (∀ g, g ∉ fs → (tkF s fs m (a : Int)).1.at g = m.at g)
  | [], m, a, ha, _, _, _ => ⟨at_nil s a ha, by simp [tkF, MsD.ns, nmB], fun _ _ => rfl⟩
  | f :: fs, m, a, ha, hn, h5, h => by
    rw [tkF] at h ⊢
    split at h
    · rename_i h0
      rw [if_pos h0]
      have hr : pk.tk s (a : Int) big = ((pk.tk s (a : Int) big).1, (pk.tk s (a : Int) big).2.1, 0) := by rw [← h0]
      obtain ⟨b, n, e1, e2, e3, e4, e5⟩ := pk.tk_of (by decide) hr
      obtain rfl : b = a := by omega
      rw [e5, e2] at h ⊢
      have hn2 := List.nodup_cons.1 hn
      obtain ⟨i1, i2, i3⟩ := tkF_of fs (m.set f (n : Int)) (b + (numB n).length) e4.1 hn2.2 (fun g hg => h5 g (by simp [hg])) h
      have hf : (tkF s fs (m.set f (n : Int)) ((b + (numB n).length : Nat) : Int)).1.at f = (n : Int) := by rw [i3 f hn2.1, at_set (h5 f (by simp))]
      rw [ns_cons, nmB_cons, hf, Int.toNat_natCast, List.length_append]
      refine ⟨at_append.2 ⟨e4, i1⟩, by rw [i2]; omega, fun g hg => ?_⟩
      rw [i3 g (fun h => hg (by simp [h])), at_set' (h5 f (by simp)) (fun e => hg (by simp [e]))]
    · simp at h

theorem may_fold {m : MsD} (h : mayM m = true) : (bkF m.k).foldl (fun x f => x.set f (m.at f)) (zM.set 0 m.k) = { m with d := [] } := by
  have h1 := may_parts h
  obtain ⟨k, b, c, s, r, y, d⟩ := m
  simp only at h1
  obtain ⟨-, -, -, -, -, -, -, -, -, -, -, hk, hy⟩ := h1
  rcases hk with rfl | ⟨rfl, rfl, -⟩ | rfl
  · obtain rfl : y = 0 := hy (by decide)
    rfl
  · obtain rfl : y = 0 := hy (by decide)
    rfl
  · rfl
/-- A form that stands at the beginning is read. -/
theorem rdM_at {s : ByteArray} {m : MsD} (hM : mayM m = true) (hi : ∀ o ∈ m.d, o.In) (h : At s 0 (frmB m)) : rdM s = (m, ((frmB m).length : Int), true) := by
  have hp := may_parts hM
  have hle : ∀ fs : List Nat, ∀ f ∈ fs, 0 ≤ m.at f ∧ m.at f ≤ big := fun fs f _ => by have := may_at hM f; exact ⟨this.1, Int.le_trans this.2 (by decide)⟩
  rw [frmB, ns_cons, nmB_cons] at h
  obtain ⟨h12, h3⟩ := at_append.1 h
  obtain ⟨h1, h2⟩ := at_append.1 h12
  have e1 : tkF s [0] zM 0 = (zM.set 0 m.k, ((numB m.k.toNat).length : Int), true) := by
    have := tkF_at (s := s) m [0] zM 0 (hle _) (by simpa [MsD.ns, nmB] using h1)
    simpa [MsD.ns, nmB, MsD.at] using this
  have h2' : At s (numB m.k.toNat).length (nmB (m.ns (bkF m.k))) := by simpa [MsD.at] using h2
  have e2 := tkF_at (s := s) m (bkF m.k) (zM.set 0 m.k) (numB m.k.toNat).length (hle _) h2'
  rw [may_fold hM] at e2
  have e3 : tnR s = ({ m with d := [] }, (((numB m.k.toNat).length + (nmB (m.ns (bkF m.k))).length : Nat) : Int), true) := by
    rw [tnR, e1]
    exact e2
  have hl : (frmB m).length = (numB m.k.toNat).length + (nmB (m.ns (bkF m.k))).length + (if hdM m.k = true then pk.textB (mk (encB (stR m.d))) else []).length := by
    rw [frmB, ns_cons, nmB_cons, List.length_append, List.length_append]; rfl
  rw [rdM, e3]
  cases hd : hdM m.k
  · have hd0 : m.d = [] := by
      rcases hp.2.2.2.2.2.2.2.2.2.2.2.1 with h | ⟨-, -, h⟩ | h
      · rw [h] at hd; simp [hdM] at hd
      · exact List.eq_nil_of_length_eq_zero h
      · rw [h] at hd; simp [hdM] at hd
    rw [hl, hd]
    simp only [Bool.and_false, Bool.false_eq_true, if_false, List.length_nil, Nat.add_zero]
    congr 1
    rw [← hd0]
  · rw [hd] at h3
    simp only [if_true] at h3
    have h4 : At s ((numB m.k.toNat).length + (nmB (m.ns (bkF m.k))).length) (pk.textB (mk (encB (stR m.d)))) := by
      have := h3
      rw [Nat.zero_add, List.length_append] at this
      exact this
    have e4 := pk.tkT_at (by rw [mk_size]; have := encB_small hi; omega) h4
    have e5 : tdR s (((numB m.k.toNat).length + (nmB (m.ns (bkF m.k))).length : Nat) : Int) = (m.d, (((numB m.k.toNat).length + (nmB (m.ns (bkF m.k))).length + (pk.textB (mk (encB (stR m.d)))).length : Nat) : Int), true) := by
      rw [tdR, e4]
      simp only [if_true]
      rw [dec_enc hi hp.2.2.2.2.1]
      rfl
    simp only [Bool.and_self, if_true]
    rw [e5, hl, hd]
    simp
theorem okM_at {s : ByteArray} {m : MsD} (hM : mayM m = true) (hi : ∀ o ∈ m.d, o.In) (h : At s 0 (frmB m)) (hs : (frmB m).length = s.size) : wdR s = (m, 0) := by
  have e := rdM_at hM hi h
  rw [wdR, e, okM, hM, hs]
  simp
/-- What was written is read. -/
theorem wd_form {m : MsD} (hM : mayM m = true) (hi : ∀ o ∈ m.d, o.In) : wdR (mk (frmB m)) = (m, 0) := by
  have := at_self (frmB m) []
  rw [List.append_nil] at this
  exact okM_at hM hi this (by rw [mk_size])
/-- A form that goes on is none. -/
theorem wd_more {m : MsD} (hM : mayM m = true) (hi : ∀ o ∈ m.d, o.In) (L : List UInt8) (hL : 0 < L.length) : wdR (mk (frmB m ++ L)) = (zM, 160) := by
  have e := rdM_at hM hi (at_self (frmB m) L)
  rw [wdR, e, okM]
  have : ¬ ((frmB m).length : Int) = ((mk (frmB m ++ L)).size : Int) := by rw [mk_size, List.length_append]; omega
  rw [decide_eq_false this]
  rfl
theorem tnR_of {s : ByteArray} (h : (tnR s).2.2 = true) : At s 0 (nmB ((tnR s).1.ns (0 :: bkF (tnR s).1.k))) ∧ (tnR s).2.1 = ((nmB ((tnR s).1.ns (0 :: bkF (tnR s).1.k))).length : Int) := by
  unfold tnR at h ⊢
  split at h
  · rename_i h0
    rw [if_pos h0]
    obtain ⟨a1, a2, a3⟩ := tkF_of (s := s) [0] zM 0 (Nat.zero_le _) (by simp) (by simp) h0
    simp only [Nat.zero_add, Int.ofNat_zero] at a1 a2 a3
    generalize hT : tkF s [0] zM 0 = T at *
    obtain ⟨m1, q1, o1⟩ := T
    simp only at *
    rw [a2] at h ⊢
    have hz : 0 + (nmB (m1.ns [0])).length ≤ s.size := a1.1
    obtain ⟨b1, b2, b3⟩ := tkF_of (s := s) (bkF m1.k) m1 (nmB (m1.ns [0])).length (by omega) (by unfold bkF; split <;> (try split) <;> decide) (bkF_le _) h
    have hk0 : (tkF s (bkF m1.k) m1 ((nmB (m1.ns [0])).length : Int)).1.k = m1.k := b3 0 (by unfold bkF; split <;> (try split) <;> decide)
    generalize tkF s (bkF m1.k) m1 ((nmB (m1.ns [0])).length : Int) = T2 at *
    obtain ⟨m2, q2, o2⟩ := T2
    simp only at *
    have hk2 : m2.ns [0] = m1.ns [0] := by simp [MsD.ns, MsD.at, hk0]
    have hc : nmB (m2.ns (0 :: bkF m2.k)) = nmB (m1.ns [0]) ++ nmB (m2.ns (bkF m1.k)) := by
      rw [hk0, ← hk2]; simp [MsD.ns, nmB]
    rw [hc, List.length_append]
    exact ⟨at_append.2 ⟨a1, by rw [Nat.zero_add]; exact b1⟩, by rw [b2]⟩
  · rename_i h0
    exact absurd h h0
/-- What was read is written so. -/
theorem wd_of {s : ByteArray} (h : okM s (rdM s) = true) : mk (frmB (rdM s).1) = s ∧ mayM (rdM s).1 = true ∧ ∀ o ∈ (rdM s).1.d, o.In := by
  have hin := (rdM_in s).2
  simp only [okM, Bool.and_eq_true, decide_eq_true_eq] at h
  obtain ⟨⟨h1, h2⟩, h3⟩ := h
  refine ⟨?_, h3, hin⟩
  have ht : (tnR s).2.2 = true := by
    unfold rdM at h1
    split at h1
    · rename_i hc; simp only [Bool.and_eq_true] at hc; exact hc.1
    · exact h1
  obtain ⟨a1, a2⟩ := tnR_of ht
  unfold rdM at h1 h2 h3 ⊢
  cases hd : hdM (tnR s).1.k
  · rw [ht, hd] at h1 h2 h3
    rw [ht]
    simp only [Bool.and_false, Bool.false_eq_true, if_false] at h1 h2 h3 ⊢
    rw [a2] at h2
    apply at_whole
    · rw [frmB, hd]; simpa using a1
    · rw [frmB, hd]; simp; omega
  · rw [ht, hd] at h1 h2 h3
    rw [ht]
    simp only [Bool.and_self, if_true] at h1 h2 h3 ⊢
    rw [a2] at h1 h2 h3 ⊢
    generalize hn : (nmB ((tnR s).1.ns (0 :: bkF (tnR s).1.k))).length = n at *
    unfold tdR at h1 h2 h3 ⊢
    split at h1
    · rename_i h0
      rw [if_pos h0] at h2 h3 ⊢
      simp only at h1 h2 h3 ⊢
      have hr : pk.tkT s (n : Int) = ((pk.tkT s (n : Int)).1, (pk.tkT s (n : Int)).2.1, 0) := by rw [← h0]
      obtain ⟨b, e1, -, e3, e4⟩ := pk.tkT_of hr
      obtain rfl : b = n := by omega
      have hD : decR (pk.tkT s (b : Int)).1 = ((decR (pk.tkT s (b : Int)).1).1, 0) := by
        have : (decR (pk.tkT s (b : Int)).1).2 = 0 := by simpa using h1
        rw [← this]
      obtain ⟨g1, -⟩ := dec_of hD
      have hf : frmB { (tnR s).1 with d := (decR (pk.tkT s (b : Int)).1).1 } = nmB ((tnR s).1.ns (0 :: bkF (tnR s).1.k)) ++ pk.textB (pk.tkT s (b : Int)).1 := by
        rw [frmB]
        simp only [hd, if_true]
        rw [g1]
        rfl
      rw [hf]
      rw [e4] at h2
      apply at_whole
      · exact at_append.2 ⟨a1, by rw [hn, Nat.zero_add]; exact e3⟩
      · rw [List.length_append, hn]; omega
    · simp at h1
/-- A form that ends sooner is none. -/
theorem wd_less {m : MsD} (hM : mayM m = true) (hi : ∀ o ∈ m.d, o.In) (L M : List UInt8) (hL : frmB m = L ++ M) (h0 : 0 < M.length) : wdR (mk L) = (zM, 160) := by
  rw [wdR]
  cases hc : okM (mk L) (rdM (mk L))
  · rfl
  · obtain ⟨e1, e2, e3⟩ := wd_of hc
    have e4 : frmB (rdM (mk L)).1 = L := by
      have := congrArg (fun b : ByteArray => b.data.toList) e1
      simpa only [mk_toList] using this
    have a1 : At (mk (frmB m)) 0 (frmB (rdM (mk L)).1) := by rw [e4, hL]; exact at_self L M
    have r1 := rdM_at e2 e3 a1
    have a2 := at_self (frmB m) []
    rw [List.append_nil] at a2
    have r2 := rdM_at hM hi a2
    rw [r1] at r2
    injection r2 with _ r3
    injection r3 with r4 _
    rw [e4, hL, List.length_append] at r4
    omega
end Go.Proofs.Ytaopfdgebibpeaa
