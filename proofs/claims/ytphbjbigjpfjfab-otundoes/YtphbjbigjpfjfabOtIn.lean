/-
  What undoes a delta, as a word: done it gives the text again, undone it is the delta. No walk.
-/
import Derived.Test.YtphbjbigjpfjfabOtZ
import Derived.Test.YtphbjbigjpfjfabOtQ
namespace Go.Proofs.Ytphbjbigjpfjfab
open Go.RowKit Go.PlainAid

/-- What undoes a word of code points. -/
def invU : List Int → List U → List U
  | _, [] => []
  | zs, .K :: l => .K :: invU zs.tail l
  | zs, .R :: l => .I (zs.headD 0) :: invU zs.tail l
  | zs, .I _ :: l => .R :: invU zs l
/-- What a word gives of code points. -/
def giv : List Int → List U → List Int
  | _, [] => []
  | zs, .K :: l => zs.headD 0 :: giv zs.tail l
  | zs, .R :: l => giv zs.tail l
  | zs, .I z :: l => z :: giv zs l
theorem inv_inv : ∀ (l : List U) (zs : List Int), invU (giv zs l) (invU zs l) = l
  | [], _ => rfl
  | .K :: l, zs => by simp only [invU, giv, List.tail_cons]; rw [inv_inv l]
  | .R :: l, zs => by simp only [invU, giv]; rw [inv_inv l]
  | .I z :: l, zs => by simp only [invU, giv, List.tail_cons, List.headD_cons]; rw [inv_inv l]
theorem giv_inv : ∀ (l : List U) (zs : List Int), baseU l = zs.length → giv (giv zs l) (invU zs l) = zs
  | [], zs, h => by
    have : zs = [] := List.eq_nil_of_length_eq_zero (by simpa [baseU] using h.symm)
    subst this; rfl
  | .K :: l, [], h => by simp [baseU] at h
  | .K :: l, z :: zs, h => by
    simp only [baseU, List.length_cons] at h
    simp only [invU, giv, List.tail_cons, List.headD_cons]
    rw [giv_inv l zs (by omega)]
  | .R :: l, [], h => by simp [baseU] at h
  | .R :: l, z :: zs, h => by
    simp only [baseU, List.length_cons] at h
    simp only [invU, giv, List.tail_cons, List.headD_cons]
    rw [giv_inv l zs (by omega)]
  | .I z :: l, zs, h => by
    simp only [baseU] at h
    simp only [invU, giv, List.tail_cons]
    rw [giv_inv l zs h]
theorem inv_base : ∀ (l : List U) (zs : List Int), baseU (invU zs l) = tgtU l
  | [], _ => rfl
  | .K :: l, zs => by simp only [invU, baseU, tgtU]; rw [inv_base l]; omega
  | .R :: l, zs => by simp only [invU, baseU, tgtU]; rw [inv_base l]
  | .I z :: l, zs => by simp only [invU, baseU, tgtU]; rw [inv_base l]; omega
theorem inv_tgt : ∀ (l : List U) (zs : List Int), tgtU (invU zs l) = baseU l
  | [], _ => rfl
  | .K :: l, zs => by simp only [invU, baseU, tgtU]; rw [inv_tgt l]; omega
  | .R :: l, zs => by simp only [invU, baseU, tgtU]; rw [inv_tgt l]; omega
  | .I z :: l, zs => by simp only [invU, baseU, tgtU]; rw [inv_tgt l]
theorem giv_len : ∀ (l : List U) (zs : List Int), (giv zs l).length = tgtU l
  | [], _ => rfl
  | .K :: l, zs => by simp only [giv, tgtU, List.length_cons]; rw [giv_len l]
  | .R :: l, zs => by simp only [giv, tgtU]; rw [giv_len l]
  | .I z :: l, zs => by simp only [giv, tgtU, List.length_cons]; rw [giv_len l]

/-- What is given hangs only on the marks. -/
theorem giv_marks : ∀ (l : List U) (zs : List Int) (a : Nat), a + baseU l ≤ zs.length → giv (zs.drop a) l = apM zs (mkU a l)
  | [], _, _, _ => rfl
  | .K :: l, zs, a, h => by
    simp only [baseU] at h
    have ih := giv_marks l zs (a + 1) (by omega)
    have e : (zs.drop a).tail = zs.drop (a + 1) := by rw [List.tail_drop]
    have e2 : (zs.drop a).headD 0 = zs.getD a 0 := by
      rw [List.drop_eq_getElem_cons (show a < zs.length by omega), List.headD_cons, List.getD_eq_getElem?_getD, List.getElem?_eq_getElem (show a < zs.length by omega)]; rfl
    simp only [giv, mkU, apM, List.map_cons]
    rw [e, e2, ih]; rfl
  | .R :: l, zs, a, h => by
    simp only [baseU] at h
    have ih := giv_marks l zs (a + 1) (by omega)
    simp only [giv, mkU]
    rw [List.tail_drop, ih]
  | .I z :: l, zs, a, h => by
    simp only [baseU] at h
    have ih := giv_marks l zs a h
    simp only [giv, mkU, apM, List.map_cons]
    rw [ih]; rfl
theorem giv_run {l : List St} {zs : List Int} (h : bsum l ≤ zs.length) : apRun zs l = giv zs (uw l) := by
  have e1 := apRun_marks l zs 0 (by omega)
  have e2 := giv_marks (uw l) zs 0 (by rw [base_uw]; omega)
  rw [List.drop_zero] at e1 e2
  rw [e1, e2]

/-- The marks of what undoes, out of the marks. -/
def mkI (zs : List Int) (n : Nat) : Nat → Nat → List (Nat ⊕ Int) → List (Nat ⊕ Int)
  | i, _, [] => ((zs.drop i).take (n - i)).map .inr
  | i, j, .inr _ :: m => mkI zs n i (j + 1) m
  | i, j, .inl p :: m => ((zs.drop i).take (p - i)).map .inr ++ (.inl j :: mkI zs n (p + 1) (j + 1) m)
theorem take_one {zs : List Int} {i q : Nat} (hi : i < zs.length) (hq : i < q) : (zs.drop i).take (q - i) = zs[i] :: (zs.drop (i + 1)).take (q - (i + 1)) := by
  rw [List.drop_eq_getElem_cons hi, show q - i = (q - (i + 1)) + 1 by omega, List.take_succ_cons]
theorem mkI_one {zs : List Int} {n i : Nat} (hi : i < zs.length) (hn : i < n) : ∀ (m : List (Nat ⊕ Int)) (j : Nat), (∀ p, Sum.inl p ∈ m → i < p) → mkI zs n i j m = .inr zs[i] :: mkI zs n (i + 1) j m
  | [], j, _ => by simp only [mkI]; rw [take_one hi hn]; rfl
  | .inr z :: m, j, h => by simp only [mkI]; exact mkI_one hi hn m (j + 1) (fun p hp => h p (by simp [hp]))
  | .inl p :: m, j, h => by
    have hp := h p (by simp)
    simp only [mkI]
    rw [take_one hi hp]; rfl
theorem marks_ge : ∀ (l : List U) (k j : Nat), Sum.inl j ∈ mkU k l → k ≤ j
  | [], _, _, h => by simp [mkU] at h
  | .K :: l, k, j, h => by
    simp only [mkU, List.mem_cons] at h
    rcases h with h | h
    · cases h; omega
    · have := marks_ge l _ _ h; omega
  | .R :: l, k, j, h => by have := marks_ge l _ _ (by simpa [mkU] using h); omega
  | .I z :: l, k, j, h => by
    simp only [mkU, List.mem_cons, reduceCtorEq, false_or] at h
    exact marks_ge l _ _ h
theorem inv_marks : ∀ (l : List U) (zs : List Int) (n i j : Nat), i + baseU l = n → n ≤ zs.length → mkU j (invU (zs.drop i) l) = mkI zs n i j (mkU i l)
  | [], zs, n, i, j, h, hn => by
    simp only [baseU] at h
    simp [invU, mkU, mkI, show n - i = 0 by omega]
  | .K :: l, zs, n, i, j, h, hn => by
    simp only [baseU] at h
    have ih := inv_marks l zs n (i + 1) (j + 1) (by omega) hn
    simp only [invU, mkU, mkI]
    rw [List.tail_drop, ih]
    simp
  | .R :: l, zs, n, i, j, h, hn => by
    simp only [baseU] at h
    have ih := inv_marks l zs n (i + 1) j (by omega) hn
    have hi : i < zs.length := by omega
    simp only [invU, mkU]
    rw [List.tail_drop, ih, mkI_one hi (by omega) _ _ (fun p hp => by have := marks_ge l _ _ hp; omega), List.drop_eq_getElem_cons hi, List.headD_cons]
  | .I z :: l, zs, n, i, j, h, hn => by
    simp only [baseU] at h
    have ih := inv_marks l zs n i (j + 1) h hn
    simp only [invU, mkU, mkI]
    exact ih
/-- What undoes hangs only on the marks. -/
theorem inv_eqv {a b : List U} {zs : List Int} (h : Eqv a b) (hb : baseU a = zs.length) : Eqv (invU zs a) (invU zs b) := by
  refine ⟨by rw [inv_base, inv_base, eqv_tgt h], fun j => ?_⟩
  have e1 := inv_marks a zs zs.length 0 j (by omega) (Nat.le_refl _)
  have e2 := inv_marks b zs zs.length 0 j (by rw [← h.1]; omega) (Nat.le_refl _)
  rw [List.drop_zero] at e1 e2
  rw [e1, e2, h.2]

/-! ### The operations -/

theorem inv_Ks : ∀ (n : Nat) (zs : List Int) (l : List U), invU zs (List.replicate n .K ++ l) = List.replicate n .K ++ invU (zs.drop n) l
  | 0, zs, l => by simp
  | n + 1, zs, l => by rw [List.replicate_succ, List.cons_append, invU, inv_Ks n, List.cons_append, ← List.drop_one, List.drop_drop, Nat.add_comm 1 n]
theorem inv_Rs : ∀ (n : Nat) (zs : List Int) (l : List U), n ≤ zs.length → invU zs (List.replicate n .R ++ l) = (zs.take n).map .I ++ invU (zs.drop n) l
  | 0, zs, l, _ => by simp
  | n + 1, [], l, h => by simp at h
  | n + 1, z :: zs, l, h => by
    rw [List.replicate_succ, List.cons_append, invU, List.tail_cons, inv_Rs n zs l (by simpa using h)]
    simp
theorem inv_Is : ∀ (p : List Int) (zs : List Int) (l : List U), invU zs (p.map .I ++ l) = List.replicate p.length .R ++ invU zs l
  | [], zs, l => by simp
  | z :: p, zs, l => by rw [List.map_cons, List.cons_append, invU, inv_Is p, List.length_cons, List.replicate_succ, List.cons_append]
/-- What undoes steps, as point steps. -/
def invP : List Int → List St → List PS
  | _, [] => []
  | zs, .keep n :: l => .keep n :: invP (zs.drop n) l
  | zs, .rem n :: l => .ins (zs.take n) :: invP (zs.drop n) l
  | zs, .ins t :: l => .rem (pts t).length :: invP zs l
theorem invP_facts : ∀ (l : List St) (zs : List Int), (∀ s ∈ l, s.Ok) → bsum l = zs.length → (∀ z ∈ zs, szI z ≠ 0) → (invP zs l).map PS.op = invO zs l ∧ pw (invP zs l) = invU zs (uw l) ∧ ∀ s ∈ invP zs l, s.Ok
  | [], zs, _, _, _ => ⟨rfl, rfl, by simp [invP]⟩
  | .keep n :: l, zs, ho, hb, hz => by
    have hs := ho (.keep n) (by simp)
    have e1 : bsum (.keep n :: l) = n + bsum l := by simp [bsum, St.b]
    rw [e1] at hb
    obtain ⟨i1, i2, i3⟩ := invP_facts l (zs.drop n) (fun s h => ho s (by simp [h])) (by rw [List.length_drop]; omega) (fun z h => hz z (List.mem_of_mem_drop h))
    refine ⟨by rw [invP, invO, List.map_cons, i1]; rfl, ?_, ?_⟩
    · rw [invP, pw_cons, i2, uw_cons]
      exact (inv_Ks n zs (uw l)).symm
    · rw [invP]
      intro s h
      rcases List.mem_cons.1 h with rfl | h
      · exact hs.1
      · exact i3 s h
  | .rem n :: l, zs, ho, hb, hz => by
    have hs := ho (.rem n) (by simp)
    have e1 : bsum (.rem n :: l) = n + bsum l := by simp [bsum, St.b]
    rw [e1] at hb
    obtain ⟨i1, i2, i3⟩ := invP_facts l (zs.drop n) (fun s h => ho s (by simp [h])) (by rw [List.length_drop]; omega) (fun z h => hz z (List.mem_of_mem_drop h))
    refine ⟨by rw [invP, invO, List.map_cons, i1]; rfl, ?_, ?_⟩
    · rw [invP, pw_cons, i2, uw_cons]
      exact (inv_Rs n zs (uw l) (by omega)).symm
    · rw [invP]
      intro s h
      rcases List.mem_cons.1 h with rfl | h
      · exact ⟨by rw [List.length_take]; have := hs.1; omega, fun z h => hz z (List.mem_of_mem_take h)⟩
      · exact i3 s h
  | .ins t :: l, zs, ho, hb, hz => by
    have hs := ho (.ins t) (by simp)
    have h0 : 0 < cpl t := hs.1
    have e1 : bsum (.ins t :: l) = bsum l := by simp [bsum, St.b]
    rw [e1] at hb
    have hp := pts_len (t := t) (by omega)
    obtain ⟨i1, i2, i3⟩ := invP_facts l zs (fun s h => ho s (by simp [h])) hb hz
    refine ⟨?_, ?_, ?_⟩
    · rw [invP, invO, List.map_cons, i1]
      have : (PS.rem (pts t).length).op = ⟨3, cpl t, ⟨#[]⟩⟩ := by
        show (⟨3, ((pts t).length : Nat), ⟨#[]⟩⟩ : OpD) = _
        rw [hp]
      rw [this]
    · rw [invP, pw_cons, i2, uw_cons]
      exact (inv_Is (pts t) zs (uw l)).symm
    · rw [invP]
      intro s h
      rcases List.mem_cons.1 h with rfl | h
      · show 0 < (pts t).length; omega
      · exact i3 s h

/-- What Invert gives of what may be done. -/
theorem in_facts {s : ByteArray} {D : List OpD} (iD : ∀ o ∈ D, o.In) (h : (apR s D).2 = 0) :
    (inR s D).2 = 0 ∧ (∀ o ∈ (inR s D).1, o.In) ∧ chk (inR s D).1 = 0 ∧ Eqv (uw (stR (inR s D).1)) (invU (pts s) (uw (stR D))) ∧ bsum (stR (inR s D).1) = tsum (stR D) ∧ (inR s D).1 = jn (stR (invO (pts s) (stR D))) ∧ uw (stR (invO (pts s) (stR D))) = invU (pts s) (uw (stR D)) := by
  obtain ⟨s0, s1, s2⟩ := apR_zero' h
  have hps := pts_len (t := s) s0
  have ho := stR_ok iD
  have bd := stR_bd D
  have hbs : bsum (stR D) = (pts s).length := by omega
  obtain ⟨f1, f2, f3⟩ := invP_facts (stR D) (pts s) ho hbs (pts_ok s0)
  have b1 : baseU (pw (invP (pts s) (stR D))) = tsum (stR D) := by rw [f2, inv_base, tgt_uw]
  have t1 : targU (pw (invP (pts s) (stR D))) = bsum (stR D) := by rw [targU, tgt_targ, f2, inv_tgt, base_uw]
  obtain ⟨c1, c2⟩ := chk_ps f3 (by omega) (by omega)
  rw [f1] at c1 c2
  have e : inR s D = (jn (stR (invO (pts s) (stR D))), 0) := by rw [inR, if_pos h, c1]
  have hin := invO_in (stR D) (pts s) (by omega)
  have hok := stR_ok hin
  have bd2 := stR_bd (invO (pts s) (stR D))
  obtain ⟨n1, n2, n3, n4, n5⟩ := normal_facts hok bd2.1 bd2.2
  have hw : uw (stR (invO (pts s) (stR D))) = invU (pts s) (uw (stR D)) := by rw [c2, uw_st f3, f2]
  rw [e]
  refine ⟨rfl, (jn_in hok bd2.1 bd2.2).2, n1, ?_, ?_, rfl, hw⟩
  · rw [hw] at n3; exact n3
  · rw [n4, ← base_uw, hw, inv_base, tgt_uw]

/-- Done, undone; undone twice. -/
theorem undoes {s : ByteArray} {D : List OpD} (iD : ∀ o ∈ D, o.In) (h : (apR s D).2 = 0) :
    (inR s D).2 = 0 ∧ apR (apR s D).1 (inR s D).1 = (s, 0) ∧ inR (apR s D).1 (inR s D).1 = (jn (stR D), 0) := by
  obtain ⟨v1, v2, v3, v4, v5, v6, v7⟩ := in_facts iD h
  obtain ⟨s0, s1, s2, s3⟩ := apR_zero h
  have ho := stR_ok iD
  have hps := pts_len (t := s) s0
  have bd := stR_bd D
  have hpo := apRun_ok (stR D) (pts s) ho (pts_ok s0)
  have hce := cpl_enc hpo
  have hg : apRun (pts s) (stR D) = giv (pts s) (uw (stR D)) := giv_run (by omega)
  have hct : cpl (apR s D).1 = (tsum (stR D) : Int) := by rw [s3, hce.1, ap_len (by omega)]
  have hpt : pts (apR s D).1 = giv (pts s) (uw (stR D)) := by rw [s3, hce.2, hg]
  have hbu : baseU (uw (stR D)) = (pts s).length := by rw [base_uw]; omega
  have hlen : (giv (pts s) (uw (stR D))).length = tsum (stR D) := by rw [giv_len, tgt_uw]
  have hback : (apR (apR s D).1 (inR s D).1).2 = 0 ∧ (apR (apR s D).1 (inR s D).1) = (s, 0) := by
    have e := apR_of (s := (apR s D).1) (A := (inR s D).1) (by omega) v3 (by rw [v5, hct])
    have e2 : apRun (giv (pts s) (uw (stR D))) (stR (inR s D).1) = pts s := by
      rw [giv_run (by rw [v5, hlen]; omega)]
      have g1 := giv_marks (uw (stR (inR s D).1)) (giv (pts s) (uw (stR D))) 0 (by rw [base_uw, v5, hlen]; omega)
      have g2 := giv_marks (invU (pts s) (uw (stR D))) (giv (pts s) (uw (stR D))) 0 (by rw [inv_base, tgt_uw, hlen]; omega)
      rw [List.drop_zero] at g1 g2
      rw [g1, v4.2, ← g2, giv_inv _ _ hbu]
    rw [hpt, e2] at e
    have e3 : mk (enc (pts s)) = s := (whole_eq (cpl_valid s0)).1
    rw [e3] at e
    exact ⟨by rw [e], e⟩
  refine ⟨v1, hback.2, ?_⟩
  obtain ⟨w1, w2, w3, w4, w5, w6, w7⟩ := in_facts v2 hback.1
  have hr : (inR (apR s D).1 (inR s D).1).1 = jn (stR D) := by
    rw [w6]
    refine jn_eqv (stR_ok (invO_in _ _ ?_)) ho ?_
    · rw [hpt, hlen]; omega
    · rw [w7, hpt]
      have q1 := inv_eqv (zs := giv (pts s) (uw (stR D))) v4 (by rw [base_uw, v5, hlen])
      rw [inv_inv] at q1
      exact q1
  exact Prod.ext hr w1
end Go.Proofs.Ytphbjbigjpfjfab
