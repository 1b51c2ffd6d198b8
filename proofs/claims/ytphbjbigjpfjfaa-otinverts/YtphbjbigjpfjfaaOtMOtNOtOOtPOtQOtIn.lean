/-
  The marks of a and then b are b's, with a's in the places of those that b keeps. No walk.
-/
import Derived.Test.YtphbjbigjpfjfaaOtH
import Derived.Test.YtphbjbigjpfjfaaOtK
import Derived.Test.YtphbjbigjpfjfaaOtZ
namespace Go.Proofs.Ytphbjbigjpfjfaa
open Go.RowKit Go.PlainAid

/-- What b makes of a row of marks. -/
def sb : List (Nat ⊕ Int) → List U → List (Nat ⊕ Int)
  | _, [] => []
  | ma, .I z :: b => .inr z :: sb ma b
  | m :: ma, .K :: b => m :: sb ma b
  | _ :: ma, .R :: b => sb ma b
  | [], .K :: _ => []
  | [], .R :: _ => []

theorem tgt_marks : ∀ (l : List U) (i : Nat), (mkU i l).length = tgtU l
  | [], _ => rfl
  | .K :: l, i => by rw [mkU, List.length_cons, tgt_marks l]; rfl
  | .R :: l, i => by rw [mkU, tgt_marks l]; rfl
  | .I z :: l, i => by rw [mkU, List.length_cons, tgt_marks l]; rfl

theorem both_nil {x y : List U} (e1 : ∀ a, ¬ x = U.R :: a) (e2 : ∀ z b, x = [] → ¬ y = U.I z :: b) (e3 : ∀ a z b, x = U.K :: a → ¬ y = U.I z :: b) (e4 : ∀ w a z b, x = U.I w :: a → ¬ y = U.I z :: b)
    (e5 : ∀ a b, x = U.K :: a → ¬ y = U.K :: b) (e6 : ∀ z a b, x = U.I z :: a → ¬ y = U.K :: b) (e7 : ∀ a b, x = U.K :: a → ¬ y = U.R :: b) (e8 : ∀ z a b, x = U.I z :: a → ¬ y = U.R :: b) (h : tgtU x = baseU y) : x = [] ∧ y = [] := by
  rcases x with _ | ⟨u, a⟩
  · rcases y with _ | ⟨v, b⟩
    · exact ⟨rfl, rfl⟩
    · cases v with
      | K => simp only [tgtU, baseU] at h; omega
      | R => simp only [tgtU, baseU] at h; omega
      | I z => exact absurd rfl (e2 z b rfl)
  · cases u with
    | R => exact absurd rfl (e1 a)
    | K =>
      rcases y with _ | ⟨v, b⟩
      · simp only [tgtU, baseU] at h; omega
      · cases v with
        | K => exact absurd rfl (e5 a b rfl)
        | R => exact absurd rfl (e7 a b rfl)
        | I z => exact absurd rfl (e3 a z b rfl)
    | I w =>
      rcases y with _ | ⟨v, b⟩
      · simp only [tgtU, baseU] at h; omega
      · cases v with
        | K => exact absurd rfl (e6 w a b rfl)
        | R => exact absurd rfl (e8 w a b rfl)
        | I z => exact absurd rfl (e4 w a z b rfl)

theorem cmp_sb (a b : List U) : ∀ i, tgtU a = baseU b → mkU i (cmp a b) = sb (mkU i a) b := by
  induction a, b using cmp.induct <;> intro i h <;> simp_all [cmp, mkU, sb, tgtU, baseU]
  all_goals first | (rename_i ih; exact ih _ (by omega)) | (rename_i x y e1 e2 e3 e4 e5 e6 e7 e8; obtain ⟨rfl, rfl⟩ := both_nil e1 e2 e3 e4 e5 e6 e7 e8 h; rfl)
theorem cmp_base (a b : List U) : tgtU a = baseU b → baseU (cmp a b) = baseU a := by
  induction a, b using cmp.induct <;> intro h <;> simp_all [cmp, tgtU, baseU]
  all_goals first | (rename_i ih; exact ih (by omega)) | (rename_i x y e1 e2 e3 e4 e5 e6 e7 e8; obtain ⟨rfl, rfl⟩ := both_nil e1 e2 e3 e4 e5 e6 e7 e8 h; rfl)
theorem cmp_tgt (a b : List U) : tgtU a = baseU b → tgtU (cmp a b) = tgtU b := by
  induction a, b using cmp.induct <;> intro h <;> simp_all [cmp, tgtU, baseU]
  all_goals first | (rename_i ih; exact ih (by omega)) | (rename_i x y e1 e2 e3 e4 e5 e6 e7 e8; obtain ⟨rfl, rfl⟩ := both_nil e1 e2 e3 e4 e5 e6 e7 e8 h; rfl)

/-- A mark, with the mark that stands there. -/
def sub (ma : List (Nat ⊕ Int)) : Nat ⊕ Int → Nat ⊕ Int
  | .inl j => ma.getD j (.inr 0)
  | .inr z => .inr z
theorem sb_sub (ma : List (Nat ⊕ Int)) : ∀ (b : List U) (k : Nat), k + baseU b ≤ ma.length → sb (ma.drop k) b = (mkU k b).map (sub ma)
  | [], k, _ => by simp [sb, mkU]
  | .I z :: b, k, h => by
    have := sb_sub ma b k (by simpa [baseU] using h)
    simp [sb, mkU, sub, this]
  | .K :: b, k, h => by
    simp only [baseU] at h
    have := sb_sub ma b (k + 1) (by omega)
    rw [List.drop_eq_getElem_cons (by omega), sb, this, mkU]
    simp [sub, List.getD_eq_getElem?_getD, List.getElem?_eq_getElem (show k < ma.length by omega)]
  | .R :: b, k, h => by
    simp only [baseU] at h
    have := sb_sub ma b (k + 1) (by omega)
    rw [List.drop_eq_getElem_cons (by omega), sb, this, mkU]
/-- The marks of a and then b. -/
theorem cmp_marks (a b : List U) (i : Nat) (h : tgtU a = baseU b) : mkU i (cmp a b) = (mkU 0 b).map (sub (mkU i a)) := by
  rw [cmp_sb a b i h, ← sb_sub (mkU i a) b 0 (by rw [tgt_marks]; omega), List.drop_zero]

theorem marks_lt : ∀ (l : List U) (k j : Nat), Sum.inl j ∈ mkU k l → j < k + baseU l
  | [], _, _, h => by simp [mkU] at h
  | .K :: l, k, j, h => by
    simp only [mkU, List.mem_cons] at h
    rcases h with h | h
    · cases h; simp only [baseU]; omega
    · have := marks_lt l _ _ h; simp only [baseU]; omega
  | .R :: l, k, j, h => by
    have := marks_lt l _ _ (by simpa [mkU] using h); simp only [baseU]; omega
  | .I z :: l, k, j, h => by
    simp only [mkU, List.mem_cons, reduceCtorEq, false_or] at h
    have := marks_lt l _ _ h; simp only [baseU]; omega
/-- From the left or from the right: the same marks, the same base. -/
theorem cmp_assoc (a b c : List U) (h1 : tgtU a = baseU b) (h2 : tgtU b = baseU c) : Eqv (cmp (cmp a b) c) (cmp a (cmp b c)) := by
  have hb1 := cmp_base a b h1
  have hb2 := cmp_base b c h2
  have ht1 := cmp_tgt a b h1
  refine ⟨?_, fun i => ?_⟩
  · rw [cmp_base (cmp a b) c (by rw [ht1, h2]), cmp_base a (cmp b c) (by rw [h1, hb2]), hb1]
  · rw [cmp_marks (cmp a b) c i (by rw [ht1, h2]), cmp_marks a b i h1, cmp_marks a (cmp b c) i (by rw [h1, hb2]), cmp_marks b c 0 h2, List.map_map]
    refine List.map_congr_left (fun m hm => ?_)
    cases m with
    | inr z => rfl
    | inl j =>
      have hj := marks_lt c 0 j hm
      have hl : j < (mkU 0 b).length := by rw [tgt_marks]; omega
      simp only [Function.comp, sub, List.getD_eq_getElem?_getD, List.getElem?_map, List.getElem?_eq_getElem hl, Option.map_some, Option.getD_some]
end Go.Proofs.Ytphbjbigjpfjfaa

/-
  What Compose gives, as a word. No walk.
-/
namespace Go.Proofs.Ytphbjbigjpfjfaa
open Go.RowKit Go.PlainAid

def psU : U → PS
  | .K => .keep 1
  | .R => .rem 1
  | .I z => .ins [z]
theorem uop_ps (u : U) : uop u = (psU u).op := by
  cases u with
  | K => rfl
  | R => rfl
  | I z => simp [uop, psU, PS.op, PS.st, St.op, enc]
theorem pw_psU : ∀ C : List U, pw (C.map psU) = C
  | [] => rfl
  | u :: C => by
    rw [List.map_cons, pw_cons, pw_psU C]
    cases u <;> rfl
theorem pts_cmp (a b : List U) : PtsU a → PtsU b → PtsU (cmp a b) := by
  induction a, b using cmp.induct <;> intro ha hb <;> simp_all [cmp, PtsU]
theorem psU_ok {C : List U} (h : PtsU C) : ∀ s ∈ C.map psU, s.Ok := by
  intro s hs
  obtain ⟨u, hu, rfl⟩ := List.mem_map.1 hs
  cases u with
  | K => simp [psU, PS.Ok]
  | R => simp [psU, PS.Ok]
  | I z =>
    have hz : szI z ≠ 0 := h z hu
    exact ⟨by simp, fun y hy => by simp at hy; rw [hy]; exact hz⟩
/-- Single operations of a word are a delta, with that word. -/
theorem uops {C : List U} (h : PtsU C) (h1 : baseU C ≤ 1000) (h2 : tgtU C ≤ 1000) : chk (C.map uop) = 0 ∧ uw (stR (C.map uop)) = C := by
  have e : C.map uop = (C.map psU).map PS.op := by rw [List.map_map]; exact List.map_congr_left (fun u _ => uop_ps u)
  have hk := psU_ok h
  have ht : targU C = tgtU C := by rw [targU, tgt_targ]
  have := chk_ps hk (by rw [pw_psU]; exact h1) (by rw [pw_psU, ht]; exact h2)
  rw [e]
  exact ⟨this.1, by rw [this.2, uw_st hk, pw_psU]⟩

/-- Where Compose gives a delta: its error is 0, and its word is a's and then b's. -/
theorem coR_ok {A B : List OpD} (iA : ∀ o ∈ A, o.In) (iB : ∀ o ∈ B, o.In) (c1 : chk A = 0) (c2 : chk B = 0) (ct : tsum (stR A) = bsum (stR B)) :
    (coR A B).2 = 0 ∧ (coR A B).1 = jn (stR ((cpW A B).map uop)) ∧ uw (stR ((cpW A B).map uop)) = cpW A B ∧ baseU (cpW A B) = bsum (stR A) ∧ tgtU (cpW A B) = tsum (stR B) := by
  have okA := stR_ok iA
  have okB := stR_ok iB
  have bdA := stR_bd A
  have bdB := stR_bd B
  obtain ⟨a1, a2, a3, a4, a5⟩ := normal_facts okA bdA.1 bdA.2
  obtain ⟨b1, b2, b3, b4, b5⟩ := normal_facts okB bdB.1 bdB.2
  have jA := jn_in okA bdA.1 bdA.2
  have jB := jn_in okB bdB.1 bdB.2
  have ht : tgtU (uw (stR (jn (stR A)))) = baseU (uw (stR (jn (stR B)))) := by rw [tgt_uw, base_uw, a5, b4, ct]
  have hb : baseU (cpW A B) = bsum (stR A) := by rw [cpW, cmp_base _ _ ht, base_uw, a4]
  have hg : tgtU (cpW A B) = tsum (stR B) := by rw [cpW, cmp_tgt _ _ ht, tgt_uw, b5]
  have hp : PtsU (cpW A B) := pts_cmp _ _ (ptsU_uw (stR_ok jA.2)) (ptsU_uw (stR_ok jB.2))
  obtain ⟨u1, u2⟩ := uops hp (by rw [hb]; exact bdA.1) (by rw [hg]; exact bdB.2)
  have e : coR A B = (jn (stR ((cpW A B).map uop)), chk ((cpW A B).map uop)) := by rw [coR, if_pos c1, if_pos c2, if_pos ct]
  rw [e]
  exact ⟨u1, rfl, u2, hb, hg⟩
end Go.Proofs.Ytphbjbigjpfjfaa

/-
  Three deltas put together from the left or from the right. No walk.
-/
namespace Go.Proofs.Ytphbjbigjpfjfaa
open Go.RowKit Go.PlainAid

theorem eqv_tgt {a b : List U} (h : Eqv a b) : tgtU a = tgtU b := by rw [← tgt_targ a 0, ← tgt_targ b 0, h.2]
theorem cmp_eqv {a a' b b' : List U} (h1 : Eqv a a') (h2 : Eqv b b') (h : tgtU a = baseU b) : Eqv (cmp a b) (cmp a' b') := by
  have h' : tgtU a' = baseU b' := by rw [← eqv_tgt h1, h, h2.1]
  refine ⟨?_, fun i => ?_⟩
  · rw [cmp_base a b h, cmp_base a' b' h', h1.1]
  · rw [cmp_marks a b i h, cmp_marks a' b' i h', h1.2, h2.2]
theorem coR_zero {A B : List OpD} (h : (coR A B).2 = 0) : chk A = 0 ∧ chk B = 0 ∧ tsum (stR A) = bsum (stR B) := by
  rw [coR] at h
  split at h
  · rename_i c1
    split at h
    · rename_i c2
      split at h
      · rename_i c3; exact ⟨c1, c2, c3⟩
      · simp at h
    · rename_i c2; exact absurd h c2
  · rename_i c1; exact absurd h c1

/-- What Compose gave, as one of a pair. -/
theorem co_facts {A B : List OpD} (iA : ∀ o ∈ A, o.In) (iB : ∀ o ∈ B, o.In) (h : (coR A B).2 = 0) :
    (∀ o ∈ (coR A B).1, o.In) ∧ chk (coR A B).1 = 0 ∧ jn (stR (coR A B).1) = (coR A B).1 ∧ Eqv (uw (stR (coR A B).1)) (cpW A B) ∧ bsum (stR (coR A B).1) = bsum (stR A) ∧ tsum (stR (coR A B).1) = tsum (stR B) := by
  obtain ⟨c1, c2, ct⟩ := coR_zero h
  obtain ⟨k1, k2, k3, k4, k5⟩ := coR_ok iA iB c1 c2 ct
  have hok : ∀ s ∈ stR ((cpW A B).map uop), s.Ok := stR_ok (fun o ho => by obtain ⟨u, _, rfl⟩ := List.mem_map.1 ho; exact uop_in u)
  have bd := stR_bd ((cpW A B).map uop)
  obtain ⟨n1, n2, n3, n4, n5⟩ := normal_facts hok bd.1 bd.2
  have hb : bsum (stR ((cpW A B).map uop)) = bsum (stR A) := by rw [← base_uw, k3, k4]
  have ht : tsum (stR ((cpW A B).map uop)) = tsum (stR B) := by rw [← tgt_uw, k3, k5]
  rw [k2]
  refine ⟨(jn_in hok bd.1 bd.2).2, n1, n2, ?_, by rw [n4, hb], by rw [n5, ht]⟩
  rw [k3] at n3
  exact n3

theorem jn_eqv {l l' : List St} (h1 : ∀ s ∈ l, s.Ok) (h2 : ∀ s ∈ l', s.Ok) (h : Eqv (uw l) (uw l')) : jn l = jn l' := by
  rw [jn_eq h1, jn_eq h2, nf_of_marks h.1 (h.2 0)]

theorem joins {A B C : List OpD} (iA : ∀ o ∈ A, o.In) (iB : ∀ o ∈ B, o.In) (iC : ∀ o ∈ C, o.In) (h1 : (coR A B).2 = 0) (h2 : (coR B C).2 = 0) :
    (coR (coR A B).1 C).2 = 0 ∧ (coR A (coR B C).1).2 = 0 ∧ (coR (coR A B).1 C).1 = (coR A (coR B C).1).1 := by
  obtain ⟨a1, a2, a3⟩ := coR_zero h1
  obtain ⟨b1, b2, b3⟩ := coR_zero h2
  obtain ⟨x0, x1, x2, x3, x4, x5⟩ := co_facts iA iB h1
  obtain ⟨y0, y1, y2, y3, y4, y5⟩ := co_facts iB iC h2
  have l := coR_ok x0 iC x1 b2 (by rw [x5, b3])
  have r := coR_ok iA y0 a1 y1 (by rw [a3, y4])
  refine ⟨l.1, r.1, ?_⟩
  rw [l.2.1, r.2.1]
  have hu : ∀ D : List U, ∀ s ∈ stR (D.map uop), s.Ok := fun D => stR_ok (fun o ho => by obtain ⟨u, _, rfl⟩ := List.mem_map.1 ho; exact uop_in u)
  refine jn_eqv (hu _) (hu _) ?_
  rw [l.2.2.1, r.2.2.1]
  have okA := stR_ok iA
  have okB := stR_ok iB
  have okC := stR_ok iC
  obtain ⟨_, _, _, _, n5⟩ := normal_facts okA (stR_bd A).1 (stR_bd A).2
  obtain ⟨_, _, _, m4, m5⟩ := normal_facts okB (stR_bd B).1 (stR_bd B).2
  obtain ⟨_, _, _, o4, _⟩ := normal_facts okC (stR_bd C).1 (stR_bd C).2
  have hAB : tgtU (uw (stR (jn (stR A)))) = baseU (uw (stR (jn (stR B)))) := by rw [tgt_uw, base_uw, n5, m4, a3]
  have hBC : tgtU (uw (stR (jn (stR B)))) = baseU (uw (stR (jn (stR C)))) := by rw [tgt_uw, base_uw, m5, o4, b3]
  have e1 : Eqv (cpW (coR A B).1 C) (cmp (cmp (uw (stR (jn (stR A)))) (uw (stR (jn (stR B))))) (uw (stR (jn (stR C))))) := by
    rw [cpW, x2]
    exact cmp_eqv x3 ⟨rfl, fun _ => rfl⟩ (by rw [tgt_uw, base_uw, x5, o4, b3])
  have e2 : Eqv (cpW A (coR B C).1) (cmp (uw (stR (jn (stR A)))) (cmp (uw (stR (jn (stR B)))) (uw (stR (jn (stR C)))))) := by
    rw [cpW, y2]
    exact cmp_eqv ⟨rfl, fun _ => rfl⟩ y3 (by rw [tgt_uw, base_uw, n5, y4, a3])
  have e3 := cmp_assoc _ _ _ hAB hBC
  exact ⟨e1.1.trans (e3.1.trans e2.1.symm), fun i => (e1.2 i).trans ((e3.2 i).trans (e2.2 i).symm)⟩
end Go.Proofs.Ytphbjbigjpfjfaa

/-
  What is composed does what the two do: on code points. No walk.
-/
namespace Go.Proofs.Ytphbjbigjpfjfaa
open Go.RowKit Go.PlainAid

theorem apM_len (zs : List Int) (m : List (Nat ⊕ Int)) : (apM zs m).length = m.length := by simp [apM]
theorem ap_len {l : List St} {zs : List Int} (h : bsum l ≤ zs.length) : (apRun zs l).length = tsum l := by
  have e := apRun_marks l zs 0 (by omega)
  rw [List.drop_zero] at e
  rw [e, apM_len, tgt_targ, tgt_uw]
theorem ap_cmp {a b l : List St} {zs : List Int} (h : Eqv (uw l) (cmp (uw a) (uw b))) (ht : tsum a = bsum b) (hb : bsum a ≤ zs.length) (hl : bsum l ≤ zs.length) : apRun zs l = apRun (apRun zs a) b := by
  have hw : tgtU (uw a) = baseU (uw b) := by rw [tgt_uw, base_uw, ht]
  have e1 := apRun_marks l zs 0 (by omega)
  have e2 := apRun_marks a zs 0 (by omega)
  have e3 := apRun_marks b (apRun zs a) 0 (by rw [ap_len hb, ht]; omega)
  rw [List.drop_zero] at e1 e2 e3
  rw [e1, e3, h.2, cmp_marks _ _ 0 hw]
  simp only [apM, List.map_map]
  refine List.map_congr_left (fun m hm => ?_)
  cases m with
  | inr z => rfl
  | inl j =>
    have hj := marks_lt _ 0 j hm
    have hlj : j < (mkU 0 (uw a)).length := by rw [tgt_targ]; omega
    rw [e2]
    simp [apM, sub, List.getD_eq_getElem?_getD, List.getElem?_eq_getElem hlj]
end Go.Proofs.Ytphbjbigjpfjfaa

/-
  What is composed does what the two do. No walk.
-/
namespace Go.Proofs.Ytphbjbigjpfjfaa
open Go.RowKit Go.PlainAid

theorem apR_zero {s : ByteArray} {A : List OpD} (h : (apR s A).2 = 0) : 0 ≤ cpl s ∧ chk A = 0 ∧ (bsum (stR A) : Int) = cpl s ∧ (apR s A).1 = mk (enc (apRun (pts s) (stR A))) := by
  rw [apR] at h ⊢
  split at h
  · simp at h
  · rename_i c1
    split at h
    · rename_i c2; exact absurd h c2
    · rename_i c2
      split at h
      · simp at h
      · rename_i c3
        rw [if_neg c1, if_neg c2, if_neg c3]
        exact ⟨by omega, by simpa using c2, by simpa using c3, rfl⟩
theorem apR_of {s : ByteArray} {A : List OpD} (h0 : 0 ≤ cpl s) (h1 : chk A = 0) (h2 : (bsum (stR A) : Int) = cpl s) : apR s A = (mk (enc (apRun (pts s) (stR A))), 0) := by
  rw [apR, if_neg (by omega), if_neg (by simpa using h1), if_neg (by simpa using h2)]

theorem does {A B : List OpD} (iA : ∀ o ∈ A, o.In) (iB : ∀ o ∈ B, o.In) {s : ByteArray} (h : (apR s A).2 = 0) :
    ((apR (apR s A).1 B).2 ≠ 0 → (coR A B).2 ≠ 0) ∧ ((apR (apR s A).1 B).2 = 0 → (coR A B).2 = 0 ∧ apR s (coR A B).1 = apR (apR s A).1 B) := by
  obtain ⟨s0, s1, s2, s3⟩ := apR_zero h
  have okA := stR_ok iA
  have okB := stR_ok iB
  have hps := pts_len (t := s) s0
  have hle : bsum (stR A) ≤ (pts s).length := by omega
  have hpo := apRun_ok (stR A) (pts s) okA (pts_ok s0)
  have hce := cpl_enc hpo
  have hal := ap_len hle
  have ht : cpl (apR s A).1 = (tsum (stR A) : Int) := by rw [s3, hce.1, hal]
  have hpt : pts (apR s A).1 = apRun (pts s) (stR A) := by rw [s3, hce.2]
  refine ⟨fun hn hz => ?_, fun hz => ?_⟩
  · obtain ⟨_, c2, c3⟩ := coR_zero hz
    exact hn (by rw [apR_of (by omega) c2 (by rw [ht, c3])])
  · obtain ⟨t0, t1, t2, t3⟩ := apR_zero hz
    have ct : tsum (stR A) = bsum (stR B) := by rw [ht] at t2; omega
    have hco := (coR_ok iA iB s1 t1 ct).1
    obtain ⟨x0, x1, x2, x3, x4, x5⟩ := co_facts iA iB hco
    refine ⟨hco, ?_⟩
    rw [apR_of s0 x1 (by rw [x4, s2]), apR_of t0 t1 t2, hpt]
    obtain ⟨_, _, n3, _, n5⟩ := normal_facts okA (stR_bd A).1 (stR_bd A).2
    obtain ⟨_, _, m3, m4, _⟩ := normal_facts okB (stR_bd B).1 (stR_bd B).2
    have he : Eqv (cpW A B) (cmp (uw (stR A)) (uw (stR B))) := cmp_eqv n3 m3 (by rw [tgt_uw, base_uw, n5, m4, ct])
    rw [ap_cmp (x3.trans he) ct hle (by rw [x4]; exact hle)]
end Go.Proofs.Ytphbjbigjpfjfaa

/-
  What undoes a delta, as a word: done it gives the text again, undone it is the delta. No walk.
-/
namespace Go.Proofs.Ytphbjbigjpfjfaa
open Go.RowKit Go.PlainAid

/-- What undoes a word of code points. -/
def invU : List Int → List U → List U
  | _, [] => []
  | zs, .K :: l => .K :: invU zs.tail l
  | zs, .R :: l => .I (zs.headD 0) :: invU zs.tail l
  | zs, .I _ :: l => .R :: invU zs l
/-- What a word gives of code points. -/
def giv : List Int → List U → List Int
  | _, [] => []
  | zs, .K :: l => zs.headD 0 :: giv zs.tail l
  | zs, .R :: l => giv zs.tail l
  | zs, .I z :: l => z :: giv zs l
theorem inv_inv : ∀ (l : List U) (zs : List Int), invU (giv zs l) (invU zs l) = l
  | [], _ => rfl
  | .K :: l, zs => by simp only [invU, giv, List.tail_cons]; rw [inv_inv l]
  | .R :: l, zs => by simp only [invU, giv]; rw [inv_inv l]
  | .I z :: l, zs => by simp only [invU, giv, List.tail_cons, List.headD_cons]; rw [inv_inv l]
theorem giv_inv : ∀ (l : List U) (zs : List Int), baseU l = zs.length → giv (giv zs l) (invU zs l) = zs
  | [], zs, h => by
    have : zs = [] := List.eq_nil_of_length_eq_zero (by simpa [baseU] using h.symm)
    subst this; rfl
  | .K :: l, [], h => by simp [baseU] at h
  | .K :: l, z :: zs, h => by
    simp only [baseU, List.length_cons] at h
    simp only [invU, giv, List.tail_cons, List.headD_cons]
    rw [giv_inv l zs (by omega)]
  | .R :: l, [], h => by simp [baseU] at h
  | .R :: l, z :: zs, h => by
    simp only [baseU, List.length_cons] at h
    simp only [invU, giv, List.tail_cons, List.headD_cons]
    rw [giv_inv l zs (by omega)]
  | .I z :: l, zs, h => by
    simp only [baseU] at h
    simp only [invU, giv, List.tail_cons]
    rw [giv_inv l zs h]
theorem inv_base : ∀ (l : List U) (zs : List Int), baseU (invU zs l) = tgtU l
  | [], _ => rfl
  | .K :: l, zs => by simp only [invU, baseU, tgtU]; rw [inv_base l]; omega
  | .R :: l, zs => by simp only [invU, baseU, tgtU]; rw [inv_base l]
  | .I z :: l, zs => by simp only [invU, baseU, tgtU]; rw [inv_base l]; omega
theorem inv_tgt : ∀ (l : List U) (zs : List Int), tgtU (invU zs l) = baseU l
  | [], _ => rfl
  | .K :: l, zs => by simp only [invU, baseU, tgtU]; rw [inv_tgt l]; omega
  | .R :: l, zs => by simp only [invU, baseU, tgtU]; rw [inv_tgt l]; omega
  | .I z :: l, zs => by simp only [invU, baseU, tgtU]; rw [inv_tgt l]
theorem giv_len : ∀ (l : List U) (zs : List Int), (giv zs l).length = tgtU l
  | [], _ => rfl
  | .K :: l, zs => by simp only [giv, tgtU, List.length_cons]; rw [giv_len l]
  | .R :: l, zs => by simp only [giv, tgtU]; rw [giv_len l]
  | .I z :: l, zs => by simp only [giv, tgtU, List.length_cons]; rw [giv_len l]

/-- What is given hangs only on the marks. -/
theorem giv_marks : ∀ (l : List U) (zs : List Int) (a : Nat), a + baseU l ≤ zs.length → giv (zs.drop a) l = apM zs (mkU a l)
  | [], _, _, _ => rfl
  | .K :: l, zs, a, h => by
    simp only [baseU] at h
    have ih := giv_marks l zs (a + 1) (by omega)
    have e : (zs.drop a).tail = zs.drop (a + 1) := by rw [List.tail_drop]
    have e2 : (zs.drop a).headD 0 = zs.getD a 0 := by
      rw [List.drop_eq_getElem_cons (show a < zs.length by omega), List.headD_cons, List.getD_eq_getElem?_getD, List.getElem?_eq_getElem (show a < zs.length by omega)]; rfl
    simp only [giv, mkU, apM, List.map_cons]
    rw [e, e2, ih]; rfl
  | .R :: l, zs, a, h => by
    simp only [baseU] at h
    have ih := giv_marks l zs (a + 1) (by omega)
    simp only [giv, mkU]
    rw [List.tail_drop, ih]
  | .I z :: l, zs, a, h => by
    simp only [baseU] at h
    have ih := giv_marks l zs a h
    simp only [giv, mkU, apM, List.map_cons]
    rw [ih]; rfl
theorem giv_run {l : List St} {zs : List Int} (h : bsum l ≤ zs.length) : apRun zs l = giv zs (uw l) := by
  have e1 := apRun_marks l zs 0 (by omega)
  have e2 := giv_marks (uw l) zs 0 (by rw [base_uw]; omega)
  rw [List.drop_zero] at e1 e2
  rw [e1, e2]

/-- The marks of what undoes, out of the marks. -/
def mkI (zs : List Int) (n : Nat) : Nat → Nat → List (Nat ⊕ Int) → List (Nat ⊕ Int)
  | i, _, [] => ((zs.drop i).take (n - i)).map .inr
  | i, j, .inr _ :: m => mkI zs n i (j + 1) m
  | i, j, .inl p :: m => ((zs.drop i).take (p - i)).map .inr ++ (.inl j :: mkI zs n (p + 1) (j + 1) m)
theorem take_one {zs : List Int} {i q : Nat} (hi : i < zs.length) (hq : i < q) : (zs.drop i).take (q - i) = zs[i] :: (zs.drop (i + 1)).take (q - (i + 1)) := by
  rw [List.drop_eq_getElem_cons hi, show q - i = (q - (i + 1)) + 1 by omega, List.take_succ_cons]
theorem mkI_one {zs : List Int} {n i : Nat} (hi : i < zs.length) (hn : i < n) : ∀ (m : List (Nat ⊕ Int)) (j : Nat), (∀ p, Sum.inl p ∈ m → i < p) → mkI zs n i j m = .inr zs[i] :: mkI zs n (i + 1) j m
  | [], j, _ => by simp only [mkI]; rw [take_one hi hn]; rfl
  | .inr z :: m, j, h => by simp only [mkI]; exact mkI_one hi hn m (j + 1) (fun p hp => h p (by simp [hp]))
  | .inl p :: m, j, h => by
    have hp := h p (by simp)
    simp only [mkI]
    rw [take_one hi hp]; rfl
theorem marks_ge : ∀ (l : List U) (k j : Nat), Sum.inl j ∈ mkU k l → k ≤ j
  | [], _, _, h => by simp [mkU] at h
  | .K :: l, k, j, h => by
    simp only [mkU, List.mem_cons] at h
    rcases h with h | h
    · cases h; omega
    · have := marks_ge l _ _ h; omega
  | .R :: l, k, j, h => by have := marks_ge l _ _ (by simpa [mkU] using h); omega
  | .I z :: l, k, j, h => by
    simp only [mkU, List.mem_cons, reduceCtorEq, false_or] at h
    exact marks_ge l _ _ h
theorem inv_marks : ∀ (l : List U) (zs : List Int) (n i j : Nat), i + baseU l = n → n ≤ zs.length → mkU j (invU (zs.drop i) l) = mkI zs n i j (mkU i l)
  | [], zs, n, i, j, h, hn => by
    simp only [baseU] at h
    simp [invU, mkU, mkI, show n - i = 0 by omega]
  | .K :: l, zs, n, i, j, h, hn => by
    simp only [baseU] at h
    have ih := inv_marks l zs n (i + 1) (j + 1) (by omega) hn
    simp only [invU, mkU, mkI]
    rw [List.tail_drop, ih]
    simp
  | .R :: l, zs, n, i, j, h, hn => by
    simp only [baseU] at h
    have ih := inv_marks l zs n (i + 1) j (by omega) hn
    have hi : i < zs.length := by omega
    simp only [invU, mkU]
    rw [List.tail_drop, ih, mkI_one hi (by omega) _ _ (fun p hp => by have := marks_ge l _ _ hp; omega), List.drop_eq_getElem_cons hi, List.headD_cons]
  | .I z :: l, zs, n, i, j, h, hn => by
    simp only [baseU] at h
    have ih := inv_marks l zs n i (j + 1) h hn
    simp only [invU, mkU, mkI]
    exact ih
/-- What undoes hangs only on the marks. -/
theorem inv_eqv {a b : List U} {zs : List Int} (h : Eqv a b) (hb : baseU a = zs.length) : Eqv (invU zs a) (invU zs b) := by
  refine ⟨by rw [inv_base, inv_base, eqv_tgt h], fun j => ?_⟩
  have e1 := inv_marks a zs zs.length 0 j (by omega) (Nat.le_refl _)
  have e2 := inv_marks b zs zs.length 0 j (by rw [← h.1]; omega) (Nat.le_refl _)
  rw [List.drop_zero] at e1 e2
  rw [e1, e2, h.2]

/-! ### The operations -/

theorem inv_Ks : ∀ (n : Nat) (zs : List Int) (l : List U), invU zs (List.replicate n .K ++ l) = List.replicate n .K ++ invU (zs.drop n) l
  | 0, zs, l => by simp
  | n + 1, zs, l => by rw [List.replicate_succ, List.cons_append, invU, inv_Ks n, List.cons_append, ← List.drop_one, List.drop_drop, Nat.add_comm 1 n]
theorem inv_Rs : ∀ (n : Nat) (zs : List Int) (l : List U), n ≤ zs.length → invU zs (List.replicate n .R ++ l) = (zs.take n).map .I ++ invU (zs.drop n) l
  | 0, zs, l, _ => by simp
  | n + 1, [], l, h => by simp at h
  | n + 1, z :: zs, l, h => by
    rw [List.replicate_succ, List.cons_append, invU, List.tail_cons, inv_Rs n zs l (by simpa using h)]
    simp
theorem inv_Is : ∀ (p : List Int) (zs : List Int) (l : List U), invU zs (p.map .I ++ l) = List.replicate p.length .R ++ invU zs l
  | [], zs, l => by simp
  | z :: p, zs, l => by rw [List.map_cons, List.cons_append, invU, inv_Is p, List.length_cons, List.replicate_succ, List.cons_append]
/-- What undoes steps, as point steps. -/
def invP : List Int → List St → List PS
  | _, [] => []
  | zs, .keep n :: l => .keep n :: invP (zs.drop n) l
  | zs, .rem n :: l => .ins (zs.take n) :: invP (zs.drop n) l
  | zs, .ins t :: l => .rem (pts t).length :: invP zs l
theorem invP_facts : ∀ (l : List St) (zs : List Int), (∀ s ∈ l, s.Ok) → bsum l = zs.length → (∀ z ∈ zs, szI z ≠ 0) → (invP zs l).map PS.op = invO zs l ∧ pw (invP zs l) = invU zs (uw l) ∧ ∀ s ∈ invP zs l, s.Ok
  | [], zs, _, _, _ => ⟨rfl, rfl, by simp [invP]⟩
  | .keep n :: l, zs, ho, hb, hz => by
    have hs := ho (.keep n) (by simp)
    have e1 : bsum (.keep n :: l) = n + bsum l := by simp [bsum, St.b]
    rw [e1] at hb
    obtain ⟨i1, i2, i3⟩ := invP_facts l (zs.drop n) (fun s h => ho s (by simp [h])) (by rw [List.length_drop]; omega) (fun z h => hz z (List.mem_of_mem_drop h))
    refine ⟨by rw [invP, invO, List.map_cons, i1]; rfl, ?_, ?_⟩
    · rw [invP, pw_cons, i2, uw_cons]
      exact (inv_Ks n zs (uw l)).symm
    · rw [invP]
      intro s h
      rcases List.mem_cons.1 h with rfl | h
      · exact hs.1
      · exact i3 s h
  | .rem n :: l, zs, ho, hb, hz => by
    have hs := ho (.rem n) (by simp)
    have e1 : bsum (.rem n :: l) = n + bsum l := by simp [bsum, St.b]
    rw [e1] at hb
    obtain ⟨i1, i2, i3⟩ := invP_facts l (zs.drop n) (fun s h => ho s (by simp [h])) (by rw [List.length_drop]; omega) (fun z h => hz z (List.mem_of_mem_drop h))
    refine ⟨by rw [invP, invO, List.map_cons, i1]; rfl, ?_, ?_⟩
    · rw [invP, pw_cons, i2, uw_cons]
      exact (inv_Rs n zs (uw l) (by omega)).symm
    · rw [invP]
      intro s h
      rcases List.mem_cons.1 h with rfl | h
      · exact ⟨by rw [List.length_take]; have := hs.1; omega, fun z h => hz z (List.mem_of_mem_take h)⟩
      · exact i3 s h
  | .ins t :: l, zs, ho, hb, hz => by
    have hs := ho (.ins t) (by simp)
    have h0 : 0 < cpl t := hs.1
    have e1 : bsum (.ins t :: l) = bsum l := by simp [bsum, St.b]
    rw [e1] at hb
    have hp := pts_len (t := t) (by omega)
    obtain ⟨i1, i2, i3⟩ := invP_facts l zs (fun s h => ho s (by simp [h])) hb hz
    refine ⟨?_, ?_, ?_⟩
    · rw [invP, invO, List.map_cons, i1]
      have : (PS.rem (pts t).length).op = ⟨3, cpl t, ⟨#[]⟩⟩ := by
        show (⟨3, ((pts t).length : Nat), ⟨#[]⟩⟩ : OpD) = _
        rw [hp]
      rw [this]
    · rw [invP, pw_cons, i2, uw_cons]
      exact (inv_Is (pts t) zs (uw l)).symm
    · rw [invP]
      intro s h
      rcases List.mem_cons.1 h with rfl | h
      · show 0 < (pts t).length; omega
      · exact i3 s h

/-- What Invert gives of what may be done. -/
theorem in_facts {s : ByteArray} {D : List OpD} (iD : ∀ o ∈ D, o.In) (h : (apR s D).2 = 0) :
    (inR s D).2 = 0 ∧ (∀ o ∈ (inR s D).1, o.In) ∧ chk (inR s D).1 = 0 ∧ Eqv (uw (stR (inR s D).1)) (invU (pts s) (uw (stR D))) ∧ bsum (stR (inR s D).1) = tsum (stR D) ∧ (inR s D).1 = jn (stR (invO (pts s) (stR D))) ∧ uw (stR (invO (pts s) (stR D))) = invU (pts s) (uw (stR D)) := by
  obtain ⟨s0, s1, s2⟩ := apR_zero' h
  have hps := pts_len (t := s) s0
  have ho := stR_ok iD
  have bd := stR_bd D
  have hbs : bsum (stR D) = (pts s).length := by omega
  obtain ⟨f1, f2, f3⟩ := invP_facts (stR D) (pts s) ho hbs (pts_ok s0)
  have b1 : baseU (pw (invP (pts s) (stR D))) = tsum (stR D) := by rw [f2, inv_base, tgt_uw]
  have t1 : targU (pw (invP (pts s) (stR D))) = bsum (stR D) := by rw [targU, tgt_targ, f2, inv_tgt, base_uw]
  obtain ⟨c1, c2⟩ := chk_ps f3 (by omega) (by omega)
  rw [f1] at c1 c2
  have e : inR s D = (jn (stR (invO (pts s) (stR D))), 0) := by rw [inR, if_pos h, c1]
  have hin := invO_in (stR D) (pts s) (by omega)
  have hok := stR_ok hin
  have bd2 := stR_bd (invO (pts s) (stR D))
  obtain ⟨n1, n2, n3, n4, n5⟩ := normal_facts hok bd2.1 bd2.2
  have hw : uw (stR (invO (pts s) (stR D))) = invU (pts s) (uw (stR D)) := by rw [c2, uw_st f3, f2]
  rw [e]
  refine ⟨rfl, (jn_in hok bd2.1 bd2.2).2, n1, ?_, ?_, rfl, hw⟩
  · rw [hw] at n3; exact n3
  · rw [n4, ← base_uw, hw, inv_base, tgt_uw]

/-- Done, undone; undone twice. -/
theorem undoes {s : ByteArray} {D : List OpD} (iD : ∀ o ∈ D, o.In) (h : (apR s D).2 = 0) :
    (inR s D).2 = 0 ∧ apR (apR s D).1 (inR s D).1 = (s, 0) ∧ inR (apR s D).1 (inR s D).1 = (jn (stR D), 0) := by
  obtain ⟨v1, v2, v3, v4, v5, v6, v7⟩ := in_facts iD h
  obtain ⟨s0, s1, s2, s3⟩ := apR_zero h
  have ho := stR_ok iD
  have hps := pts_len (t := s) s0
  have bd := stR_bd D
  have hpo := apRun_ok (stR D) (pts s) ho (pts_ok s0)
  have hce := cpl_enc hpo
  have hg : apRun (pts s) (stR D) = giv (pts s) (uw (stR D)) := giv_run (by omega)
  have hct : cpl (apR s D).1 = (tsum (stR D) : Int) := by rw [s3, hce.1, ap_len (by omega)]
  have hpt : pts (apR s D).1 = giv (pts s) (uw (stR D)) := by rw [s3, hce.2, hg]
  have hbu : baseU (uw (stR D)) = (pts s).length := by rw [base_uw]; omega
  have hlen : (giv (pts s) (uw (stR D))).length = tsum (stR D) := by rw [giv_len, tgt_uw]
  have hback : (apR (apR s D).1 (inR s D).1).2 = 0 ∧ (apR (apR s D).1 (inR s D).1) = (s, 0) := by
    have e := apR_of (s := (apR s D).1) (A := (inR s D).1) (by omega) v3 (by rw [v5, hct])
    have e2 : apRun (giv (pts s) (uw (stR D))) (stR (inR s D).1) = pts s := by
      rw [giv_run (by rw [v5, hlen]; omega)]
      have g1 := giv_marks (uw (stR (inR s D).1)) (giv (pts s) (uw (stR D))) 0 (by rw [base_uw, v5, hlen]; omega)
      have g2 := giv_marks (invU (pts s) (uw (stR D))) (giv (pts s) (uw (stR D))) 0 (by rw [inv_base, tgt_uw, hlen]; omega)
      rw [List.drop_zero] at g1 g2
      rw [g1, v4.2, ← g2, giv_inv _ _ hbu]
    rw [hpt, e2] at e
    have e3 : mk (enc (pts s)) = s := (whole_eq (cpl_valid s0)).1
    rw [e3] at e
    exact ⟨by rw [e], e⟩
  refine ⟨v1, hback.2, ?_⟩
  obtain ⟨w1, w2, w3, w4, w5, w6, w7⟩ := in_facts v2 hback.1
  have hr : (inR (apR s D).1 (inR s D).1).1 = jn (stR D) := by
    rw [w6]
    refine jn_eqv (stR_ok (invO_in _ _ ?_)) ho ?_
    · rw [hpt, hlen]; omega
    · rw [w7, hpt]
      have q1 := inv_eqv (zs := giv (pts s) (uw (stR D))) v4 (by rw [base_uw, v5, hlen])
      rw [inv_inv] at q1
      exact q1
  exact Prod.ext hr w1
end Go.Proofs.Ytphbjbigjpfjfaa
