/-
  The marks of a and then b are b's, with a's in the places of those that b keeps. No walk.
-/
import Derived.Test.YtphbjbigjpfjfaaOtH
import Derived.Test.YtphbjbigjpfjfaaOtK
import Derived.Test.YtphbjbigjpfjfaaOtZ
import Derived.Test.YtphbjbigjpfjfaaOtX
import Derived.Test.YtphbjbigjpfjfaaRtF
namespace Go.Proofs.Ytphbjbigjpfjfaa
open Go.RowKit Go.PlainAid

/-- What b makes of a row of marks. -/
def sb : List (Nat ⊕ Int) → List U → List (Nat ⊕ Int)
  | _, [] => []
  | ma, .I z :: b => .inr z :: sb ma b
  | m :: ma, .K :: b => m :: sb ma b
  | _ :: ma, .R :: b => sb ma b
  | [], .K :: _ => []
  | [], .R :: _ => []

theorem tgt_marks : ∀ (l : List U) (i : Nat), (mkU i l).length = tgtU l
  | [], _ => rfl
  | .K :: l, i => by rw [mkU, List.length_cons, tgt_marks l]; rfl
  | .R :: l, i => by rw [mkU, tgt_marks l]; rfl
  | .I z :: l, i => by rw [mkU, List.length_cons, tgt_marks l]; rfl

theorem both_nil {x y : List U} (e1 : ∀ a, ¬ x = U.R :: a) (e2 : ∀ z b, x = [] → ¬ y = U.I z :: b) (e3 : ∀ a z b, x = U.K :: a → ¬ y = U.I z :: b) (e4 : ∀ w a z b, x = U.I w :: a → ¬ y = U.I z :: b)
    (e5 : ∀ a b, x = U.K :: a → ¬ y = U.K :: b) (e6 : ∀ z a b, x = U.I z :: a → ¬ y = U.K :: b) (e7 : ∀ a b, x = U.K :: a → ¬ y = U.R :: b) (e8 : ∀ z a b, x = U.I z :: a → ¬ y = U.R :: b) (h : tgtU x = baseU y) : x = [] ∧ y = [] := by
  rcases x with _ | ⟨u, a⟩
  · rcases y with _ | ⟨v, b⟩
    · exact ⟨rfl, rfl⟩
    · cases v with
      | K => simp only [tgtU, baseU] at h; omega
      | R => simp only [tgtU, baseU] at h; omega
      | I z => exact absurd rfl (e2 z b rfl)
  · cases u with
    | R => exact absurd rfl (e1 a)
    | K =>
      rcases y with _ | ⟨v, b⟩
      · simp only [tgtU, baseU] at h; omega
      · cases v with
        | K => exact absurd rfl (e5 a b rfl)
        | R => exact absurd rfl (e7 a b rfl)
        | I z => exact absurd rfl (e3 a z b rfl)
    | I w =>
      rcases y with _ | ⟨v, b⟩
      · simp only [tgtU, baseU] at h; omega
      · cases v with
        | K => exact absurd rfl (e6 w a b rfl)
        | R => exact absurd rfl (e8 w a b rfl)
        | I z => exact absurd rfl (e4 w a z b rfl)

theorem cmp_sb (a b : List U) : ∀ i, tgtU a = baseU b → mkU i (cmp a b) = sb (mkU i a) b := by
  induction a, b using cmp.induct <;> intro i h <;> simp_all [cmp, mkU, sb, tgtU, baseU]
  all_goals first | (rename_i ih; exact ih _ (by omega)) | (rename_i x y e1 e2 e3 e4 e5 e6 e7 e8; obtain ⟨rfl, rfl⟩ := both_nil e1 e2 e3 e4 e5 e6 e7 e8 h; rfl)
theorem cmp_base (a b : List U) : tgtU a = baseU b → baseU (cmp a b) = baseU a := by
  induction a, b using cmp.induct <;> intro h <;> simp_all [cmp, tgtU, baseU]
  all_goals first | (rename_i ih; exact ih (by omega)) | (rename_i x y e1 e2 e3 e4 e5 e6 e7 e8; obtain ⟨rfl, rfl⟩ := both_nil e1 e2 e3 e4 e5 e6 e7 e8 h; rfl)
theorem cmp_tgt (a b : List U) : tgtU a = baseU b → tgtU (cmp a b) = tgtU b := by
  induction a, b using cmp.induct <;> intro h <;> simp_all [cmp, tgtU, baseU]
  all_goals first | (rename_i ih; exact ih (by omega)) | (rename_i x y e1 e2 e3 e4 e5 e6 e7 e8; obtain ⟨rfl, rfl⟩ := both_nil e1 e2 e3 e4 e5 e6 e7 e8 h; rfl)

/-- A mark, with the mark that stands there. -/
def sub (ma : List (Nat ⊕ Int)) : Nat ⊕ Int → Nat ⊕ Int
  | .inl j => ma.getD j (.inr 0)
  | .inr z => .inr z
theorem sb_sub (ma : List (Nat ⊕ Int)) : ∀ (b : List U) (k : Nat), k + baseU b ≤ ma.length → sb (ma.drop k) b = (mkU k b).map (sub ma)
  | [], k, _ => by simp [sb, mkU]
  | .I z :: b, k, h => by
    have := sb_sub ma b k (by simpa [baseU] using h)
    simp [sb, mkU, sub, this]
  | .K :: b, k, h => by
    simp only [baseU] at h
    have := sb_sub ma b (k + 1) (by omega)
    rw [List.drop_eq_getElem_cons (by omega), sb, this, mkU]
    simp [sub, List.getD_eq_getElem?_getD, List.getElem?_eq_getElem (show k < ma.length by omega)]
  | .R :: b, k, h => by
    simp only [baseU] at h
    have := sb_sub ma b (k + 1) (by omega)
    rw [List.drop_eq_getElem_cons (by omega), sb, this, mkU]
/-- The marks of a and then b. -/
theorem cmp_marks (a b : List U) (i : Nat) (h : tgtU a = baseU b) : mkU i (cmp a b) = (mkU 0 b).map (sub (mkU i a)) := by
  rw [cmp_sb a b i h, ← sb_sub (mkU i a) b 0 (by rw [tgt_marks]; omega), List.drop_zero]

theorem marks_lt : ∀ (l : List U) (k j : Nat), Sum.inl j ∈ mkU k l → j < k + baseU l
  | [], _, _, h => by simp [mkU] at h
  | .K :: l, k, j, h => by
    simp only [mkU, List.mem_cons] at h
    rcases h with h | h
    · cases h; simp only [baseU]; omega
    · have := marks_lt l _ _ h; simp only [baseU]; omega
  | .R :: l, k, j, h => by
    have := marks_lt l _ _ (by simpa [mkU] using h); simp only [baseU]; omega
  | .I z :: l, k, j, h => by
    simp only [mkU, List.mem_cons, reduceCtorEq, false_or] at h
    have := marks_lt l _ _ h; simp only [baseU]; omega
/-- From the left or from the right: the same marks, the same base. -/
theorem cmp_assoc (a b c : List U) (h1 : tgtU a = baseU b) (h2 : tgtU b = baseU c) : Eqv (cmp (cmp a b) c) (cmp a (cmp b c)) := by
  have hb1 := cmp_base a b h1
  have hb2 := cmp_base b c h2
  have ht1 := cmp_tgt a b h1
  refine ⟨?_, fun i => ?_⟩
  · rw [cmp_base (cmp a b) c (by rw [ht1, h2]), cmp_base a (cmp b c) (by rw [h1, hb2]), hb1]
  · rw [cmp_marks (cmp a b) c i (by rw [ht1, h2]), cmp_marks a b i h1, cmp_marks a (cmp b c) i (by rw [h1, hb2]), cmp_marks b c 0 h2, List.map_map]
    refine List.map_congr_left (fun m hm => ?_)
    cases m with
    | inr z => rfl
    | inl j =>
      have hj := marks_lt c 0 j hm
      have hl : j < (mkU 0 b).length := by rw [tgt_marks]; omega
      simp only [Function.comp, sub, List.getD_eq_getElem?_getD, List.getElem?_map, List.getElem?_eq_getElem hl, Option.map_some, Option.getD_some]
end Go.Proofs.Ytphbjbigjpfjfaa

/-
  What Compose gives, as a word. No walk.
-/
namespace Go.Proofs.Ytphbjbigjpfjfaa
open Go.RowKit Go.PlainAid

def psU : U → PS
  | .K => .keep 1
  | .R => .rem 1
  | .I z => .ins [z]
theorem uop_ps (u : U) : uop u = (psU u).op := by
  cases u with
  | K => rfl
  | R => rfl
  | I z => simp [uop, psU, PS.op, PS.st, St.op, enc]
theorem pw_psU : ∀ C : List U, pw (C.map psU) = C
  | [] => rfl
  | u :: C => by
    rw [List.map_cons, pw_cons, pw_psU C]
    cases u <;> rfl
theorem pts_cmp (a b : List U) : PtsU a → PtsU b → PtsU (cmp a b) := by
  induction a, b using cmp.induct <;> intro ha hb <;> simp_all [cmp, PtsU]
theorem psU_ok {C : List U} (h : PtsU C) : ∀ s ∈ C.map psU, s.Ok := by
  intro s hs
  obtain ⟨u, hu, rfl⟩ := List.mem_map.1 hs
  cases u with
  | K => simp [psU, PS.Ok]
  | R => simp [psU, PS.Ok]
  | I z =>
    have hz : szI z ≠ 0 := h z hu
    exact ⟨by simp, fun y hy => by simp at hy; rw [hy]; exact hz⟩
/-- Single operations of a word are a delta, with that word. -/
theorem uops {C : List U} (h : PtsU C) (h1 : baseU C ≤ 1000) (h2 : tgtU C ≤ 1000) : chk (C.map uop) = 0 ∧ uw (stR (C.map uop)) = C := by
  have e : C.map uop = (C.map psU).map PS.op := by rw [List.map_map]; exact List.map_congr_left (fun u _ => uop_ps u)
  have hk := psU_ok h
  have ht : targU C = tgtU C := by rw [targU, tgt_targ]
  have := chk_ps hk (by rw [pw_psU]; exact h1) (by rw [pw_psU, ht]; exact h2)
  rw [e]
  exact ⟨this.1, by rw [this.2, uw_st hk, pw_psU]⟩

/-- Where Compose gives a delta: its error is 0, and its word is a's and then b's. -/
theorem coR_ok {A B : List OpD} (iA : ∀ o ∈ A, o.In) (iB : ∀ o ∈ B, o.In) (c1 : chk A = 0) (c2 : chk B = 0) (ct : tsum (stR A) = bsum (stR B)) :
    (coR A B).2 = 0 ∧ (coR A B).1 = jn (stR ((cpW A B).map uop)) ∧ uw (stR ((cpW A B).map uop)) = cpW A B ∧ baseU (cpW A B) = bsum (stR A) ∧ tgtU (cpW A B) = tsum (stR B) := by
  have okA := stR_ok iA
  have okB := stR_ok iB
  have bdA := stR_bd A
  have bdB := stR_bd B
  obtain ⟨a1, a2, a3, a4, a5⟩ := normal_facts okA bdA.1 bdA.2
  obtain ⟨b1, b2, b3, b4, b5⟩ := normal_facts okB bdB.1 bdB.2
  have jA := jn_in okA bdA.1 bdA.2
  have jB := jn_in okB bdB.1 bdB.2
  have ht : tgtU (uw (stR (jn (stR A)))) = baseU (uw (stR (jn (stR B)))) := by rw [tgt_uw, base_uw, a5, b4, ct]
  have hb : baseU (cpW A B) = bsum (stR A) := by rw [cpW, cmp_base _ _ ht, base_uw, a4]
  have hg : tgtU (cpW A B) = tsum (stR B) := by rw [cpW, cmp_tgt _ _ ht, tgt_uw, b5]
  have hp : PtsU (cpW A B) := pts_cmp _ _ (ptsU_uw (stR_ok jA.2)) (ptsU_uw (stR_ok jB.2))
  obtain ⟨u1, u2⟩ := uops hp (by rw [hb]; exact bdA.1) (by rw [hg]; exact bdB.2)
  have e : coR A B = (jn (stR ((cpW A B).map uop)), chk ((cpW A B).map uop)) := by rw [coR, if_pos c1, if_pos c2, if_pos ct]
  rw [e]
  exact ⟨u1, rfl, u2, hb, hg⟩
end Go.Proofs.Ytphbjbigjpfjfaa

/-
  Three deltas put together from the left or from the right. No walk.
-/
namespace Go.Proofs.Ytphbjbigjpfjfaa
open Go.RowKit Go.PlainAid

theorem eqv_tgt {a b : List U} (h : Eqv a b) : tgtU a = tgtU b := by rw [← tgt_targ a 0, ← tgt_targ b 0, h.2]
theorem cmp_eqv {a a' b b' : List U} (h1 : Eqv a a') (h2 : Eqv b b') (h : tgtU a = baseU b) : Eqv (cmp a b) (cmp a' b') := by
  have h' : tgtU a' = baseU b' := by rw [← eqv_tgt h1, h, h2.1]
  refine ⟨?_, fun i => ?_⟩
  · rw [cmp_base a b h, cmp_base a' b' h', h1.1]
  · rw [cmp_marks a b i h, cmp_marks a' b' i h', h1.2, h2.2]
theorem coR_zero {A B : List OpD} (h : (coR A B).2 = 0) : chk A = 0 ∧ chk B = 0 ∧ tsum (stR A) = bsum (stR B) := by
  rw [coR] at h
  split at h
  · rename_i c1
    split at h
    · rename_i c2
      split at h
      · rename_i c3; exact ⟨c1, c2, c3⟩
      · simp at h
    · rename_i c2; exact absurd h c2
  · rename_i c1; exact absurd h c1

/-- What Compose gave, as one of a pair. -/
theorem co_facts {A B : List OpD} (iA : ∀ o ∈ A, o.In) (iB : ∀ o ∈ B, o.In) (h : (coR A B).2 = 0) :
    (∀ o ∈ (coR A B).1, o.In) ∧ chk (coR A B).1 = 0 ∧ jn (stR (coR A B).1) = (coR A B).1 ∧ Eqv (uw (stR (coR A B).1)) (cpW A B) ∧ bsum (stR (coR A B).1) = bsum (stR A) ∧ tsum (stR (coR A B).1) = tsum (stR B) := by
  obtain ⟨c1, c2, ct⟩ := coR_zero h
  obtain ⟨k1, k2, k3, k4, k5⟩ := coR_ok iA iB c1 c2 ct
  have hok : ∀ s ∈ stR ((cpW A B).map uop), s.Ok := stR_ok (fun o ho => by obtain ⟨u, _, rfl⟩ := List.mem_map.1 ho; exact uop_in u)
  have bd := stR_bd ((cpW A B).map uop)
  obtain ⟨n1, n2, n3, n4, n5⟩ := normal_facts hok bd.1 bd.2
  have hb : bsum (stR ((cpW A B).map uop)) = bsum (stR A) := by rw [← base_uw, k3, k4]
  have ht : tsum (stR ((cpW A B).map uop)) = tsum (stR B) := by rw [← tgt_uw, k3, k5]
  rw [k2]
  refine ⟨(jn_in hok bd.1 bd.2).2, n1, n2, ?_, by rw [n4, hb], by rw [n5, ht]⟩
  rw [k3] at n3
  exact n3

theorem jn_eqv {l l' : List St} (h1 : ∀ s ∈ l, s.Ok) (h2 : ∀ s ∈ l', s.Ok) (h : Eqv (uw l) (uw l')) : jn l = jn l' := by
  rw [jn_eq h1, jn_eq h2, nf_of_marks h.1 (h.2 0)]

theorem joins {A B C : List OpD} (iA : ∀ o ∈ A, o.In) (iB : ∀ o ∈ B, o.In) (iC : ∀ o ∈ C, o.In) (h1 : (coR A B).2 = 0) (h2 : (coR B C).2 = 0) :
    (coR (coR A B).1 C).2 = 0 ∧ (coR A (coR B C).1).2 = 0 ∧ (coR (coR A B).1 C).1 = (coR A (coR B C).1).1 := by
  obtain ⟨a1, a2, a3⟩ := coR_zero h1
  obtain ⟨b1, b2, b3⟩ := coR_zero h2
  obtain ⟨x0, x1, x2, x3, x4, x5⟩ := co_facts iA iB h1
  obtain ⟨y0, y1, y2, y3, y4, y5⟩ := co_facts iB iC h2
  have l := coR_ok x0 iC x1 b2 (by rw [x5, b3])
  have r := coR_ok iA y0 a1 y1 (by rw [a3, y4])
  refine ⟨l.1, r.1, ?_⟩
  rw [l.2.1, r.2.1]
  have hu : ∀ D : List U, ∀ s ∈ stR (D.map uop), s.Ok := fun D => stR_ok (fun o ho => by obtain ⟨u, _, rfl⟩ := List.mem_map.1 ho; exact uop_in u)
  refine jn_eqv (hu _) (hu _) ?_
  rw [l.2.2.1, r.2.2.1]
  have okA := stR_ok iA
  have okB := stR_ok iB
  have okC := stR_ok iC
  obtain ⟨_, _, _, _, n5⟩ := normal_facts okA (stR_bd A).1 (stR_bd A).2
  obtain ⟨_, _, _, m4, m5⟩ := normal_facts okB (stR_bd B).1 (stR_bd B).2
  obtain ⟨_, _, _, o4, _⟩ := normal_facts okC (stR_bd C).1 (stR_bd C).2
  have hAB : tgtU (uw (stR (jn (stR A)))) = baseU (uw (stR (jn (stR B)))) := by rw [tgt_uw, base_uw, n5, m4, a3]
  have hBC : tgtU (uw (stR (jn (stR B)))) = baseU (uw (stR (jn (stR C)))) := by rw [tgt_uw, base_uw, m5, o4, b3]
  have e1 : Eqv (cpW (coR A B).1 C) (cmp (cmp (uw (stR (jn (stR A)))) (uw (stR (jn (stR B))))) (uw (stR (jn (stR C))))) := by
    rw [cpW, x2]
    exact cmp_eqv x3 ⟨rfl, fun _ => rfl⟩ (by rw [tgt_uw, base_uw, x5, o4, b3])
  have e2 : Eqv (cpW A (coR B C).1) (cmp (uw (stR (jn (stR A)))) (cmp (uw (stR (jn (stR B)))) (uw (stR (jn (stR C)))))) := by
    rw [cpW, y2]
    exact cmp_eqv ⟨rfl, fun _ => rfl⟩ y3 (by rw [tgt_uw, base_uw, n5, y4, a3])
  have e3 := cmp_assoc _ _ _ hAB hBC
  exact ⟨e1.1.trans (e3.1.trans e2.1.symm), fun i => (e1.2 i).trans ((e3.2 i).trans (e2.2 i).symm)⟩
end Go.Proofs.Ytphbjbigjpfjfaa

/-
  What is composed does what the two do: on code points. No walk.
-/
namespace Go.Proofs.Ytphbjbigjpfjfaa
open Go.RowKit Go.PlainAid

theorem apM_len (zs : List Int) (m : List (Nat ⊕ Int)) : (apM zs m).length = m.length := by simp [apM]
theorem ap_len {l : List St} {zs : List Int} (h : bsum l ≤ zs.length) : (apRun zs l).length = tsum l := by
  have e := apRun_marks l zs 0 (by omega)
  rw [List.drop_zero] at e
  rw [e, apM_len, tgt_targ, tgt_uw]
theorem ap_cmp {a b l : List St} {zs : List Int} (h : Eqv (uw l) (cmp (uw a) (uw b))) (ht : tsum a = bsum b) (hb : bsum a ≤ zs.length) (hl : bsum l ≤ zs.length) : apRun zs l = apRun (apRun zs a) b := by
  have hw : tgtU (uw a) = baseU (uw b) := by rw [tgt_uw, base_uw, ht]
  have e1 := apRun_marks l zs 0 (by omega)
  have e2 := apRun_marks a zs 0 (by omega)
  have e3 := apRun_marks b (apRun zs a) 0 (by rw [ap_len hb, ht]; omega)
  rw [List.drop_zero] at e1 e2 e3
  rw [e1, e3, h.2, cmp_marks _ _ 0 hw]
  simp only [apM, List.map_map]
  refine List.map_congr_left (fun m hm => ?_)
  cases m with
  | inr z => rfl
  | inl j =>
    have hj := marks_lt _ 0 j hm
    have hlj : j < (mkU 0 (uw a)).length := by rw [tgt_targ]; omega
    rw [e2]
    simp [apM, sub, List.getD_eq_getElem?_getD, List.getElem?_eq_getElem hlj]
end Go.Proofs.Ytphbjbigjpfjfaa

/-
  What is composed does what the two do. No walk.
-/
namespace Go.Proofs.Ytphbjbigjpfjfaa
open Go.RowKit Go.PlainAid

theorem apR_zero {s : ByteArray} {A : List OpD} (h : (apR s A).2 = 0) : 0 ≤ cpl s ∧ chk A = 0 ∧ (bsum (stR A) : Int) = cpl s ∧ (apR s A).1 = mk (enc (apRun (pts s) (stR A))) := by
  rw [apR] at h ⊢
  split at h
  · simp at h
  · rename_i c1
    split at h
    · rename_i c2; exact absurd h c2
    · rename_i c2
      split at h
      · simp at h
      · rename_i c3
        rw [if_neg c1, if_neg c2, if_neg c3]
        exact ⟨by omega, by simpa using c2, by simpa using c3, rfl⟩
theorem apR_of {s : ByteArray} {A : List OpD} (h0 : 0 ≤ cpl s) (h1 : chk A = 0) (h2 : (bsum (stR A) : Int) = cpl s) : apR s A = (mk (enc (apRun (pts s) (stR A))), 0) := by
  rw [apR, if_neg (by omega), if_neg (by simpa using h1), if_neg (by simpa using h2)]

theorem does {A B : List OpD} (iA : ∀ o ∈ A, o.In) (iB : ∀ o ∈ B, o.In) {s : ByteArray} (h : (apR s A).2 = 0) :
    ((apR (apR s A).1 B).2 ≠ 0 → (coR A B).2 ≠ 0) ∧ ((apR (apR s A).1 B).2 = 0 → (coR A B).2 = 0 ∧ apR s (coR A B).1 = apR (apR s A).1 B) := by
  obtain ⟨s0, s1, s2, s3⟩ := apR_zero h
  have okA := stR_ok iA
  have okB := stR_ok iB
  have hps := pts_len (t := s) s0
  have hle : bsum (stR A) ≤ (pts s).length := by omega
  have hpo := apRun_ok (stR A) (pts s) okA (pts_ok s0)
  have hce := cpl_enc hpo
  have hal := ap_len hle
  have ht : cpl (apR s A).1 = (tsum (stR A) : Int) := by rw [s3, hce.1, hal]
  have hpt : pts (apR s A).1 = apRun (pts s) (stR A) := by rw [s3, hce.2]
  refine ⟨fun hn hz => ?_, fun hz => ?_⟩
  · obtain ⟨_, c2, c3⟩ := coR_zero hz
    exact hn (by rw [apR_of (by omega) c2 (by rw [ht, c3])])
  · obtain ⟨t0, t1, t2, t3⟩ := apR_zero hz
    have ct : tsum (stR A) = bsum (stR B) := by rw [ht] at t2; omega
    have hco := (coR_ok iA iB s1 t1 ct).1
    obtain ⟨x0, x1, x2, x3, x4, x5⟩ := co_facts iA iB hco
    refine ⟨hco, ?_⟩
    rw [apR_of s0 x1 (by rw [x4, s2]), apR_of t0 t1 t2, hpt]
    obtain ⟨_, _, n3, _, n5⟩ := normal_facts okA (stR_bd A).1 (stR_bd A).2
    obtain ⟨_, _, m3, m4, _⟩ := normal_facts okB (stR_bd B).1 (stR_bd B).2
    have he : Eqv (cpW A B) (cmp (uw (stR A)) (uw (stR B))) := cmp_eqv n3 m3 (by rw [tgt_uw, base_uw, n5, m4, ct])
    rw [ap_cmp (x3.trans he) ct hle (by rw [x4]; exact hle)]
end Go.Proofs.Ytphbjbigjpfjfaa

/-
  What undoes a delta, as a word: done it gives the text again, undone it is the delta. No walk.
-/
namespace Go.Proofs.Ytphbjbigjpfjfaa
open Go.RowKit Go.PlainAid

/-- What undoes a word of code points. -/
def invU : List Int → List U → List U
  | _, [] => []
  | zs, .K :: l => .K :: invU zs.tail l
  | zs, .R :: l => .I (zs.headD 0) :: invU zs.tail l
  | zs, .I _ :: l => .R :: invU zs l
/-- What a word gives of code points. -/
def giv : List Int → List U → List Int
  | _, [] => []
  | zs, .K :: l => zs.headD 0 :: giv zs.tail l
  | zs, .R :: l => giv zs.tail l
  | zs, .I z :: l => z :: giv zs l
theorem inv_inv : ∀ (l : List U) (zs : List Int), invU (giv zs l) (invU zs l) = l
  | [], _ => rfl
  | .K :: l, zs => by simp only [invU, giv, List.tail_cons]; rw [inv_inv l]
  | .R :: l, zs => by simp only [invU, giv]; rw [inv_inv l]
  | .I z :: l, zs => by simp only [invU, giv, List.tail_cons, List.headD_cons]; rw [inv_inv l]
theorem giv_inv : ∀ (l : List U) (zs : List Int), baseU l = zs.length → giv (giv zs l) (invU zs l) = zs
  | [], zs, h => by
    have : zs = [] := List.eq_nil_of_length_eq_zero (by simpa [baseU] using h.symm)
    subst this; rfl
  | .K :: l, [], h => by simp [baseU] at h
  | .K :: l, z :: zs, h => by
    simp only [baseU, List.length_cons] at h
    simp only [invU, giv, List.tail_cons, List.headD_cons]
    rw [giv_inv l zs (by omega)]
  | .R :: l, [], h => by simp [baseU] at h
  | .R :: l, z :: zs, h => by
    simp only [baseU, List.length_cons] at h
    simp only [invU, giv, List.tail_cons, List.headD_cons]
    rw [giv_inv l zs (by omega)]
  | .I z :: l, zs, h => by
    simp only [baseU] at h
    simp only [invU, giv, List.tail_cons]
    rw [giv_inv l zs h]
theorem inv_base : ∀ (l : List U) (zs : List Int), baseU (invU zs l) = tgtU l
  | [], _ => rfl
  | .K :: l, zs => by simp only [invU, baseU, tgtU]; rw [inv_base l]; omega
  | .R :: l, zs => by simp only [invU, baseU, tgtU]; rw [inv_base l]
  | .I z :: l, zs => by simp only [invU, baseU, tgtU]; rw [inv_base l]; omega
theorem inv_tgt : ∀ (l : List U) (zs : List Int), tgtU (invU zs l) = baseU l
  | [], _ => rfl
  | .K :: l, zs => by simp only [invU, baseU, tgtU]; rw [inv_tgt l]; omega
  | .R :: l, zs => by simp only [invU, baseU, tgtU]; rw [inv_tgt l]; omega
  | .I z :: l, zs => by simp only [invU, baseU, tgtU]; rw [inv_tgt l]
theorem giv_len : ∀ (l : List U) (zs : List Int), (giv zs l).length = tgtU l
  | [], _ => rfl
  | .K :: l, zs => by simp only [giv, tgtU, List.length_cons]; rw [giv_len l]
  | .R :: l, zs => by simp only [giv, tgtU]; rw [giv_len l]
  | .I z :: l, zs => by simp only [giv, tgtU, List.length_cons]; rw [giv_len l]

/-- What is given hangs only on the marks. -/
theorem giv_marks : ∀ (l : List U) (zs : List Int) (a : Nat), a + baseU l ≤ zs.length → giv (zs.drop a) l = apM zs (mkU a l)
  | [], _, _, _ => rfl
  | .K :: l, zs, a, h => by
    simp only [baseU] at h
    have ih := giv_marks l zs (a + 1) (by omega)
    have e : (zs.drop a).tail = zs.drop (a + 1) := by rw [List.tail_drop]
    have e2 : (zs.drop a).headD 0 = zs.getD a 0 := by
      rw [List.drop_eq_getElem_cons (show a < zs.length by omega), List.headD_cons, List.getD_eq_getElem?_getD, List.getElem?_eq_getElem (show a < zs.length by omega)]; rfl
    simp only [giv, mkU, apM, List.map_cons]
    rw [e, e2, ih]; rfl
  | .R :: l, zs, a, h => by
    simp only [baseU] at h
    have ih := giv_marks l zs (a + 1) (by omega)
    simp only [giv, mkU]
    rw [List.tail_drop, ih]
  | .I z :: l, zs, a, h => by
    simp only [baseU] at h
    have ih := giv_marks l zs a h
    simp only [giv, mkU, apM, List.map_cons]
    rw [ih]; rfl
theorem giv_run {l : List St} {zs : List Int} (h : bsum l ≤ zs.length) : apRun zs l = giv zs (uw l) := by
  have e1 := apRun_marks l zs 0 (by omega)
  have e2 := giv_marks (uw l) zs 0 (by rw [base_uw]; omega)
  rw [List.drop_zero] at e1 e2
  rw [e1, e2]

/-- The marks of what undoes, out of the marks. -/
def mkI (zs : List Int) (n : Nat) : Nat → Nat → List (Nat ⊕ Int) → List (Nat ⊕ Int)
  | i, _, [] => ((zs.drop i).take (n - i)).map .inr
  | i, j, .inr _ :: m => mkI zs n i (j + 1) m
  | i, j, .inl p :: m => ((zs.drop i).take (p - i)).map .inr ++ (.inl j :: mkI zs n (p + 1) (j + 1) m)
theorem take_one {zs : List Int} {i q : Nat} (hi : i < zs.length) (hq : i < q) : (zs.drop i).take (q - i) = zs[i] :: (zs.drop (i + 1)).take (q - (i + 1)) := by
  rw [List.drop_eq_getElem_cons hi, show q - i = (q - (i + 1)) + 1 by omega, List.take_succ_cons]
theorem mkI_one {zs : List Int} {n i : Nat} (hi : i < zs.length) (hn : i < n) : ∀ (m : List (Nat ⊕ Int)) (j : Nat), (∀ p, Sum.inl p ∈ m → i < p) → mkI zs n i j m = .inr zs[i] :: mkI zs n (i + 1) j m
  | [], j, _ => by simp only [mkI]; rw [take_one hi hn]; rfl
  | .inr z :: m, j, h => by simp only [mkI]; exact mkI_one hi hn m (j + 1) (fun p hp => h p (by simp [hp]))
  | .inl p :: m, j, h => by
    have hp := h p (by simp)
    simp only [mkI]
    rw [take_one hi hp]; rfl
theorem marks_ge : ∀ (l : List U) (k j : Nat), Sum.inl j ∈ mkU k l → k ≤ j
  | [], _, _, h => by simp [mkU] at h
  | .K :: l, k, j, h => by
    simp only [mkU, List.mem_cons] at h
    rcases h with h | h
    · cases h; omega
    · have := marks_ge l _ _ h; omega
  | .R :: l, k, j, h => by have := marks_ge l _ _ (by simpa [mkU] using h); omega
  | .I z :: l, k, j, h => by
    simp only [mkU, List.mem_cons, reduceCtorEq, false_or] at h
    exact marks_ge l _ _ h
theorem inv_marks : ∀ (l : List U) (zs : List Int) (n i j : Nat), i + baseU l = n → n ≤ zs.length → mkU j (invU (zs.drop i) l) = mkI zs n i j (mkU i l)
  | [], zs, n, i, j, h, hn => by
    simp only [baseU] at h
    simp [invU, mkU, mkI, show n - i = 0 by omega]
  | .K :: l, zs, n, i, j, h, hn => by
    simp only [baseU] at h
    have ih := inv_marks l zs n (i + 1) (j + 1) (by omega) hn
    simp only [invU, mkU, mkI]
    rw [List.tail_drop, ih]
    simp
  | .R :: l, zs, n, i, j, h, hn => by
    simp only [baseU] at h
    have ih := inv_marks l zs n (i + 1) j (by omega) hn
    have hi : i < zs.length := by omega
    simp only [invU, mkU]
    rw [List.tail_drop, ih, mkI_one hi (by omega) _ _ (fun p hp => by have := marks_ge l _ _ hp; omega), List.drop_eq_getElem_cons hi, List.headD_cons]
  | .I z :: l, zs, n, i, j, h, hn => by
    simp only [baseU] at h
    have ih := inv_marks l zs n i (j + 1) h hn
    simp only [invU, mkU, mkI]
    exact ih
/-- What undoes hangs only on the marks. -/
theorem inv_eqv {a b : List U} {zs : List Int} (h : Eqv a b) (hb : baseU a = zs.length) : Eqv (invU zs a) (invU zs b) := by
  refine ⟨by rw [inv_base, inv_base, eqv_tgt h], fun j => ?_⟩
  have e1 := inv_marks a zs zs.length 0 j (by omega) (Nat.le_refl _)
  have e2 := inv_marks b zs zs.length 0 j (by rw [← h.1]; omega) (Nat.le_refl _)
  rw [List.drop_zero] at e1 e2
  rw [e1, e2, h.2]

/-! ### The operations -/

theorem inv_Ks : ∀ (n : Nat) (zs : List Int) (l : List U), invU zs (List.replicate n .K ++ l) = List.replicate n .K ++ invU (zs.drop n) l
  | 0, zs, l => by simp
  | n + 1, zs, l => by rw [List.replicate_succ, List.cons_append, invU, inv_Ks n, List.cons_append, ← List.drop_one, List.drop_drop, Nat.add_comm 1 n]
theorem inv_Rs : ∀ (n : Nat) (zs : List Int) (l : List U), n ≤ zs.length → invU zs (List.replicate n .R ++ l) = (zs.take n).map .I ++ invU (zs.drop n) l
  | 0, zs, l, _ => by simp
  | n + 1, [], l, h => by simp at h
  | n + 1, z :: zs, l, h => by
    rw [List.replicate_succ, List.cons_append, invU, List.tail_cons, inv_Rs n zs l (by simpa using h)]
    simp
theorem inv_Is : ∀ (p : List Int) (zs : List Int) (l : List U), invU zs (p.map .I ++ l) = List.replicate p.length .R ++ invU zs l
  | [], zs, l => by simp
  | z :: p, zs, l => by rw [List.map_cons, List.cons_append, invU, inv_Is p, List.length_cons, List.replicate_succ, List.cons_append]
/-- What undoes steps, as point steps. -/
def invP : List Int → List St → List PS
  | _, [] => []
  | zs, .keep n :: l => .keep n :: invP (zs.drop n) l
  | zs, .rem n :: l => .ins (zs.take n) :: invP (zs.drop n) l
  | zs, .ins t :: l => .rem (pts t).length :: invP zs l
theorem invP_facts : ∀ (l : List St) (zs : List Int), (∀ s ∈ l, s.Ok) → bsum l = zs.length → (∀ z ∈ zs, szI z ≠ 0) → (invP zs l).map PS.op = invO zs l ∧ pw (invP zs l) = invU zs (uw l) ∧ ∀ s ∈ invP zs l, s.Ok
  | [], zs, _, _, _ => ⟨rfl, rfl, by simp [invP]⟩
  | .keep n :: l, zs, ho, hb, hz => by
    have hs := ho (.keep n) (by simp)
    have e1 : bsum (.keep n :: l) = n + bsum l := by simp [bsum, St.b]
    rw [e1] at hb
    obtain ⟨i1, i2, i3⟩ := invP_facts l (zs.drop n) (fun s h => ho s (by simp [h])) (by rw [List.length_drop]; omega) (fun z h => hz z (List.mem_of_mem_drop h))
    refine ⟨by rw [invP, invO, List.map_cons, i1]; rfl, ?_, ?_⟩
    · rw [invP, pw_cons, i2, uw_cons]
      exact (inv_Ks n zs (uw l)).symm
    · rw [invP]
      intro s h
      rcases List.mem_cons.1 h with rfl | h
      · exact hs.1
      · exact i3 s h
  | .rem n :: l, zs, ho, hb, hz => by
    have hs := ho (.rem n) (by simp)
    have e1 : bsum (.rem n :: l) = n + bsum l := by simp [bsum, St.b]
    rw [e1] at hb
    obtain ⟨i1, i2, i3⟩ := invP_facts l (zs.drop n) (fun s h => ho s (by simp [h])) (by rw [List.length_drop]; omega) (fun z h => hz z (List.mem_of_mem_drop h))
    refine ⟨by rw [invP, invO, List.map_cons, i1]; rfl, ?_, ?_⟩
    · rw [invP, pw_cons, i2, uw_cons]
      exact (inv_Rs n zs (uw l) (by omega)).symm
    · rw [invP]
      intro s h
      rcases List.mem_cons.1 h with rfl | h
      · exact ⟨by rw [List.length_take]; have := hs.1; omega, fun z h => hz z (List.mem_of_mem_take h)⟩
      · exact i3 s h
  | .ins t :: l, zs, ho, hb, hz => by
    have hs := ho (.ins t) (by simp)
    have h0 : 0 < cpl t := hs.1
    have e1 : bsum (.ins t :: l) = bsum l := by simp [bsum, St.b]
    rw [e1] at hb
    have hp := pts_len (t := t) (by omega)
    obtain ⟨i1, i2, i3⟩ := invP_facts l zs (fun s h => ho s (by simp [h])) hb hz
    refine ⟨?_, ?_, ?_⟩
    · rw [invP, invO, List.map_cons, i1]
      have : (PS.rem (pts t).length).op = ⟨3, cpl t, ⟨#[]⟩⟩ := by
        show (⟨3, ((pts t).length : Nat), ⟨#[]⟩⟩ : OpD) = _
        rw [hp]
      rw [this]
    · rw [invP, pw_cons, i2, uw_cons]
      exact (inv_Is (pts t) zs (uw l)).symm
    · rw [invP]
      intro s h
      rcases List.mem_cons.1 h with rfl | h
      · show 0 < (pts t).length; omega
      · exact i3 s h

/-- What Invert gives of what may be done. -/
theorem in_facts {s : ByteArray} {D : List OpD} (iD : ∀ o ∈ D, o.In) (h : (apR s D).2 = 0) :
    (inR s D).2 = 0 ∧ (∀ o ∈ (inR s D).1, o.In) ∧ chk (inR s D).1 = 0 ∧ Eqv (uw (stR (inR s D).1)) (invU (pts s) (uw (stR D))) ∧ bsum (stR (inR s D).1) = tsum (stR D) ∧ (inR s D).1 = jn (stR (invO (pts s) (stR D))) ∧ uw (stR (invO (pts s) (stR D))) = invU (pts s) (uw (stR D)) := by
  obtain ⟨s0, s1, s2⟩ := apR_zero' h
  have hps := pts_len (t := s) s0
  have ho := stR_ok iD
  have bd := stR_bd D
  have hbs : bsum (stR D) = (pts s).length := by omega
  obtain ⟨f1, f2, f3⟩ := invP_facts (stR D) (pts s) ho hbs (pts_ok s0)
  have b1 : baseU (pw (invP (pts s) (stR D))) = tsum (stR D) := by rw [f2, inv_base, tgt_uw]
  have t1 : targU (pw (invP (pts s) (stR D))) = bsum (stR D) := by rw [targU, tgt_targ, f2, inv_tgt, base_uw]
  obtain ⟨c1, c2⟩ := chk_ps f3 (by omega) (by omega)
  rw [f1] at c1 c2
  have e : inR s D = (jn (stR (invO (pts s) (stR D))), 0) := by rw [inR, if_pos h, c1]
  have hin := invO_in (stR D) (pts s) (by omega)
  have hok := stR_ok hin
  have bd2 := stR_bd (invO (pts s) (stR D))
  obtain ⟨n1, n2, n3, n4, n5⟩ := normal_facts hok bd2.1 bd2.2
  have hw : uw (stR (invO (pts s) (stR D))) = invU (pts s) (uw (stR D)) := by rw [c2, uw_st f3, f2]
  rw [e]
  refine ⟨rfl, (jn_in hok bd2.1 bd2.2).2, n1, ?_, ?_, rfl, hw⟩
  · rw [hw] at n3; exact n3
  · rw [n4, ← base_uw, hw, inv_base, tgt_uw]

/-- Done, undone; undone twice. -/
theorem undoes {s : ByteArray} {D : List OpD} (iD : ∀ o ∈ D, o.In) (h : (apR s D).2 = 0) :
    (inR s D).2 = 0 ∧ apR (apR s D).1 (inR s D).1 = (s, 0) ∧ inR (apR s D).1 (inR s D).1 = (jn (stR D), 0) := by
  obtain ⟨v1, v2, v3, v4, v5, v6, v7⟩ := in_facts iD h
  obtain ⟨s0, s1, s2, s3⟩ := apR_zero h
  have ho := stR_ok iD
  have hps := pts_len (t := s) s0
  have bd := stR_bd D
  have hpo := apRun_ok (stR D) (pts s) ho (pts_ok s0)
  have hce := cpl_enc hpo
  have hg : apRun (pts s) (stR D) = giv (pts s) (uw (stR D)) := giv_run (by omega)
  have hct : cpl (apR s D).1 = (tsum (stR D) : Int) := by rw [s3, hce.1, ap_len (by omega)]
  have hpt : pts (apR s D).1 = giv (pts s) (uw (stR D)) := by rw [s3, hce.2, hg]
  have hbu : baseU (uw (stR D)) = (pts s).length := by rw [base_uw]; omega
  have hlen : (giv (pts s) (uw (stR D))).length = tsum (stR D) := by rw [giv_len, tgt_uw]
  have hback : (apR (apR s D).1 (inR s D).1).2 = 0 ∧ (apR (apR s D).1 (inR s D).1) = (s, 0) := by
    have e := apR_of (s := (apR s D).1) (A := (inR s D).1) (by omega) v3 (by rw [v5, hct])
    have e2 : apRun (giv (pts s) (uw (stR D))) (stR (inR s D).1) = pts s := by
      rw [giv_run (by rw [v5, hlen]; omega)]
      have g1 := giv_marks (uw (stR (inR s D).1)) (giv (pts s) (uw (stR D))) 0 (by rw [base_uw, v5, hlen]; omega)
      have g2 := giv_marks (invU (pts s) (uw (stR D))) (giv (pts s) (uw (stR D))) 0 (by rw [inv_base, tgt_uw, hlen]; omega)
      rw [List.drop_zero] at g1 g2
      rw [g1, v4.2, ← g2, giv_inv _ _ hbu]
    rw [hpt, e2] at e
    have e3 : mk (enc (pts s)) = s := (whole_eq (cpl_valid s0)).1
    rw [e3] at e
    exact ⟨by rw [e], e⟩
  refine ⟨v1, hback.2, ?_⟩
  obtain ⟨w1, w2, w3, w4, w5, w6, w7⟩ := in_facts v2 hback.1
  have hr : (inR (apR s D).1 (inR s D).1).1 = jn (stR D) := by
    rw [w6]
    refine jn_eqv (stR_ok (invO_in _ _ ?_)) ho ?_
    · rw [hpt, hlen]; omega
    · rw [w7, hpt]
      have q1 := inv_eqv (zs := giv (pts s) (uw (stR D))) v4 (by rw [base_uw, v5, hlen])
      rw [inv_inv] at q1
      exact q1
  exact Prod.ext hr w1
end Go.Proofs.Ytphbjbigjpfjfaa

/-
  A normal delta, place by place, as a word; what transforming makes of words. No walk.
-/
namespace Go.Proofs.Ytphbjbigjpfjfaa
open Go.RowKit Go.PlainAid

/-! ### Places and words -/

def kU (k : Int) : List U := if k = 1 then [.K] else if k = 3 then [.R] else []
def spU (s : Spot) : List U := (pts s.put).map .I ++ kU s.k
def spW (l : List Spot) : List U := (l.map spU).flatten
theorem spW_cons (s : Spot) (l : List Spot) : spW (s :: l) = spU s ++ spW l := by simp [spW]
theorem spW_append (a b : List Spot) : spW (a ++ b) = spW a ++ spW b := by simp [spW]
theorem ptsNil : pts ⟨#[]⟩ = [] := by rw [pts, cpl_nil]; rfl

/-- Nothing put in is behind something put in; b: something was put in right ahead. -/
def alt : Bool → List St → Prop
  | _, [] => True
  | b, .ins _ :: l => b = false ∧ alt true l
  | _, .keep _ :: l => alt false l
  | _, .rem _ :: l => alt false l
theorem spW_reps (k : Int) : ∀ (n : Nat) (p : ByteArray), spW (reps p k (n + 1)) = (pts p).map .I ++ (List.replicate (n + 1) (kU k)).flatten
  | 0, p => by simp [reps, spW, spU]
  | n + 1, p => by
    rw [reps, spW_cons, spW_reps k n, ptsNil, spU]
    simp only [List.map_nil, List.nil_append, List.append_assoc]
    rw [List.replicate_succ (n := n + 1), List.flatten_cons]
theorem flat_K (n : Nat) : (List.replicate n (kU 1)).flatten = List.replicate n .K := by
  induction n with
  | zero => rfl
  | succ n ih => rw [List.replicate_succ, List.flatten_cons, ih, List.replicate_succ]; rfl
theorem flat_R (n : Nat) : (List.replicate n (kU 3)).flatten = List.replicate n .R := by
  induction n with
  | zero => rfl
  | succ n ih => rw [List.replicate_succ, List.flatten_cons, ih, List.replicate_succ]; rfl
/-- The places of a delta in which nothing is put in twice have its word. -/
theorem spots_word : ∀ (ds : List St) (p : ByteArray) (b : Bool), alt b ds → (b = false → pts p = []) → (∀ s ∈ ds, s.Ok) → spW (spots ds p) = (pts p).map .I ++ uw ds
  | [], p, b, _, _, _ => by simp [spots, spW, spU, kU, uw]
  | .ins t :: ds, p, b, h, hp, ho => by
    rw [spots, spots_word ds t true h.2 (by simp) (fun s hs => ho s (by simp [hs])), hp h.1, uw_cons]
    rfl
  | .keep n :: ds, p, b, h, hp, ho => by
    have h1 := (ho (.keep n) (by simp)).1
    obtain ⟨m, rfl⟩ : ∃ m, n = m + 1 := ⟨n - 1, by omega⟩
    rw [spots, spW_append, spots_word ds ⟨#[]⟩ false h (fun _ => ptsNil) (fun s hs => ho s (by simp [hs])), spW_reps, flat_K, ptsNil, uw_cons]
    simp [St.u]
  | .rem n :: ds, p, b, h, hp, ho => by
    have h1 := (ho (.rem n) (by simp)).1
    obtain ⟨m, rfl⟩ : ∃ m, n = m + 1 := ⟨n - 1, by omega⟩
    rw [spots, spW_append, spots_word ds ⟨#[]⟩ false h (fun _ => ptsNil) (fun s hs => ho s (by simp [hs])), spW_reps, flat_R, ptsNil, uw_cons]
    simp [St.u]

/-! ### Normal forms put in nothing twice -/

def altP : Bool → List PS → Prop
  | _, [] => True
  | b, .ins _ :: l => b = false ∧ altP true l
  | _, .keep _ :: l => altP false l
  | _, .rem _ :: l => altP false l
theorem alt_of : ∀ (l : List PS) (b : Bool), altP b l → alt b (l.map PS.st)
  | [], _, _ => trivial
  | .ins _ :: l, _, h => ⟨h.1, alt_of l true h.2⟩
  | .keep _ :: l, _, h => alt_of l false h
  | .rem _ :: l, _, h => alt_of l false h
theorem altP_keep : ∀ (l r : List PS) (n : Nat) (b : Bool), altP b l → altP false r → altP b (l ++ .keep n :: r)
  | [], _, _, _, _, h => h
  | .ins _ :: l, r, n, _, h, k => ⟨h.1, altP_keep l r n true h.2 k⟩
  | .keep _ :: l, r, n, _, h, k => altP_keep l r n false h k
  | .rem _ :: l, r, n, _, h, k => altP_keep l r n false h k
def flushQ (p : List Int) (g : Nat) : List PS := (if 0 < p.length then [.ins p] else []) ++ (if 0 < g then [.rem g] else [])
theorem altP_q (p : List Int) (g : Nat) : altP false (flushQ p g) := by
  unfold flushQ
  by_cases h1 : 0 < p.length <;> by_cases h2 : 0 < g <;> simp [h1, h2, altP]
theorem altP_flush {D : List PS} {k : Nat} (p : List Int) (g : Nat) (h : altP false D) (h2 : D = [] ∨ 0 < k) : altP false (D ++ flushP k p g) := by
  have e : flushP k p g = (if 0 < k then [PS.keep k] else []) ++ flushQ p g := rfl
  rw [e]
  by_cases hk : 0 < k
  · rw [if_pos hk]
    exact altP_keep D _ k false h (altP_q p g)
  · rw [if_neg hk]
    rcases h2 with rfl | h2
    · exact altP_q p g
    · exact absurd h2 hk
theorem altP_ju : ∀ (w : List U) (σ : JU), altP false σ.D → (σ.D = [] ∨ 0 < σ.kept) → altP false (ju σ w).out
  | [], σ, h1, h2 => altP_flush _ _ h1 h2
  | .K :: w, σ, h1, h2 => by
    rw [ju_cons, JU.add]
    split
    · exact altP_ju w _ (altP_flush _ _ h1 h2) (.inr (by simp))
    · exact altP_ju w _ h1 (.inr (by simp))
  | .R :: w, σ, h1, h2 => by rw [ju_cons]; exact altP_ju w _ h1 h2
  | .I z :: w, σ, h1, h2 => by rw [ju_cons]; exact altP_ju w _ h1 h2
theorem alt_nf (w : List U) : alt false ((nfU w).map PS.st) := alt_of _ _ (altP_ju w _ trivial (.inl rfl))

/-- The places of a delta's normal form. -/
def nS (A : List OpD) : List Spot := spots (stR (jn (stR A))) ⟨#[]⟩
theorem stR_jn {A : List OpD} (iA : ∀ o ∈ A, o.In) : stR (jn (stR A)) = (nfU (uw (stR A))).map PS.st ∧ (∀ s ∈ nfU (uw (stR A)), s.Ok) := by
  have ho := stR_ok iA
  have bd := stR_bd A
  have hn := nf_ok (ptsU_uw ho)
  have he := nf_eqv (uw (stR A))
  have hb : baseU (pw (nfU (uw (stR A)))) = bsum (stR A) := by rw [he.1, base_uw]
  have ht : targU (pw (nfU (uw (stR A)))) = tsum (stR A) := by rw [he.targ, targ_uw]
  obtain ⟨_, c2⟩ := chk_ps hn (by omega) (by omega)
  rw [← jn_eq ho] at c2
  exact ⟨c2, hn⟩
/-- Their word, and what stands there. -/
theorem nS_word {A : List OpD} (iA : ∀ o ∈ A, o.In) : spW (nS A) = uw (stR (jn (stR A))) := by
  have bd := stR_bd A
  have jA := jn_in (stR_ok iA) bd.1 bd.2
  rw [nS, spots_word _ _ false (by rw [(stR_jn iA).1]; exact alt_nf _) (fun _ => ptsNil) (stR_ok jA.2), ptsNil]
  rfl
theorem nS_ok {A : List OpD} (iA : ∀ o ∈ A, o.In) : ∀ s ∈ nS A, s.Ok ∧ PutOk s.put := by
  have bd := stR_bd A
  have jA := jn_in (stR_ok iA) bd.1 bd.2
  have n5 := (normal_facts (stR_ok iA) bd.1 bd.2).2.2.2.2
  exact spots_ok _ _ putOk_nil (fun s hs => ⟨stR_ok jA.2 s hs, by have := c_le hs; omega⟩)

/-! ### Kinds -/

/-- Ks of the base, one behind the other, and the end. -/
def Kd : List Spot → Prop
  | [] => False
  | [s] => s.k = 0
  | s :: t :: l => (s.k = 1 ∨ s.k = 3) ∧ Kd (t :: l)
theorem kd_cons {s : Spot} {l : List Spot} (hs : s.k = 1 ∨ s.k = 3) (h : Kd l) : Kd (s :: l) := by
  cases l with
  | nil => exact h.elim
  | cons t l => exact ⟨hs, h⟩
theorem kd_reps {k : Int} (hk : k = 1 ∨ k = 3) : ∀ (n : Nat) (p : ByteArray) (l : List Spot), Kd l → Kd (reps p k n ++ l)
  | 0, _, _, h => h
  | n + 1, _, l, h => kd_cons hk (kd_reps hk n _ l h)
theorem kd_spots : ∀ (ds : List St) (p : ByteArray), Kd (spots ds p)
  | [], _ => rfl
  | .ins t :: ds, _ => kd_spots ds t
  | .keep n :: ds, p => kd_reps (.inl rfl) n p _ (kd_spots ds _)
  | .rem n :: ds, p => kd_reps (.inr rfl) n p _ (kd_spots ds _)
/-- Two rows of places of one base. -/
inductive Al2 : List Spot → List Spot → Prop where
  | last {x y : Spot} (hx : x.k = 0) (hy : y.k = 0) : Al2 [x] [y]
  | more {x y : Spot} {a b : List Spot} (hx : x.k = 1 ∨ x.k = 3) (hy : y.k = 1 ∨ y.k = 3) (h : Al2 a b) : Al2 (x :: a) (y :: b)
theorem al2_of : ∀ (a b : List Spot), Kd a → Kd b → a.length = b.length → Al2 a b
  | [], _, h, _, _ => h.elim
  | _ :: _, [], _, h, _ => h.elim
  | [x], [y], hx, hy, _ => .last hx hy
  | [x], y :: z :: b, _, _, h => by simp at h
  | x :: z :: a, [y], _, _, h => by simp at h
  | x :: z :: a, y :: t :: b, hx, hy, h => .more hx.1 hy.1 (al2_of (z :: a) (t :: b) hx.2 hy.2 (by simpa using h))
theorem Al2.symm {a b : List Spot} (h : Al2 a b) : Al2 b a := by
  induction h with
  | last hx hy => exact .last hy hx
  | more hx hy _ ih => exact .more hy hx ih

/-! ### What transforming makes -/

def outU (first : Bool) (x y : Spot) : List U := (if first then (pts x.put).map .I ++ List.replicate (pts y.put).length .K else List.replicate (pts y.put).length .K ++ (pts x.put).map .I) ++ (if y.k = 1 then kU x.k else [])
def tfU (first : Bool) (SA SB : List Spot) : List U := (List.zipWith (outU first) SA SB).flatten
theorem tfU_cons (f : Bool) (x y : Spot) (a b : List Spot) : tfU f (x :: a) (y :: b) = outU f x y ++ tfU f a b := by simp [tfU]

theorem mkU_Ks (n i : Nat) : mkU i (List.replicate n .K) = (List.range' i n).map .inl := by
  induction n generalizing i with
  | zero => rfl
  | succ n ih => rw [List.replicate_succ, mkU, ih, List.range'_succ, List.map_cons]
theorem base_kU (k : Int) (h : k = 1 ∨ k = 3) : baseU (kU k) = 1 := by rcases h with rfl | rfl <;> rfl
theorem base_spU {s : Spot} (h : s.k = 1 ∨ s.k = 3) : baseU (spU s) = 1 := by rw [spU, baseU_append, baseU_I, base_kU _ h]
theorem base_end {s : Spot} (h : s.k = 0) : baseU (spU s) = 0 := by rw [spU, baseU_append, baseU_I, h]; rfl
/-- The marks of one place. -/
def mkP (i : Nat) (s : Spot) : List (Nat ⊕ Int) := (pts s.put).map .inr ++ (if s.k = 1 then [.inl i] else [])
theorem mkU_spU (i : Nat) (s : Spot) : mkU i (spU s) = mkP i s := by
  rw [spU, mkU_append, mkU_I, baseU_I, mkP]
  congr 1
  unfold kU
  split
  · rfl
  · split <;> rfl
theorem base_outU (f : Bool) (x y : Spot) (hy : y.k = 0 ∨ x.k = 1 ∨ x.k = 3) (i : Nat) : baseU (outU f x y) = (mkP i y).length := by
  rw [outU, baseU_append]
  have h1 : baseU (if f then (pts x.put).map .I ++ List.replicate (pts y.put).length .K else List.replicate (pts y.put).length .K ++ (pts x.put).map .I) = (pts y.put).length := by
    cases f <;> simp only [if_true, Bool.false_eq_true, if_false, baseU_append, baseU_I, baseU_K] <;> omega
  rw [h1, mkP, List.length_append, List.length_map]
  congr 1
  by_cases hk : y.k = 1
  · rw [if_pos hk, if_pos hk]
    rcases hy with h | h
    · omega
    · rw [base_kU _ h]; rfl
  · rw [if_neg hk, if_neg hk]; rfl

theorem sub_at {M : List (Nat ⊕ Int)} {j : Nat} {L R : List (Nat ⊕ Int)} (h : M.drop j = L ++ R) : ((List.range' j L.length).map Sum.inl).map (sub M) = L := by
  apply List.ext_getElem
  · simp
  · intro t h1 h2
    have e : M[j + t]? = some L[t] := by
      have := List.getElem?_drop (xs := M) (i := j) (j := t)
      rw [← this, h, List.getElem?_append_left h2, List.getElem?_eq_getElem h2]
    simp [sub, e]
theorem map_inr_sub (M : List (Nat ⊕ Int)) (l : List Int) : (l.map (Sum.inr (α := Nat))).map (sub M) = l.map Sum.inr := by
  rw [List.map_map]
  exact List.map_congr_left (fun _ _ => rfl)

/-- The marks of both. -/
def mgO (f : Bool) : Nat → List Spot → List Spot → List (Nat ⊕ Int)
  | i, x :: a, y :: b => ((if f then pts x.put ++ pts y.put else pts y.put ++ pts x.put).map .inr ++ (if x.k = 1 ∧ y.k = 1 then [.inl i] else [])) ++ mgO f (i + 1) a b
  | _, _, _ => []
theorem mgO_symm : ∀ (f : Bool) (a b : List Spot) (i : Nat), mgO (!f) i b a = mgO f i a b
  | f, x :: a, y :: b, i => by
    rw [mgO, mgO, mgO_symm f a b]
    congr 2
    · cases f <;> rfl
    · by_cases h1 : x.k = 1 <;> by_cases h2 : y.k = 1 <;> simp [h1, h2]
  | f, [], _, i => by simp [mgO]
  | f, _ :: _, [], i => by simp [mgO]

theorem out_marks {f : Bool} {x y : Spot} {M R : List (Nat ⊕ Int)} {i j : Nat} (h : M.drop j = mkP i y ++ R) (hx : x.k = 1 ∨ x.k = 3 ∨ (x.k = 0 ∧ y.k = 0)) :
    (mkU j (outU f x y)).map (sub M) = (if f then pts x.put ++ pts y.put else pts y.put ++ pts x.put).map .inr ++ (if x.k = 1 ∧ y.k = 1 then [.inl i] else []) := by
  have hP : M.drop j = (pts y.put).map .inr ++ ((if y.k = 1 then [.inl i] else []) ++ R) := by rw [h, mkP, List.append_assoc]
  have s1 : ((List.range' j (pts y.put).length).map Sum.inl).map (sub M) = (pts y.put).map .inr := by
    have := sub_at hP
    rwa [List.length_map] at this
  have hd : M.drop (j + (pts y.put).length) = (if y.k = 1 then [.inl i] else []) ++ R := by
    rw [← List.drop_drop, hP, List.drop_left' (by simp)]
  have e1 : (mkU j (if f then (pts x.put).map .I ++ List.replicate (pts y.put).length .K else List.replicate (pts y.put).length .K ++ (pts x.put).map .I)).map (sub M) = (if f then pts x.put ++ pts y.put else pts y.put ++ pts x.put).map .inr := by
    cases f
    · simp only [Bool.false_eq_true, if_false]
      rw [mkU_append, mkU_Ks, mkU_I, List.map_append, s1, map_inr_sub, List.map_append]
    · simp only [if_true]
      rw [mkU_append, mkU_Ks, mkU_I, baseU_I, Nat.add_zero, List.map_append, s1, map_inr_sub, List.map_append]
  have hb : baseU (if f then (pts x.put).map .I ++ List.replicate (pts y.put).length .K else List.replicate (pts y.put).length .K ++ (pts x.put).map .I) = (pts y.put).length := by
    cases f <;> simp only [if_true, Bool.false_eq_true, if_false, baseU_append, baseU_I, baseU_K] <;> omega
  rw [outU, mkU_append, List.map_append, e1, hb]
  congr 1
  by_cases hy : y.k = 1
  · rw [if_pos hy] at hd ⊢
    rcases hx with hx | hx | hx
    · rw [hx, if_pos ⟨rfl, hy⟩]
      have := sub_at (L := [.inl i]) hd
      simpa [kU, mkU] using this
    · rw [hx]
      simp [kU, mkU]
    · omega
  · rw [if_neg hy, if_neg (fun h => hy h.2)]
    rfl
/-- The marks of a behind b, with b's put in, are the marks of both. -/
theorem tf_marks (f : Bool) : ∀ {a b : List Spot}, Al2 a b → ∀ (M : List (Nat ⊕ Int)) (i j : Nat), M.drop j = mkU i (spW b) → (mkU j (tfU f a b)).map (sub M) = mgO f i a b := by
  intro a b h
  induction h with
  | last hx hy =>
    rename_i x y
    intro M i j hM
    rw [spW_cons, mkU_append, mkU_spU] at hM
    rw [tfU_cons, mkU_append, List.map_append, out_marks hM (.inr (.inr ⟨hx, hy⟩)), mgO]
    simp [tfU, mgO, mkU]
  | more hx hy h ih =>
    rename_i x y a b
    intro M i j hM
    rw [spW_cons, mkU_append, mkU_spU, base_spU hy] at hM
    rw [tfU_cons, mkU_append, List.map_append, out_marks hM (by omega), mgO]
    congr 1
    refine ih M (i + 1) _ ?_
    rw [base_outU f x y (.inr hx) i, ← List.drop_drop, hM, List.drop_left' rfl]
theorem tf_base (f : Bool) {a b : List Spot} (h : Al2 a b) : baseU (tfU f a b) = tgtU (spW b) := by
  rw [← tgt_marks _ 0]
  induction h with
  | last hx hy =>
    rename_i x y
    rw [tfU_cons, spW_cons, baseU_append, mkU_append, List.length_append, mkU_spU, base_outU f x y (.inl hy) 0]
    simp [tfU, spW, baseU, mkU]
  | more hx hy h ih =>
    rename_i x y a b
    rw [tfU_cons, spW_cons, baseU_append, mkU_append, List.length_append, mkU_spU, base_outU f x y (.inr hx) 0, ih, mkU_len _ (0 + baseU (spU y)) 0]
theorem al_base {a b : List Spot} (h : Al2 a b) : baseU (spW a) = baseU (spW b) := by
  induction h with
  | last hx hy => rw [spW_cons, spW_cons, baseU_append, baseU_append, base_end hx, base_end hy]
  | more hx hy _ ih => rw [spW_cons, spW_cons, baseU_append, baseU_append, base_spU hx, base_spU hy, ih]
/-- Each behind the other: the same marks, the same base. -/
theorem meet_words (f : Bool) {a b : List Spot} (h : Al2 a b) : Eqv (cmp (spW a) (tfU (!f) b a)) (cmp (spW b) (tfU f a b)) := by
  have b1 := tf_base (!f) h.symm
  have b2 := tf_base f h
  refine ⟨?_, fun i => ?_⟩
  · rw [cmp_base _ _ b1.symm, cmp_base _ _ b2.symm, al_base h]
  · rw [cmp_marks _ _ i b1.symm, cmp_marks _ _ i b2.symm, tf_marks (!f) h.symm (mkU i (spW a)) i 0 rfl, tf_marks f h (mkU i (spW b)) i 0 rfl, mgO_symm]
end Go.Proofs.Ytphbjbigjpfjfaa

/-
  Two deltas, each behind the other, come to the same. No walk.
-/
namespace Go.Proofs.Ytphbjbigjpfjfaa
open Go.RowKit Go.PlainAid

def PS.nz (s : PS) : Bool := decide (0 < s.z)
def kP (k : Int) : PS := if k = 1 then .keep 1 else .rem 1
def outP (first : Bool) (x y : Spot) : List PS := ((if first then [.ins (pts x.put), .keep (pts y.put).length] else [.keep (pts y.put).length, .ins (pts x.put)]).filter PS.nz) ++ (if y.k = 1 then [kP x.k] else [])
def tfP (first : Bool) (SA SB : List Spot) : List PS := (List.zipWith (outP first) SA SB).flatten
theorem tfP_cons (f : Bool) (x y : Spot) (a b : List Spot) : tfP f (x :: a) (y :: b) = outP f x y ++ tfP f a b := by simp [tfP]

theorem put_enc {t : ByteArray} (h : 0 ≤ cpl t) : mk (enc (pts t)) = t := (whole_eq (cpl_valid h)).1
theorem size_pts {t : ByteArray} (h : 0 ≤ cpl t) : t.size = 0 ↔ (pts t).length = 0 := by
  have e := put_enc h
  constructor
  · intro h0
    rw [empty_eq h0, ptsNil]; rfl
  · intro h0
    rw [← e, List.eq_nil_of_length_eq_zero h0]; rfl
theorem op_ins {t : ByteArray} (h : 0 ≤ cpl t) : (PS.ins (pts t)).op = ⟨2, 0, t⟩ := by
  show (⟨2, 0, mk (enc (pts t))⟩ : OpD) = _
  rw [put_enc h]
theorem op_keep {t : ByteArray} (h : 0 ≤ cpl t) : (PS.keep (pts t).length).op = ⟨1, cpl t, ⟨#[]⟩⟩ := by
  show (⟨1, ((pts t).length : Nat), ⟨#[]⟩⟩ : OpD) = _
  rw [pts_len h]
theorem nz_op (p : List Int) (hp : ∀ z ∈ p, szI z ≠ 0) : OpD.does (PS.ins p).op = PS.nz (.ins p) := by
  have e : (PS.ins p).op = ⟨2, 0, mk (enc p)⟩ := rfl
  rw [e]
  simp only [OpD.does, PS.nz, PS.z, Int.lt_irrefl, decide_false, Bool.false_or]
  have h2 := size_pts (t := mk (enc p)) (by rw [(cpl_enc hp).1]; omega)
  rw [(cpl_enc hp).2] at h2
  by_cases c : p.length = 0
  · simp [h2.2 c, c]
  · have : ¬ (mk (enc p)).size = 0 := fun h => c (h2.1 h)
    have h3 : decide ((mk (enc p)).size ≠ 0) = true := decide_eq_true this
    have h4 : decide (0 < p.length) = true := decide_eq_true (by omega)
    rw [h3]
    exact h4.symm
theorem nz_keep (n : Nat) : OpD.does (PS.keep n).op = PS.nz (.keep n) := by
  have e : (PS.keep n).op = ⟨1, n, ⟨#[]⟩⟩ := rfl
  rw [e]
  have h0 : (⟨#[]⟩ : ByteArray).size = 0 := rfl
  by_cases hn : 0 < n
  · have h1 : (0 : Int) < (n : Int) := by omega
    simp [OpD.does, PS.nz, PS.z, h0, hn]
  · have h1 : n = 0 := by omega
    subst h1
    simp [OpD.does, PS.nz, PS.z, h0]
theorem outP_op {f : Bool} {x y : Spot} (hx : PutOk x.put) (hy : PutOk y.put) (hk : y.k = 1 → x.k = 1 ∨ x.k = 3) : (outP f x y).map PS.op = outO f x y := by
  unfold outP outO
  rw [List.map_append]
  congr 1
  · have e : (if f then [mineO x, thrsO y] else [thrsO y, mineO x]) = (if f then [PS.ins (pts x.put), .keep (pts y.put).length] else [.keep (pts y.put).length, .ins (pts x.put)]).map PS.op := by
      cases f <;> simp [mineO, thrsO, op_ins hx.1, op_keep hy.1]
    rw [e, List.filter_map]
    congr 1
    refine (List.filter_congr (fun s hs => ?_)).symm
    have h1 := nz_op (pts x.put) (pts_ok hx.1)
    have h2 := nz_keep (pts y.put).length
    cases f <;> simp at hs <;> rcases hs with rfl | rfl <;> assumption
  · by_cases h : y.k = 1
    · rw [if_pos h, if_pos h]
      rcases hk h with h1 | h1
      · simp [kP, h1]; rfl
      · simp [kP, h1]; rfl
    · rw [if_neg h, if_neg h]; rfl
theorem pw_nz : ∀ l : List PS, pw (l.filter PS.nz) = pw l
  | [] => rfl
  | s :: l => by
    rw [List.filter_cons]
    by_cases h : PS.nz s = true
    · rw [if_pos h, pw_cons, pw_cons, pw_nz l]
    · rw [if_neg h, pw_cons, pw_nz l]
      have h0 : s.z = 0 := by simpa [PS.nz] using h
      have : s.u = [] := by
        cases s with
        | keep n => simp only [PS.z] at h0; subst h0; rfl
        | rem n => simp only [PS.z] at h0; subst h0; rfl
        | ins p => simp only [PS.z] at h0; rw [List.eq_nil_of_length_eq_zero h0]; rfl
      rw [this, List.nil_append]
theorem outP_word {f : Bool} {x y : Spot} (hk : y.k = 1 → x.k = 1 ∨ x.k = 3) : pw (outP f x y) = outU f x y := by
  unfold outP outU
  rw [pw_append, pw_nz]
  congr 1
  · cases f <;> simp [pw, PS.u]
  · by_cases h : y.k = 1
    · rw [if_pos h, if_pos h]
      rcases hk h with h1 | h1
      · simp [kP, h1, kU, pw, PS.u]
      · simp [kP, h1, kU, pw, PS.u]
    · rw [if_neg h, if_neg h]; rfl
theorem outP_ok {f : Bool} {x y : Spot} (hx : PutOk x.put) : ∀ s ∈ outP f x y, s.Ok := by
  intro s hs
  unfold outP at hs
  rcases List.mem_append.1 hs with hs | hs
  · obtain ⟨h1, h2⟩ := List.mem_filter.1 hs
    have hz : 0 < s.z := by simpa [PS.nz] using h2
    have hm : s = .ins (pts x.put) ∨ s = .keep (pts y.put).length := by
      cases f <;> simp at h1 <;> rcases h1 with h1 | h1 <;> simp [h1]
    rcases hm with rfl | rfl
    · exact ⟨hz, pts_ok hx.1⟩
    · exact hz
  · split at hs
    · simp at hs
      subst hs
      unfold kP
      split
      · show 0 < 1; omega
      · show 0 < 1; omega
    · simp at hs
theorem al_k {x y : Spot} (hx : x.k = 1 ∨ x.k = 3) : y.k = 1 → x.k = 1 ∨ x.k = 3 := fun _ => hx
theorem tfP_facts (f : Bool) {a b : List Spot} (h : Al2 a b) (ha : ∀ s ∈ a, PutOk s.put) (hb : ∀ s ∈ b, PutOk s.put) : (tfP f a b).map PS.op = tfO f a b ∧ pw (tfP f a b) = tfU f a b ∧ ∀ s ∈ tfP f a b, s.Ok := by
  induction h with
  | last hx hy =>
    rename_i x y
    have hk : y.k = 1 → x.k = 1 ∨ x.k = 3 := fun h => by omega
    have e1 := outP_op (f := f) (ha x (by simp)) (hb y (by simp)) hk
    have e2 := outP_word (f := f) hk
    have e3 := outP_ok (f := f) (y := y) (ha x (by simp))
    refine ⟨?_, ?_, ?_⟩
    · simp only [tfP, tfO, List.zipWith_cons_cons, List.zipWith_nil_left, List.flatten_cons, List.flatten_nil, List.append_nil]; exact e1
    · simp only [tfP, tfU, List.zipWith_cons_cons, List.zipWith_nil_left, List.flatten_cons, List.flatten_nil, List.append_nil]; exact e2
    · simp only [tfP, List.zipWith_cons_cons, List.zipWith_nil_left, List.flatten_cons, List.flatten_nil, List.append_nil]; exact e3
  | more hx hy h ih =>
    rename_i x y a b
    obtain ⟨i1, i2, i3⟩ := ih (fun s hs => ha s (by simp [hs])) (fun s hs => hb s (by simp [hs]))
    have e1 := outP_op (f := f) (ha x (by simp)) (hb y (by simp)) (al_k (y := y) hx)
    have e2 := outP_word (f := f) (al_k (y := y) hx)
    have e3 := outP_ok (f := f) (y := y) (ha x (by simp))
    have eO : tfO f (x :: a) (y :: b) = outO f x y ++ tfO f a b := by simp [tfO]
    refine ⟨?_, ?_, ?_⟩
    · rw [tfP_cons, eO, List.map_append, e1, i1]
    · rw [tfP_cons, tfU_cons, pw_append, e2, i2]
    · rw [tfP_cons]
      intro s hs
      rcases List.mem_append.1 hs with hs | hs
      · exact e3 s hs
      · exact i3 s hs

/-- Check of point steps, whatever their base and target. -/
theorem chk_psG {l : List PS} (h : ∀ s ∈ l, s.Ok) (hz : ∀ s ∈ l, s.z ≤ 1000) (hl : l.length ≤ 3000) :
    chk (l.map PS.op) = (if 1000 < baseU (pw l) ∨ 1000 < targU (pw l) then 91 else 0) ∧ (chk (l.map PS.op) = 0 → stR (l.map PS.op) = l.map PS.st) := by
  have hs : ∀ s ∈ l, stOf s.op = some s.st := fun s hs => stOf_op (h s hs) (hz s hs)
  have e : stl (l.map PS.op) = l.map PS.st := by
    rw [stl, List.filterMap_map]
    clear hz hl h
    induction l with
    | nil => rfl
    | cons s l ih =>
      rw [List.filterMap_cons]
      simp only [Function.comp]
      rw [hs s (by simp), List.map_cons, ih (fun x hx => hs x (by simp [hx]))]
  have hany : (l.map PS.op).any (fun o => (stOf o).isNone) = false := by
    rw [List.any_eq_false]
    intro o ho
    obtain ⟨s, hs', rfl⟩ := List.mem_map.1 ho
    rw [hs s hs']; simp
  have hb : bsum (l.map PS.st) = baseU (pw l) := by rw [← base_uw, uw_st h]
  have ht : tsum (l.map PS.st) = targU (pw l) := by rw [← targ_uw, uw_st h]
  refine ⟨?_, fun hc => by rw [chk_yes _ hc, e]⟩
  rw [chk, if_neg (by rw [List.length_map]; omega), hany, if_neg (by simp), e, hb, ht]
theorem tgt_kU (k : Int) : tgtU (kU k) ≤ 1 := by
  unfold kU
  split
  · exact Nat.le_refl _
  · split
    · exact Nat.zero_le _
    · exact Nat.zero_le _
theorem tgtU_append (a b : List U) : tgtU (a ++ b) = tgtU a + tgtU b := by rw [← tgt_marks _ 0, mkU_append, List.length_append, tgt_marks, tgt_marks]
theorem tgt_Is (p : List Int) : tgtU (p.map .I) = p.length := by
  induction p with
  | nil => rfl
  | cons z p ih => rw [List.map_cons, tgtU, ih]; rfl
theorem tgt_Ks (n : Nat) : tgtU (List.replicate n .K) = n := by
  induction n with
  | zero => rfl
  | succ n ih => rw [List.replicate_succ, tgtU, ih]
theorem out_tgt (f : Bool) (x y : Spot) : tgtU (outU f x y) ≤ tgtU (spU x) + tgtU (spU y) := by
  rw [outU, tgtU_append, spU, spU, tgtU_append, tgtU_append, tgt_Is, tgt_Is]
  have h1 : tgtU (if f then (pts x.put).map .I ++ List.replicate (pts y.put).length .K else List.replicate (pts y.put).length .K ++ (pts x.put).map .I) = (pts x.put).length + (pts y.put).length := by
    cases f <;> simp only [if_true, Bool.false_eq_true, if_false, tgtU_append, tgt_Is, tgt_Ks] <;> omega
  rw [h1]
  by_cases h : y.k = 1
  · rw [if_pos h]; omega
  · rw [if_neg h]; simp [tgtU]; omega
theorem tf_tgt (f : Bool) {a b : List Spot} (h : Al2 a b) : tgtU (tfU f a b) ≤ tgtU (spW a) + tgtU (spW b) := by
  induction h with
  | last hx hy =>
    rename_i x y
    have := out_tgt f x y
    simp only [tfU, spW, List.zipWith_cons_cons, List.zipWith_nil_left, List.flatten_cons, List.flatten_nil, List.append_nil, List.map_cons, List.map_nil]
    exact this
  | more hx hy h ih =>
    rename_i x y a b
    have := out_tgt f x y
    rw [tfU_cons, spW_cons, spW_cons, tgtU_append, tgtU_append, tgtU_append]
    omega

/-- What Transform makes, as a word. -/
theorem tr_facts (f : Bool) {A B : List OpD} (iA : ∀ o ∈ A, o.In) (iB : ∀ o ∈ B, o.In) (hb : bsum (stR A) = bsum (stR B)) :
    Al2 (nS A) (nS B) ∧ chk (trW f A B) = (if 1000 < tgtU (tfU f (nS A) (nS B)) then 91 else 0) ∧ (chk (trW f A B) = 0 → uw (stR (trW f A B)) = tfU f (nS A) (nS B)) ∧ (∀ o ∈ trW f A B, o.In) := by
  have bdA := stR_bd A
  have bdB := stR_bd B
  obtain ⟨_, _, _, a4, a5⟩ := normal_facts (stR_ok iA) bdA.1 bdA.2
  obtain ⟨_, _, _, b4, b5⟩ := normal_facts (stR_ok iB) bdB.1 bdB.2
  have hA := nS_ok iA
  have hB := nS_ok iB
  have hal : Al2 (nS A) (nS B) := al2_of _ _ (kd_spots _ _) (kd_spots _ _) (by rw [nS, nS, spots_len, spots_len, a4, b4, hb])
  obtain ⟨f1, f2, f3⟩ := tfP_facts f hal (fun s hs => (hA s hs).2) (fun s hs => (hB s hs).2)
  have tA : tgtU (spW (nS A)) = tsum (stR A) := by rw [nS_word iA, tgt_uw, a5]
  have tB : tgtU (spW (nS B)) = tsum (stR B) := by rw [nS_word iB, tgt_uw, b5]
  have hbase := tf_base f hal
  have htgt := tf_tgt f hal
  have hT : targU (tfU f (nS A) (nS B)) = tgtU (tfU f (nS A) (nS B)) := by rw [targU, tgt_targ]
  have hlz := len_z f3
  rw [f2, hT] at hlz
  have hz : ∀ s ∈ tfP f (nS A) (nS B), s.z ≤ 1000 := by
    intro s hs
    have hm : ∀ (a b : List Spot), Al2 a b → ∀ s ∈ tfP f a b, s.z ≤ tgtU (spW a) + 1 ∧ s.z ≤ tgtU (spW a) ∨ s.z ≤ tgtU (spW b) ∨ s.z ≤ 1 := by
      intro a b h
      induction h with
      | last hx hy =>
        rename_i x y
        intro s hs
        simp only [tfP, List.zipWith_cons_cons, List.zipWith_nil_left, List.flatten_cons, List.flatten_nil, List.append_nil] at hs
        have ex : tgtU (spU x) = (pts x.put).length + tgtU (kU x.k) := by rw [spU, tgtU_append, tgt_Is]
        have ey : tgtU (spU y) = (pts y.put).length + tgtU (kU y.k) := by rw [spU, tgtU_append, tgt_Is]
        simp only [spW, List.map_cons, List.map_nil, List.flatten_cons, List.flatten_nil, List.append_nil]
        unfold outP at hs
        rcases List.mem_append.1 hs with hs | hs
        · have h1 := (List.mem_filter.1 hs).1
          have hm : s = .ins (pts x.put) ∨ s = .keep (pts y.put).length := by cases f <;> simp at h1 <;> rcases h1 with h1 | h1 <;> simp [h1]
          rcases hm with rfl | rfl
          · left; simp only [PS.z]; omega
          · right; left; simp only [PS.z]; omega
        · right; right
          split at hs
          · simp at hs; subst hs; unfold kP; split <;> (simp only [PS.z]; omega)
          · simp at hs
      | more hx hy h ih =>
        rename_i x y a b
        intro s hs
        rw [tfP_cons] at hs
        rw [spW_cons, spW_cons, tgtU_append, tgtU_append]
        have ex : tgtU (spU x) = (pts x.put).length + tgtU (kU x.k) := by rw [spU, tgtU_append, tgt_Is]
        have ey : tgtU (spU y) = (pts y.put).length + tgtU (kU y.k) := by rw [spU, tgtU_append, tgt_Is]
        rcases List.mem_append.1 hs with hs | hs
        · unfold outP at hs
          rcases List.mem_append.1 hs with hs | hs
          · have h1 := (List.mem_filter.1 hs).1
            have hm : s = .ins (pts x.put) ∨ s = .keep (pts y.put).length := by cases f <;> simp at h1 <;> rcases h1 with h1 | h1 <;> simp [h1]
            rcases hm with rfl | rfl
            · left; simp only [PS.z]; omega
            · right; left; simp only [PS.z]; omega
          · right; right
            split at hs
            · simp at hs; subst hs; unfold kP; split <;> (simp only [PS.z]; omega)
            · simp at hs
        · have := ih s hs
          omega
    have := hm _ _ hal s hs
    omega
  have hG := chk_psG f3 hz (by omega)
  rw [f1, f2, hT] at hG
  have e : trW f A B = tfO f (nS A) (nS B) := rfl
  refine ⟨hal, ?_, fun hc => ?_, ?_⟩
  · rw [e, hG.1]
    congr 1
    simp only [eq_iff_iff]
    omega
  · rw [e] at hc ⊢
    rw [hG.2 hc, uw_st f3, f2]
  · rw [e]
    exact tfO_in f _ _ (fun s hs => (hA s hs).2)

theorem tr_zero {f : Bool} {A B : List OpD} (h : (trR f A B).2 = 0) : chk A = 0 ∧ chk B = 0 ∧ bsum (stR A) = bsum (stR B) ∧ chk (trW f A B) = 0 ∧ (trR f A B).1 = jn (stR (trW f A B)) := by
  rw [trR] at h ⊢
  split at h
  · rename_i c1
    split at h
    · rename_i c2
      split at h
      · rename_i c3
        rw [if_pos c1, if_pos c2, if_pos c3]
        exact ⟨c1, c2, c3, h, rfl⟩
      · simp at h
    · rename_i c2; exact absurd h c2
  · rename_i c1; exact absurd h c1
/-- What Transform gave, as one of a pair. -/
theorem tr_good {f : Bool} {A B : List OpD} (iA : ∀ o ∈ A, o.In) (iB : ∀ o ∈ B, o.In) (h : (trR f A B).2 = 0) :
    (∀ o ∈ (trR f A B).1, o.In) ∧ chk (trR f A B).1 = 0 ∧ jn (stR (trR f A B).1) = (trR f A B).1 ∧ Eqv (uw (stR (trR f A B).1)) (tfU f (nS A) (nS B)) ∧ bsum (stR (trR f A B).1) = tsum (stR B) := by
  obtain ⟨c1, c2, c3, c4, c5⟩ := tr_zero h
  obtain ⟨hal, t1, t2, t3⟩ := tr_facts f iA iB c3
  have hok := stR_ok t3
  have bd := stR_bd (trW f A B)
  obtain ⟨n1, n2, n3, n4, n5⟩ := normal_facts hok bd.1 bd.2
  have bdB := stR_bd B
  have b5 := (normal_facts (stR_ok iB) bdB.1 bdB.2).2.2.2.2
  rw [c5]
  refine ⟨(jn_in hok bd.1 bd.2).2, n1, n2, ?_, ?_⟩
  · rw [t2 c4] at n3
    exact n3
  · rw [n4, ← base_uw, t2 c4, tf_base f hal, nS_word iB, tgt_uw, b5]

theorem hu_ok (D : List U) : ∀ s ∈ stR (D.map uop), s.Ok := stR_ok (fun o ho => by obtain ⟨u, _, rfl⟩ := List.mem_map.1 ho; exact uop_in u)
theorem meets {f : Bool} {A B : List OpD} (iA : ∀ o ∈ A, o.In) (iB : ∀ o ∈ B, o.In) (h1 : (trR f A B).2 = 0) (h2 : (trR (!f) B A).2 = 0) :
    (coR A (trR (!f) B A).1).2 = 0 ∧ (coR B (trR f A B).1).2 = 0 ∧ (coR A (trR (!f) B A).1).1 = (coR B (trR f A B).1).1 := by
  obtain ⟨a1, a2, a3, a4, a5⟩ := tr_zero h1
  obtain ⟨x0, x1, x2, x3, x4⟩ := tr_good iA iB h1
  obtain ⟨y0, y1, y2, y3, y4⟩ := tr_good iB iA h2
  have hal := (tr_facts f iA iB a3).1
  have l := coR_ok iA y0 a1 y1 y4.symm
  have r := coR_ok iB x0 a2 x1 x4.symm
  refine ⟨l.1, r.1, ?_⟩
  rw [l.2.1, r.2.1]
  refine jn_eqv (hu_ok _) (hu_ok _) ?_
  rw [l.2.2.1, r.2.2.1]
  have bdA := stR_bd A
  have bdB := stR_bd B
  have e1 : Eqv (cpW A (trR (!f) B A).1) (cmp (spW (nS A)) (tfU (!f) (nS B) (nS A))) := by
    rw [cpW, y2, nS_word iA]
    exact cmp_eqv ⟨rfl, fun _ => rfl⟩ y3 (by rw [tgt_uw, base_uw, y4, (normal_facts (stR_ok iA) bdA.1 bdA.2).2.2.2.2])
  have e2 : Eqv (cpW B (trR f A B).1) (cmp (spW (nS B)) (tfU f (nS A) (nS B))) := by
    rw [cpW, x2, nS_word iB]
    exact cmp_eqv ⟨rfl, fun _ => rfl⟩ x3 (by rw [tgt_uw, base_uw, x4, (normal_facts (stR_ok iB) bdB.1 bdB.2).2.2.2.2])
  have e3 := meet_words f hal
  exact ⟨e1.1.trans (e3.1.trans e2.1.symm), fun i => (e1.2 i).trans ((e3.2 i).trans (e2.2 i).symm)⟩
end Go.Proofs.Ytphbjbigjpfjfaa

/-
  Places that put in only where a gap begins: their marks tell them. No walk.
-/
namespace Go.Proofs.Ytphbjbigjpfjfaa
open Go.RowKit Go.PlainAid

/-- What is put in stands at the beginning, or behind what is kept; b: may it be so here? -/
def Can : Bool → List Spot → Prop
  | _, [] => True
  | b, s :: l => (b = false → pts s.put = []) ∧ Can (decide (s.k = 1)) l

/-! ### Normal forms -/

def altC : Bool → List PS → Prop
  | _, [] => True
  | b, .ins _ :: l => b = true ∧ altC false l
  | _, .keep _ :: l => altC true l
  | _, .rem _ :: l => altC false l
theorem altC_keep : ∀ (l r : List PS) (n : Nat) (b : Bool), altC b l → altC true r → altC b (l ++ .keep n :: r)
  | [], _, _, _, _, h => h
  | .ins _ :: l, r, n, _, h, k => ⟨h.1, altC_keep l r n false h.2 k⟩
  | .keep _ :: l, r, n, _, h, k => altC_keep l r n true h k
  | .rem _ :: l, r, n, _, h, k => altC_keep l r n false h k
theorem altC_q (p : List Int) (g : Nat) : altC true (flushQ p g) := by
  unfold flushQ
  by_cases h1 : 0 < p.length <;> by_cases h2 : 0 < g <;> simp [h1, h2, altC]
theorem altC_flush {D : List PS} {k : Nat} (p : List Int) (g : Nat) (h : altC true D) (h2 : D = [] ∨ 0 < k) : altC true (D ++ flushP k p g) := by
  have e : flushP k p g = (if 0 < k then [PS.keep k] else []) ++ flushQ p g := rfl
  rw [e]
  by_cases hk : 0 < k
  · rw [if_pos hk]
    exact altC_keep D _ k true h (altC_q p g)
  · rw [if_neg hk]
    rcases h2 with rfl | h2
    · exact altC_q p g
    · exact absurd h2 hk
theorem altC_ju : ∀ (w : List U) (σ : JU), altC true σ.D → (σ.D = [] ∨ 0 < σ.kept) → altC true (ju σ w).out
  | [], σ, h1, h2 => altC_flush _ _ h1 h2
  | .K :: w, σ, h1, h2 => by
    rw [ju_cons, JU.add]
    split
    · exact altC_ju w _ (altC_flush _ _ h1 h2) (.inr (by simp))
    · exact altC_ju w _ h1 (.inr (by simp))
  | .R :: w, σ, h1, h2 => by rw [ju_cons]; exact altC_ju w _ h1 h2
  | .I z :: w, σ, h1, h2 => by rw [ju_cons]; exact altC_ju w _ h1 h2
theorem can_reps1 : ∀ (n : Nat) (p : ByteArray) (st : Bool) (l : List Spot), (st = false → pts p = []) → Can true l → Can st (reps p 1 (n + 1) ++ l)
  | 0, p, st, l, h, hl => ⟨h, by simpa [reps] using hl⟩
  | n + 1, p, st, l, h, hl => ⟨h, by have := can_reps1 n ⟨#[]⟩ true l (by simp) hl; simpa using this⟩
theorem can_reps3 : ∀ (n : Nat) (p : ByteArray) (st : Bool) (l : List Spot), (st = false → pts p = []) → Can false l → Can st (reps p 3 (n + 1) ++ l)
  | 0, p, st, l, h, hl => ⟨h, by simpa [reps] using hl⟩
  | n + 1, p, st, l, h, hl => ⟨h, by have := can_reps3 n ⟨#[]⟩ false l (fun _ => ptsNil) hl; simpa using this⟩
theorem can_spots : ∀ (ds : List PS) (p : ByteArray) (b st : Bool), altC b ds → (b = true → st = true) → (st = false → pts p = []) → (∀ s ∈ ds, s.Ok) → Can st (spots (ds.map PS.st) p)
  | [], p, b, st, _, _, h, _ => ⟨h, trivial⟩
  | .ins q :: ds, p, b, st, ha, hb, h, ho => by
    have e := hb ha.1
    subst e
    exact can_spots ds _ false true ha.2 (by simp) (by simp) (fun s hs => ho s (by simp [hs]))
  | .keep n :: ds, p, b, st, ha, hb, h, ho => by
    have hn : 0 < n := ho (.keep n) (by simp)
    obtain ⟨m, rfl⟩ : ∃ m, n = m + 1 := ⟨n - 1, by omega⟩
    exact can_reps1 m p st _ h (can_spots ds _ true true ha (by simp) (by simp) (fun s hs => ho s (by simp [hs])))
  | .rem n :: ds, p, b, st, ha, hb, h, ho => by
    have hn : 0 < n := ho (.rem n) (by simp)
    obtain ⟨m, rfl⟩ : ∃ m, n = m + 1 := ⟨n - 1, by omega⟩
    exact can_reps3 m p st _ h (can_spots ds _ false false ha (by simp) (fun _ => ptsNil) (fun s hs => ho s (by simp [hs])))
theorem can_nS {A : List OpD} (iA : ∀ o ∈ A, o.In) : Can true (nS A) := by
  obtain ⟨e, h⟩ := stR_jn iA
  rw [nS, e]
  exact can_spots _ _ true true (altC_ju _ _ trivial (.inl rfl)) (by simp) (by simp) h

/-! ### What marks tell -/

theorem inr_split {p q : List Int} {a b : List (Nat ⊕ Int)} (ha : ∀ z l, a ≠ .inr z :: l) (hb : ∀ z l, b ≠ .inr z :: l) (h : p.map Sum.inr ++ a = q.map Sum.inr ++ b) : p = q ∧ a = b := by
  induction p generalizing q with
  | nil =>
    cases q with
    | nil => exact ⟨rfl, by simpa using h⟩
    | cons z q => exact absurd (by simpa using h) (ha z _)
  | cons x p ih =>
    cases q with
    | nil => exact absurd (by simpa using h.symm) (hb x _)
    | cons z q =>
      simp only [List.map_cons, List.cons_append, List.cons.injEq, Sum.inr.injEq] at h
      obtain ⟨h1, h2⟩ := ih h.2
      exact ⟨by rw [h.1, h1], h2⟩
theorem can_head : ∀ {a b : List Spot}, Al2 a b → Can false a → ∀ (i : Nat) (z : Int) (l : List (Nat ⊕ Int)), mkU i (spW a) ≠ .inr z :: l := by
  intro a b h
  induction h with
  | last hx hy =>
    rename_i x y
    intro hc i z l e
    have h0 := hc.1 rfl
    rw [spW_cons, mkU_append, mkU_spU, mkP, h0, hx] at e
    simp [spW, mkU] at e
  | more hx hy h ih =>
    rename_i x y a b
    intro hc i z l e
    have h0 := hc.1 rfl
    rw [spW_cons, mkU_append, mkU_spU, mkP, h0] at e
    rcases hx with hx | hx
    · rw [hx] at e; simp at e
    · have h2 := hc.2
      rw [hx] at e h2
      exact ih h2 _ z l (by simpa using e)

theorem can_unique {a b : List Spot} (h : Al2 a b) : ∀ (st : Bool), Can st a → Can st b → ∀ i, mkU i (spW a) = mkU i (spW b) → a.map (fun s => (pts s.put, s.k)) = b.map (fun s => (pts s.put, s.k)) := by
  induction h with
  | last hx hy =>
    rename_i x y
    intro st _ _ i e
    rw [spW_cons, spW_cons, mkU_append, mkU_append, mkU_spU, mkU_spU, mkP, mkP, hx, hy] at e
    have e2 : (pts x.put).map Sum.inr = (pts y.put).map (Sum.inr (α := Nat)) := by simpa [spW, mkU] using e
    have e3 := (inr_split (a := []) (b := []) (by simp) (by simp) (by simpa using e2)).1
    simp [e3, hx, hy]
  | more hx hy h ih =>
    rename_i x y a b
    intro st ca cb i e
    rw [spW_cons, spW_cons, mkU_append, mkU_append, mkU_spU, mkU_spU, base_spU hx, base_spU hy, mkP, mkP] at e
    have hA := ca.2
    have hB := cb.2
    have ge1 : ∀ p, Sum.inl p ∈ mkU (i + 1) (spW a) → i + 1 ≤ p := fun p hp => marks_ge _ _ _ hp
    have ge2 : ∀ p, Sum.inl p ∈ mkU (i + 1) (spW b) → i + 1 ≤ p := fun p hp => marks_ge _ _ _ hp
    rcases hx with hx | hx <;> rcases hy with hy | hy <;> rw [hx, hy] at e <;> rw [hx] at hA <;> rw [hy] at hB <;> simp only [if_true, List.append_assoc, List.cons_append, List.nil_append, show ¬ ((3 : Int) = 1) by decide, if_false] at e
    · obtain ⟨e1, e2⟩ := inr_split (by simp) (by simp) e
      have e3 : mkU (i + 1) (spW a) = mkU (i + 1) (spW b) := by simpa using e2
      have := ih _ hA hB (i + 1) e3
      simp [e1, hx, hy, this]
    · obtain ⟨e1, e2⟩ := inr_split (by simp) (can_head h.symm hB (i + 1)) e
      have := ge2 i (by rw [← e2]; simp)
      omega
    · obtain ⟨e1, e2⟩ := inr_split (can_head h hA (i + 1)) (by simp) e
      have := ge1 i (by rw [e2]; simp)
      omega
    · obtain ⟨e1, e2⟩ := inr_split (can_head h hA (i + 1)) (can_head h.symm hB (i + 1)) e
      have := ih _ hA hB (i + 1) e2
      simp [e1, hx, hy, this]
theorem spots_eq : ∀ {a b : List Spot}, a.map (fun s => (pts s.put, s.k)) = b.map (fun s => (pts s.put, s.k)) → (∀ s ∈ a, 0 ≤ cpl s.put) → (∀ s ∈ b, 0 ≤ cpl s.put) → a = b
  | [], [], _, _, _ => rfl
  | [], _ :: _, h, _, _ => by simp at h
  | _ :: _, [], h, _, _ => by simp at h
  | x :: a, y :: b, h, ha, hb => by
    simp only [List.map_cons, List.cons.injEq, Prod.mk.injEq] at h
    have h1 := put_enc (ha x (by simp))
    have h2 := put_enc (hb y (by simp))
    have e1 : x.put = y.put := by rw [← h1, ← h2, h.1.1]
    have e : x = y := by
      obtain ⟨p, k⟩ := x
      obtain ⟨q, j⟩ := y
      simp only at e1 h
      rw [e1, h.1.2]
    rw [e, spots_eq h.2 (fun s hs => ha s (by simp [hs])) (fun s hs => hb s (by simp [hs]))]

/-! ### Forms -/

def fSp (ins : List ByteArray) (gone : List Bool) (i : Nat) : Spot := ⟨ins.getD i ⟨#[]⟩, if gone.getD i false then 3 else 1⟩
/-- The places of a form. -/
def fS (ins : List ByteArray) (gone : List Bool) : List Spot := (List.range gone.length).map (fSp ins gone) ++ [⟨ins.getD gone.length ⟨#[]⟩, 0⟩]
theorem fS_len (ins : List ByteArray) (gone : List Bool) : (fS ins gone).length = gone.length + 1 := by simp [fS]
theorem fSp_k (ins : List ByteArray) (gone : List Bool) (i : Nat) : (fSp ins gone i).k = 1 ∨ (fSp ins gone i).k = 3 := by
  unfold fSp
  cases gone.getD i false
  · exact .inl rfl
  · exact .inr rfl
theorem kd_app : ∀ (l : List Spot) (p : ByteArray), (∀ s ∈ l, s.k = 1 ∨ s.k = 3) → Kd (l ++ [⟨p, 0⟩])
  | [], _, _ => rfl
  | s :: l, p, h => kd_cons (h s (by simp)) (kd_app l p (fun x hx => h x (by simp [hx])))
theorem fS_kd (ins : List ByteArray) (gone : List Bool) : Kd (fS ins gone) := kd_app _ _ (fun s hs => by obtain ⟨i, _, rfl⟩ := List.mem_map.1 hs; exact fSp_k ins gone i)
theorem fS_gap (ins : List ByteArray) (gone : List Bool) : ∀ i, spW ((List.range i).map (fSp ins gone)) = gapW ins gone i
  | 0 => rfl
  | i + 1 => by
    rw [List.range_succ, List.map_append, spW_append, fS_gap ins gone i, gapW]
    congr 1
    simp only [List.map_cons, List.map_nil, spW, List.flatten_cons, List.flatten_nil, List.append_nil, spU, fSp]
    cases gone.getD i false
    · rfl
    · rfl
theorem fS_word (ins : List ByteArray) (gone : List Bool) : spW (fS ins gone) = formW ins gone := by
  rw [fS, spW_append, fS_gap, formW]
  simp [spW, spU, kU]
theorem fS_at (ins : List ByteArray) (gone : List Bool) (i : Nat) (s : Spot) (h : (fS ins gone)[i]? = some s) : s.put = ins.getD i ⟨#[]⟩ ∧ (i < gone.length → s.k = if gone.getD i false then 3 else 1) ∧ (i = gone.length → s.k = 0) := by
  have hi : i < gone.length + 1 := by have := (List.getElem?_eq_some_iff.1 h).1; rwa [fS_len] at this
  by_cases c : i < gone.length
  · rw [fS, List.getElem?_append_left (by simpa using c), List.getElem?_map, List.getElem?_range c] at h
    simp at h
    subst h
    exact ⟨rfl, fun _ => rfl, fun e => by omega⟩
  · have e : i = gone.length := by omega
    subst e
    rw [fS, List.getElem?_append_right (by simp)] at h
    simp at h
    subst h
    exact ⟨rfl, fun e => by omega, fun _ => rfl⟩
theorem can_of : ∀ (l : List Spot) (st : Bool), (st = false → ∀ s, l[0]? = some s → pts s.put = []) → (∀ i s t, l[i]? = some s → l[i + 1]? = some t → s.k ≠ 1 → pts t.put = []) → Can st l
  | [], _, _, _ => trivial
  | s :: l, st, h0, h1 => by
    refine ⟨fun e => h0 e s rfl, can_of l _ (fun e t ht => ?_) (fun i a b ha hb => h1 (i + 1) a b (by simpa using ha) (by simpa using hb))⟩
    exact h1 0 s t rfl (by simpa using ht) (by simpa using e)
/-- The form of a delta is its normal form, place by place. -/
theorem form_spots {A : List OpD} (iA : ∀ o ∈ A, o.In) {g : Nat} {ins : List ByteArray} {gone : List Bool} (h : FC (stR A) (bsum (stR A)) (stR A).length g ins gone) : fS ins gone = nS A := by
  have bd := stR_bd A
  obtain ⟨_, _, a3, a4, _⟩ := normal_facts (stR_ok iA) bd.1 bd.2
  have hal : Al2 (fS ins gone) (nS A) := al2_of _ _ (fS_kd _ _) (kd_spots _ _) (by rw [fS_len, nS, spots_len, h.fi.lg, a4])
  have hli := h.fi.li
  have hlg := h.fi.lg
  have hv : ∀ s ∈ fS ins gone, 0 ≤ cpl s.put := by
    intro s hs
    obtain ⟨i, hi, e⟩ := List.mem_iff_getElem.1 hs
    have ha := (fS_at ins gone i s (by rw [List.getElem?_eq_getElem hi, e])).1
    rw [fS_len] at hi
    rw [ha]
    exact (h.fi.v (ins.getD i ⟨#[]⟩) (by simp [show i < ins.length by omega])).1
  have hc : Can true (fS ins gone) := by
    refine can_of _ _ (by simp) (fun i s t hs ht hk => ?_)
    have hi : i + 1 < gone.length + 1 := by have := (List.getElem?_eq_some_iff.1 ht).1; rwa [fS_len] at this
    have q1 := (fS_at ins gone i s hs).2.1 (by omega)
    have q2 := (fS_at ins gone (i + 1) t ht).1
    have hg : gone.getD i false = true := by
      cases hgg : gone.getD i false with
      | true => rfl
      | false => rw [hgg] at q1; simp at q1; exact absurd q1 hk
    rw [q2, h.c i hg]
    exact ptsNil
  have he := fi_end h.fi rfl
  have hm : mkU 0 (spW (fS ins gone)) = mkU 0 (spW (nS A)) := by rw [fS_word, he.2, nS_word iA, a3.2]
  exact spots_eq (can_unique hal true hc (can_nS iA) 0 hm) hv (fun s hs => (nS_ok iA s hs).2.1)
end Go.Proofs.Ytphbjbigjpfjfaa

/-
  What the reference's Transform does to a form, in plain words. No walk.
-/
namespace Go.Proofs.Ytphbjbigjpfjfaa
open Go.ChangeShapes Go.WideShapes Go.ChangeAt Go.RowKit Go.PlainAid

/-- A text more in gap g. -/
def catI (ins : List ByteArray) (g : Nat) (t : ByteArray) : List ByteArray := ins.set g (mk ((ins.getD g ⟨#[]⟩).data.toList ++ t.data.toList))
theorem catI_len (ins : List ByteArray) (g : Nat) (t : ByteArray) : (catI ins g t).length = ins.length := by simp [catI]
theorem catI_ne (ins : List ByteArray) (g : Nat) (t : ByteArray) (j : Nat) (hj : j ≠ g) : (catI ins g t).getD j ⟨#[]⟩ = ins.getD j ⟨#[]⟩ := by
  rw [catI, List.getD_eq_getElem?_getD, List.getElem?_set_ne (fun e => hj e.symm), List.getD_eq_getElem?_getD]
theorem catI_at (ins : List ByteArray) (g : Nat) (t : ByteArray) (hg : g < ins.length) : (catI ins g t).getD g ⟨#[]⟩ = mk ((ins.getD g ⟨#[]⟩).data.toList ++ t.data.toList) := by
  simp [catI, List.getD, hg]

/-- On the way: gap g of a form of t code points; M: the marks so far; all behind is as it was made. -/
structure TI (t g z : Nat) (M : List (Nat ⊕ Int)) (ins : List ByteArray) (gone : List Bool) : Prop where
  li : ins.length = t + 1
  lg : gone.length = t
  m : gapM ins gone g = M
  f : ∀ j, g ≤ j → gone.getD j false = false
  e : ∀ j, g < j → ins.getD j ⟨#[]⟩ = ⟨#[]⟩
  v : ∀ x ∈ ins, 0 ≤ cpl x ∧ x.size ≤ z
theorem ti_start (t : Nat) : TI t 0 0 [] (List.replicate (t + 1) ⟨#[]⟩) (List.replicate t false) := by
  have hi : ∀ j, (List.replicate (t + 1) (⟨#[]⟩ : ByteArray)).getD j ⟨#[]⟩ = ⟨#[]⟩ := fun j => by
    by_cases h : j < t + 1 <;> simp [List.getD, h]
  refine ⟨by simp, by simp, ?_, fun j _ => ?_, fun j _ => hi j, fun x hx => ?_⟩
  · rw [gapM, hi, pts_nil]; rfl
  · by_cases h : j < t <;> simp [List.getD, h]
  · have := List.eq_of_mem_replicate hx
    subst this
    exact ⟨by decide, by show 0 ≤ _; omega⟩
theorem ti_ins {t g z : Nat} {M : List (Nat ⊕ Int)} {ins : List ByteArray} {gone : List Bool} (h : TI t g z M ins gone) {x : ByteArray} (hx : 0 ≤ cpl x) (hg : g ≤ t) : TI t g (z + x.size) (M ++ (pts x).map .inr) (catI ins g x) gone := by
  have hli := h.li
  have hin : ins.getD g ⟨#[]⟩ ∈ ins := by simp [show g < ins.length by omega]
  have hvg := h.v _ hin
  have hcat := cat_ok hvg.1 hx
  refine ⟨by rw [catI_len]; exact hli, h.lg, ?_, h.f, fun j q => by rw [catI_ne _ _ _ _ (by omega)]; exact h.e j q, fun y hy => ?_⟩
  · have e := gapW_congr (ins := ins) (ins' := catI ins g x) (gone := gone) (gone' := gone) g (fun j hj => ⟨catI_ne _ _ _ _ (by omega), rfl⟩)
    have hm := h.m
    rw [gapM] at hm ⊢
    rw [e, catI_at _ _ _ (by omega), hcat.2, List.map_append, ← List.append_assoc, hm]
  · rcases List.mem_or_eq_of_mem_set hy with hy | hy
    · have := h.v y hy; exact ⟨this.1, by omega⟩
    · subst hy
      refine ⟨hcat.1, ?_⟩
      rw [mk_size, List.length_append, data_len, data_len]
      have := hvg.2
      omega
theorem ti_keep {t g z : Nat} {M : List (Nat ⊕ Int)} {ins : List ByteArray} {gone : List Bool} (h : TI t g z M ins gone) (n : Nat) : TI t (g + n) z (M ++ (List.range' g n).map .inl) ins gone := by
  refine ⟨h.li, h.lg, ?_, fun j q => h.f j (by omega), fun j q => h.e j (by omega), h.v⟩
  rw [gapM_Ks h.e n (fun j h1 _ => h.f j h1), h.m]
  congr 1
  rw [List.range'_eq_map_range, List.map_map]
  rfl
theorem ti_set {t g z : Nat} {M : List (Nat ⊕ Int)} {ins : List ByteArray} {gone : List Bool} (h : TI t g z M ins gone) (b : Bool) (hg : g < t) : TI t (g + 1) z (M ++ (if b then [] else [.inl g])) ins (gone.set g b) := by
  have hlg := h.lg
  have hne : ∀ j, j ≠ g → (gone.set g b).getD j false = gone.getD j false := fun j hj => by
    rw [List.getD_eq_getElem?_getD, List.getElem?_set_ne (fun e => hj e.symm), List.getD_eq_getElem?_getD]
  have hp : (gone.set g b).getD g false = b := by
    have : g < gone.length := by omega
    simp [List.getD, this]
  have e2 : gapM ins (gone.set g b) g = gapM ins gone g := by
    rw [gapM, gapM, gapW_congr (ins := ins) (ins' := ins) (gone := gone) (gone' := gone.set g b) g (fun j hj => ⟨rfl, hne j (by omega)⟩)]
  refine ⟨h.li, by rw [List.length_set]; exact hlg, ?_, fun j q => by rw [hne j (by omega)]; exact h.f j (by omega), fun j q => h.e j (by omega), h.v⟩
  cases b with
  | true => rw [gapM_R hp (h.e _ (by omega)), e2, h.m]; simp
  | false => rw [gapM_K hp (h.e _ (by omega)), e2, h.m]; simp
theorem ti_end {t z : Nat} {M : List (Nat ⊕ Int)} {ins : List ByteArray} {gone : List Bool} (h : TI t t z M ins gone) : baseU (formW ins gone) = t ∧ mkU 0 (formW ins gone) = M := by
  refine ⟨?_, ?_⟩
  · rw [formW, baseU_append, baseU_gap, baseU_I, h.lg]; rfl
  · rw [formW, mkU_append, mkU_I, h.lg, ← h.m, gapM]

/-! ### One place -/

/-- How far a place's doings lead. -/
def outB (y : Spot) : Nat := (pts y.put).length + (if y.k = 1 then 1 else 0)
theorem out_base (f : Bool) {x y : Spot} (hk : y.k = 1 → x.k = 1 ∨ x.k = 3) : baseU (outU f x y) = outB y := by
  rw [outU, baseU_append, outB]
  have h1 : baseU (if f then (pts x.put).map .I ++ List.replicate (pts y.put).length .K else List.replicate (pts y.put).length .K ++ (pts x.put).map .I) = (pts y.put).length := by
    cases f <;> simp only [if_true, Bool.false_eq_true, if_false, baseU_append, baseU_I, baseU_K] <;> omega
  rw [h1]
  congr 1
  by_cases h : y.k = 1
  · rw [if_pos h, if_pos h, base_kU _ (hk h)]
  · rw [if_neg h, if_neg h]; rfl
theorem out_mk (f : Bool) {x y : Spot} (g : Nat) (hk : y.k = 1 → x.k = 1 ∨ x.k = 3) :
    mkU g (outU f x y) = (if f then (pts x.put).map .inr ++ (List.range' g (pts y.put).length).map .inl else (List.range' g (pts y.put).length).map .inl ++ (pts x.put).map .inr) ++ (if y.k = 1 then (if decide (x.k = 3) then [] else [.inl (g + (pts y.put).length)]) else []) := by
  have hb : baseU (if f then (pts x.put).map .I ++ List.replicate (pts y.put).length .K else List.replicate (pts y.put).length .K ++ (pts x.put).map .I) = (pts y.put).length := by
    cases f <;> simp only [if_true, Bool.false_eq_true, if_false, baseU_append, baseU_I, baseU_K] <;> omega
  rw [outU, mkU_append, hb]
  congr 1
  · cases f
    · simp only [Bool.false_eq_true, if_false]
      rw [mkU_append, mkU_Ks, mkU_I]
    · simp only [if_true]
      rw [mkU_append, mkU_Ks, mkU_I, baseU_I, Nat.add_zero]
  · by_cases h : y.k = 1
    · rw [if_pos h, if_pos h]
      rcases hk h with h1 | h1
      · rw [h1]; rfl
      · rw [h1]; rfl
    · rw [if_neg h, if_neg h]; rfl
theorem tfU_snoc {f : Bool} {a b : List Spot} {x y : Spot} (h : a.length = b.length) : tfU f (a ++ [x]) (b ++ [y]) = tfU f a b ++ outU f x y := by
  unfold tfU
  rw [List.zipWith_append h]
  simp

/-- How many bytes are put in. -/
def sumSz (l : List Spot) : Nat := (l.map (fun s => s.put.size)).sum
theorem size4 {t : ByteArray} (h : 0 ≤ cpl t) : t.size ≤ 4 * (pts t).length := by
  have e := put_enc h
  have l := enc_len (pts t)
  rw [← e, mk_size, e]
  exact l
theorem sumSz_le : ∀ (l : List Spot), (∀ s ∈ l, 0 ≤ cpl s.put) → sumSz l ≤ 4 * tgtU (spW l)
  | [], _ => by simp [sumSz]
  | s :: l, h => by
    have h1 := sumSz_le l (fun x hx => h x (by simp [hx]))
    have h2 := size4 (h s (by simp))
    have e : sumSz (s :: l) = s.put.size + sumSz l := by simp [sumSz]
    rw [e, spW_cons, tgtU_append, spU, tgtU_append, tgt_Is]
    omega
theorem sumSz_take (l : List Spot) (k : Nat) : sumSz (l.take k) ≤ sumSz l := by
  have : sumSz l = sumSz (l.take k) + sumSz (l.drop k) := by
    rw [sumSz, sumSz, sumSz, ← List.sum_append, ← List.map_append, List.take_append_drop]
  omega
theorem tf_take (f : Bool) (a b : List Spot) (k : Nat) : baseU (tfU f (a.take k) (b.take k)) ≤ baseU (tfU f a b) := by
  have e : tfU f a b = tfU f (a.take k) (b.take k) ++ ((List.zipWith (outU f) a b).drop k).flatten := by
    unfold tfU
    rw [← List.take_zipWith, ← List.flatten_append, List.take_append_drop]
  rw [e, baseU_append]
  omega
/-- One place more. -/
theorem ti_step (f : Bool) {SX SY : List Spot} {t k : Nat} {x y : Spot} {ins : List ByteArray} {gone : List Bool} (h : TI t (baseU (tfU f (SX.take k) (SY.take k))) (sumSz (SX.take k)) (mkU 0 (tfU f (SX.take k) (SY.take k))) ins gone)
    (hx : SX[k]? = some x) (hy : SY[k]? = some y) (hl : SX.length = SY.length) (hv : 0 ≤ cpl x.put) (hk : y.k = 1 → x.k = 1 ∨ x.k = 3) (ht : baseU (tfU f SX SY) ≤ t) :
    baseU (tfU f (SX.take k) (SY.take k)) + outB y ≤ t ∧ baseU (tfU f (SX.take (k + 1)) (SY.take (k + 1))) = baseU (tfU f (SX.take k) (SY.take k)) + outB y ∧
    TI t (baseU (tfU f (SX.take (k + 1)) (SY.take (k + 1)))) (sumSz (SX.take (k + 1))) (mkU 0 (tfU f (SX.take (k + 1)) (SY.take (k + 1))))
      (catI ins (if f then baseU (tfU f (SX.take k) (SY.take k)) else baseU (tfU f (SX.take k) (SY.take k)) + (pts y.put).length) x.put)
      (if y.k = 1 then gone.set (baseU (tfU f (SX.take k) (SY.take k)) + (pts y.put).length) (decide (x.k = 3)) else gone) := by
  have hkx := (List.getElem?_eq_some_iff.1 hx).1
  have e1 : SX.take (k + 1) = SX.take k ++ [x] := by rw [List.take_add_one, hx]; rfl
  have e2 : SY.take (k + 1) = SY.take k ++ [y] := by rw [List.take_add_one, hy]; rfl
  have eT : tfU f (SX.take (k + 1)) (SY.take (k + 1)) = tfU f (SX.take k) (SY.take k) ++ outU f x y := by
    rw [e1, e2]
    exact tfU_snoc (by rw [List.length_take, List.length_take]; omega)
  have eB : baseU (tfU f (SX.take (k + 1)) (SY.take (k + 1))) = baseU (tfU f (SX.take k) (SY.take k)) + outB y := by rw [eT, baseU_append, out_base f hk]
  have hle := tf_take f SX SY (k + 1)
  have eM : mkU 0 (tfU f (SX.take (k + 1)) (SY.take (k + 1))) = mkU 0 (tfU f (SX.take k) (SY.take k)) ++ mkU (baseU (tfU f (SX.take k) (SY.take k))) (outU f x y) := by rw [eT, mkU_append, Nat.zero_add]
  have eZ : sumSz (SX.take (k + 1)) = sumSz (SX.take k) + x.put.size := by rw [e1]; simp [sumSz]
  refine ⟨by omega, eB, ?_⟩
  rw [eM, eZ, eB, out_mk f _ hk]
  rw [eB] at hle
  generalize baseU (tfU f (SX.take k) (SY.take k)) = g at *
  generalize mkU 0 (tfU f (SX.take k) (SY.take k)) = M at *
  have hob : outB y = (pts y.put).length + (if y.k = 1 then 1 else 0) := rfl
  rw [hob] at hle ⊢
  cases f with
  | true =>
    simp only [if_true]
    have T2 := ti_keep (ti_ins h hv (by omega)) (pts y.put).length
    by_cases hy1 : y.k = 1
    · rw [if_pos hy1] at hle
      rw [if_pos hy1, if_pos hy1, if_pos hy1]
      have T3 := ti_set T2 (decide (x.k = 3)) (by omega)
      rw [← Nat.add_assoc]
      simpa [List.append_assoc] using T3
    · rw [if_neg hy1, if_neg hy1, if_neg hy1]
      simpa [List.append_assoc] using T2
  | false =>
    simp only [Bool.false_eq_true, if_false]
    by_cases hy1 : y.k = 1
    · rw [if_pos hy1] at hle
      rw [if_pos hy1, if_pos hy1, if_pos hy1]
      have T2 := ti_ins (ti_keep h (pts y.put).length) hv (by omega)
      have T3 := ti_set T2 (decide (x.k = 3)) (by omega)
      rw [← Nat.add_assoc]
      simpa [List.append_assoc] using T3
    · rw [if_neg hy1] at hle
      rw [if_neg hy1, if_neg hy1, if_neg hy1]
      have T2 := ti_ins (ti_keep h (pts y.put).length) hv (by omega)
      simpa [List.append_assoc] using T2

/-- Check of a normal form of a base of at most 1000. -/
theorem stOf_op' {s : PS} (h : s.Ok) (hz : (∀ p, s ≠ .ins p) → s.z ≤ 1000) : stOf s.op = some s.st := by
  cases s with
  | keep n => exact stOf_op h (hz (by simp))
  | rem n => exact stOf_op h (hz (by simp))
  | ins p =>
    have h1 := (cpl_enc h.2).1
    have h2 := h.1
    simp only [PS.op, PS.st, St.op, stOf]
    rw [if_neg (by omega), if_pos ⟨trivial, trivial, by rw [h1]; omega⟩]
theorem z_base {s : PS} {l : List PS} (hs : s ∈ l) (h : ∀ p, s ≠ .ins p) : s.z ≤ baseU (pw l) := by
  induction l with
  | nil => simp at hs
  | cons a l ih =>
    rw [pw_cons, baseU_append]
    rcases List.mem_cons.1 hs with rfl | hs
    · cases s with
      | keep n => simp only [PS.z, PS.u, baseU_K]; omega
      | rem n => simp only [PS.z, PS.u, baseU_R]; omega
      | ins p => exact absurd rfl (h p)
    · have := ih hs; omega
theorem chk_nf {W : List U} (hp : PtsU W) (hb : baseU W ≤ 1000) (ht : tgtU W ≤ 2000) : chk ((nfU W).map PS.op) = (if 1000 < tgtU W then 91 else 0) ∧ ((nfU W).map PS.op).length ≤ 3000 := by
  have hn := nf_ok hp
  have he := nf_eqv W
  have hB : baseU (pw (nfU W)) = baseU W := he.1
  have hT : targU (pw (nfU W)) = tgtU W := by rw [he.targ, targU, tgt_targ]
  have hl := (len_z hn).1
  rw [hB, hT] at hl
  have hs : ∀ s ∈ nfU W, stOf s.op = some s.st := fun s hs => stOf_op' (hn s hs) (fun h => by have := z_base hs h; omega)
  have key : ∀ l : List PS, (∀ s ∈ l, stOf s.op = some s.st) → stl (l.map PS.op) = l.map PS.st := by
    intro l
    induction l with
    | nil => intro _; rfl
    | cons s l ih =>
      intro hq
      have h1 := ih (fun x hx => hq x (by simp [hx]))
      rw [stl] at h1 ⊢
      rw [List.map_cons, List.filterMap_cons, hq s (by simp), List.map_cons]
      simp only
      rw [h1]
  have e := key _ hs
  have hany : ((nfU W).map PS.op).any (fun o => (stOf o).isNone) = false := by
    rw [List.any_eq_false]
    intro o ho
    obtain ⟨s, hs', rfl⟩ := List.mem_map.1 ho
    rw [hs s hs']; simp
  have b1 : bsum ((nfU W).map PS.st) = baseU W := by rw [← base_uw, uw_st hn, hB]
  have t1 : tsum ((nfU W).map PS.st) = tgtU W := by rw [← targ_uw, uw_st hn, hT]
  refine ⟨?_, by rw [List.length_map]; omega⟩
  rw [chk, if_neg (by rw [List.length_map]; omega), hany, if_neg (by simp), e, b1, t1]
  congr 1
  simp only [eq_iff_iff]
  omega
/-- What Transform gives, as the normal form of a word. -/
theorem trR_nf (f : Bool) {A B : List OpD} (iA : ∀ o ∈ A, o.In) (iB : ∀ o ∈ B, o.In) (c1 : chk A = 0) (c2 : chk B = 0) (hb : bsum (stR A) = bsum (stR B)) :
    trR f A B = if 1000 < tgtU (tfU f (nS A) (nS B)) then ([], 91) else ((nfU (tfU f (nS A) (nS B))).map PS.op, 0) := by
  obtain ⟨hal, t1, t2, t3⟩ := tr_facts f iA iB hb
  rw [trR, if_pos c1, if_pos c2, if_pos hb]
  by_cases h : 1000 < tgtU (tfU f (nS A) (nS B))
  · rw [if_pos h] at t1
    rw [if_pos h, t1, chk_no _ (by rw [t1]; decide)]
    rfl
  · rw [if_neg h] at t1
    rw [if_neg h, t1, jn_eq (stR_ok t3), t2 t1]
end Go.Proofs.Ytphbjbigjpfjfaa
