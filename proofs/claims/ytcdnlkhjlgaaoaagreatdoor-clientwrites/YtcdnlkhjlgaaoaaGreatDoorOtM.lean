/-
  The marks of a and then b are b's, with a's in the places of those that b keeps. No walk.
-/
import Derived.Test.YtcdnlkhjlgaaoaaGreatDoorOtF
import Derived.Test.YtcdnlkhjlgaaoaaGreatDoorOtI
namespace Go.Proofs.YtcdnlkhjlgaaoaaGreatDoor
open Go.RowKit Go.PlainAid

/-- What b makes of a row of marks. -/
def sb : List (Nat ⊕ Int) → List U → List (Nat ⊕ Int)
  | _, [] => []
  | ma, .I z :: b => .inr z :: sb ma b
  | m :: ma, .K :: b => m :: sb ma b
  | _ :: ma, .R :: b => sb ma b
  | [], .K :: _ => []
  | [], .R :: _ => []

theorem tgt_marks : ∀ (l : List U) (i : Nat), (mkU i l).length = tgtU l
  | [], _ => rfl
  | .K :: l, i => by rw [mkU, List.length_cons, tgt_marks l]; rfl
  | .R :: l, i => by rw [mkU, tgt_marks l]; rfl
  | .I z :: l, i => by rw [mkU, List.length_cons, tgt_marks l]; rfl

theorem both_nil {x y : List U} (e1 : ∀ a, ¬ x = U.R :: a) (e2 : ∀ z b, x = [] → ¬ y = U.I z :: b) (e3 : ∀ a z b, x = U.K :: a → ¬ y = U.I z :: b) (e4 : ∀ w a z b, x = U.I w :: a → ¬ y = U.I z :: b)
    (e5 : ∀ a b, x = U.K :: a → ¬ y = U.K :: b) (e6 : ∀ z a b, x = U.I z :: a → ¬ y = U.K :: b) (e7 : ∀ a b, x = U.K :: a → ¬ y = U.R :: b) (e8 : ∀ z a b, x = U.I z :: a → ¬ y = U.R :: b) (h : tgtU x = baseU y) : x = [] ∧ y = [] := by
  rcases x with _ | ⟨u, a⟩
  · rcases y with _ | ⟨v, b⟩
    · exact ⟨rfl, rfl⟩
    · cases v with
      | K => simp only [tgtU, baseU] at h; omega
      | R => simp only [tgtU, baseU] at h; omega
      | I z => exact absurd rfl (e2 z b rfl)
  · cases u with
    | R => exact absurd rfl (e1 a)
    | K =>
      rcases y with _ | ⟨v, b⟩
      · simp only [tgtU, baseU] at h; omega
      · cases v with
        | K => exact absurd rfl (e5 a b rfl)
        | R => exact absurd rfl (e7 a b rfl)
        | I z => exact absurd rfl (e3 a z b rfl)
    | I w =>
      rcases y with _ | ⟨v, b⟩
      · simp only [tgtU, baseU] at h; omega
      · cases v with
        | K => exact absurd rfl (e6 w a b rfl)
        | R => exact absurd rfl (e8 w a b rfl)
        | I z => exact absurd rfl (e4 w a z b rfl)

theorem cmp_sb (a b : List U) : ∀ i, tgtU a = baseU b → mkU i (cmp a b) = sb (mkU i a) b := by
  induction a, b using cmp.induct <;> intro i h <;> simp_all [cmp, mkU, sb, tgtU, baseU]
  all_goals first | (rename_i ih; exact ih _ (by omega)) | (rename_i x y e1 e2 e3 e4 e5 e6 e7 e8; obtain ⟨rfl, rfl⟩ := both_nil e1 e2 e3 e4 e5 e6 e7 e8 h; rfl)
theorem cmp_base (a b : List U) : tgtU a = baseU b → baseU (cmp a b) = baseU a := by
  induction a, b using cmp.induct <;> intro h <;> simp_all [cmp, tgtU, baseU]
  all_goals first | (rename_i ih; exact ih (by omega)) | (rename_i x y e1 e2 e3 e4 e5 e6 e7 e8; obtain ⟨rfl, rfl⟩ := both_nil e1 e2 e3 e4 e5 e6 e7 e8 h; rfl)
theorem cmp_tgt (a b : List U) : tgtU a = baseU b → tgtU (cmp a b) = tgtU b := by
  induction a, b using cmp.induct <;> intro h <;> simp_all [cmp, tgtU, baseU]
  all_goals first | (rename_i ih; exact ih (by omega)) | (rename_i x y e1 e2 e3 e4 e5 e6 e7 e8; obtain ⟨rfl, rfl⟩ := both_nil e1 e2 e3 e4 e5 e6 e7 e8 h; rfl)

/-- A mark, with the mark that stands there. -/
def sub (ma : List (Nat ⊕ Int)) : Nat ⊕ Int → Nat ⊕ Int
  | .inl j => ma.getD j (.inr 0)
  | .inr z => .inr z
theorem sb_sub (ma : List (Nat ⊕ Int)) : ∀ (b : List U) (k : Nat), k + baseU b ≤ ma.length → sb (ma.drop k) b = (mkU k b).map (sub ma)
  | [], k, _ => by simp [sb, mkU]
  | .I z :: b, k, h => by
    have := sb_sub ma b k (by simpa [baseU] using h)
    simp [sb, mkU, sub, this]
  | .K :: b, k, h => by
    simp only [baseU] at h
    have := sb_sub ma b (k + 1) (by omega)
    rw [List.drop_eq_getElem_cons (by omega), sb, this, mkU]
    simp [sub, List.getD_eq_getElem?_getD, List.getElem?_eq_getElem (show k < ma.length by omega)]
  | .R :: b, k, h => by
    simp only [baseU] at h
    have := sb_sub ma b (k + 1) (by omega)
    rw [List.drop_eq_getElem_cons (by omega), sb, this, mkU]
/-- The marks of a and then b. -/
theorem cmp_marks (a b : List U) (i : Nat) (h : tgtU a = baseU b) : mkU i (cmp a b) = (mkU 0 b).map (sub (mkU i a)) := by
  rw [cmp_sb a b i h, ← sb_sub (mkU i a) b 0 (by rw [tgt_marks]; omega), List.drop_zero]

theorem marks_lt : ∀ (l : List U) (k j : Nat), Sum.inl j ∈ mkU k l → j < k + baseU l
  | [], _, _, h => by simp [mkU] at h
  | .K :: l, k, j, h => by
    simp only [mkU, List.mem_cons] at h
    rcases h with h | h
    · cases h; simp only [baseU]; omega
    · have := marks_lt l _ _ h; simp only [baseU]; omega
  | .R :: l, k, j, h => by
    have := marks_lt l _ _ (by simpa [mkU] using h); simp only [baseU]; omega
  | .I z :: l, k, j, h => by
    simp only [mkU, List.mem_cons, reduceCtorEq, false_or] at h
    have := marks_lt l _ _ h; simp only [baseU]; omega
/-- From the left or from the right: the same marks, the same base. -/
theorem cmp_assoc (a b c : List U) (h1 : tgtU a = baseU b) (h2 : tgtU b = baseU c) : Eqv (cmp (cmp a b) c) (cmp a (cmp b c)) := by
  have hb1 := cmp_base a b h1
  have hb2 := cmp_base b c h2
  have ht1 := cmp_tgt a b h1
  refine ⟨?_, fun i => ?_⟩
  · rw [cmp_base (cmp a b) c (by rw [ht1, h2]), cmp_base a (cmp b c) (by rw [h1, hb2]), hb1]
  · rw [cmp_marks (cmp a b) c i (by rw [ht1, h2]), cmp_marks a b i h1, cmp_marks a (cmp b c) i (by rw [h1, hb2]), cmp_marks b c 0 h2, List.map_map]
    refine List.map_congr_left (fun m hm => ?_)
    cases m with
    | inr z => rfl
    | inl j =>
      have hj := marks_lt c 0 j hm
      have hl : j < (mkU 0 b).length := by rw [tgt_marks]; omega
      simp only [Function.comp, sub, List.getD_eq_getElem?_getD, List.getElem?_map, List.getElem?_eq_getElem hl, Option.map_some, Option.getD_some]
end Go.Proofs.YtcdnlkhjlgaaoaaGreatDoor

/-
  What Compose gives, as a word. No walk.
-/
namespace Go.Proofs.YtcdnlkhjlgaaoaaGreatDoor
open Go.RowKit Go.PlainAid

def psU : U → PS
  | .K => .keep 1
  | .R => .rem 1
  | .I z => .ins [z]
theorem uop_ps (u : U) : uop u = (psU u).op := by
  cases u with
  | K => rfl
  | R => rfl
  | I z => simp [uop, psU, PS.op, PS.st, St.op, enc]
theorem pw_psU : ∀ C : List U, pw (C.map psU) = C
  | [] => rfl
  | u :: C => by
    rw [List.map_cons, pw_cons, pw_psU C]
    cases u <;> rfl
theorem pts_cmp (a b : List U) : PtsU a → PtsU b → PtsU (cmp a b) := by
  induction a, b using cmp.induct <;> intro ha hb <;> simp_all [cmp, PtsU]
theorem psU_ok {C : List U} (h : PtsU C) : ∀ s ∈ C.map psU, s.Ok := by
  intro s hs
  obtain ⟨u, hu, rfl⟩ := List.mem_map.1 hs
  cases u with
  | K => simp [psU, PS.Ok]
  | R => simp [psU, PS.Ok]
  | I z =>
    have hz : szI z ≠ 0 := h z hu
    exact ⟨by simp, fun y hy => by simp at hy; rw [hy]; exact hz⟩
/-- Single operations of a word are a delta, with that word. -/
theorem uops {C : List U} (h : PtsU C) (h1 : baseU C ≤ 1000) (h2 : tgtU C ≤ 1000) : chk (C.map uop) = 0 ∧ uw (stR (C.map uop)) = C := by
  have e : C.map uop = (C.map psU).map PS.op := by rw [List.map_map]; exact List.map_congr_left (fun u _ => uop_ps u)
  have hk := psU_ok h
  have ht : targU C = tgtU C := by rw [targU, tgt_targ]
  have := chk_ps hk (by rw [pw_psU]; exact h1) (by rw [pw_psU, ht]; exact h2)
  rw [e]
  exact ⟨this.1, by rw [this.2, uw_st hk, pw_psU]⟩

/-- Where Compose gives a delta: its error is 0, and its word is a's and then b's. -/
theorem coR_ok {A B : List OpD} (iA : ∀ o ∈ A, o.In) (iB : ∀ o ∈ B, o.In) (c1 : chk A = 0) (c2 : chk B = 0) (ct : tsum (stR A) = bsum (stR B)) :
    (coR A B).2 = 0 ∧ (coR A B).1 = jn (stR ((cpW A B).map uop)) ∧ uw (stR ((cpW A B).map uop)) = cpW A B ∧ baseU (cpW A B) = bsum (stR A) ∧ tgtU (cpW A B) = tsum (stR B) := by
  have okA := stR_ok iA
  have okB := stR_ok iB
  have bdA := stR_bd A
  have bdB := stR_bd B
  obtain ⟨a1, a2, a3, a4, a5⟩ := normal_facts okA bdA.1 bdA.2
  obtain ⟨b1, b2, b3, b4, b5⟩ := normal_facts okB bdB.1 bdB.2
  have jA := jn_in okA bdA.1 bdA.2
  have jB := jn_in okB bdB.1 bdB.2
  have ht : tgtU (uw (stR (jn (stR A)))) = baseU (uw (stR (jn (stR B)))) := by rw [tgt_uw, base_uw, a5, b4, ct]
  have hb : baseU (cpW A B) = bsum (stR A) := by rw [cpW, cmp_base _ _ ht, base_uw, a4]
  have hg : tgtU (cpW A B) = tsum (stR B) := by rw [cpW, cmp_tgt _ _ ht, tgt_uw, b5]
  have hp : PtsU (cpW A B) := pts_cmp _ _ (ptsU_uw (stR_ok jA.2)) (ptsU_uw (stR_ok jB.2))
  obtain ⟨u1, u2⟩ := uops hp (by rw [hb]; exact bdA.1) (by rw [hg]; exact bdB.2)
  have e : coR A B = (jn (stR ((cpW A B).map uop)), chk ((cpW A B).map uop)) := by rw [coR, if_pos c1, if_pos c2, if_pos ct]
  rw [e]
  exact ⟨u1, rfl, u2, hb, hg⟩
end Go.Proofs.YtcdnlkhjlgaaoaaGreatDoor

/-
  Three deltas put together from the left or from the right. No walk.
-/
namespace Go.Proofs.YtcdnlkhjlgaaoaaGreatDoor
open Go.RowKit Go.PlainAid

theorem eqv_tgt {a b : List U} (h : Eqv a b) : tgtU a = tgtU b := by rw [← tgt_targ a 0, ← tgt_targ b 0, h.2]
theorem cmp_eqv {a a' b b' : List U} (h1 : Eqv a a') (h2 : Eqv b b') (h : tgtU a = baseU b) : Eqv (cmp a b) (cmp a' b') := by
  have h' : tgtU a' = baseU b' := by rw [← eqv_tgt h1, h, h2.1]
  refine ⟨?_, fun i => ?_⟩
  · rw [cmp_base a b h, cmp_base a' b' h', h1.1]
  · rw [cmp_marks a b i h, cmp_marks a' b' i h', h1.2, h2.2]
theorem coR_zero {A B : List OpD} (h : (coR A B).2 = 0) : chk A = 0 ∧ chk B = 0 ∧ tsum (stR A) = bsum (stR B) := by
  rw [coR] at h
  split at h
  · rename_i c1
    split at h
    · rename_i c2
      split at h
      · rename_i c3; exact ⟨c1, c2, c3⟩
      · simp at h
    · rename_i c2; exact absurd h c2
  · rename_i c1; exact absurd h c1

/-- What Compose gave, as one of a pair. -/
theorem co_facts {A B : List OpD} (iA : ∀ o ∈ A, o.In) (iB : ∀ o ∈ B, o.In) (h : (coR A B).2 = 0) :
    (∀ o ∈ (coR A B).1, o.In) ∧ chk (coR A B).1 = 0 ∧ jn (stR (coR A B).1) = (coR A B).1 ∧ Eqv (uw (stR (coR A B).1)) (cpW A B) ∧ bsum (stR (coR A B).1) = bsum (stR A) ∧ tsum (stR (coR A B).1) = tsum (stR B) := by
  obtain ⟨c1, c2, ct⟩ := coR_zero h
  obtain ⟨k1, k2, k3, k4, k5⟩ := coR_ok iA iB c1 c2 ct
  have hok : ∀ s ∈ stR ((cpW A B).map uop), s.Ok := stR_ok (fun o ho => by obtain ⟨u, _, rfl⟩ := List.mem_map.1 ho; exact uop_in u)
  have bd := stR_bd ((cpW A B).map uop)
  obtain ⟨n1, n2, n3, n4, n5⟩ := normal_facts hok bd.1 bd.2
  have hb : bsum (stR ((cpW A B).map uop)) = bsum (stR A) := by rw [← base_uw, k3, k4]
  have ht : tsum (stR ((cpW A B).map uop)) = tsum (stR B) := by rw [← tgt_uw, k3, k5]
  rw [k2]
  refine ⟨(jn_in hok bd.1 bd.2).2, n1, n2, ?_, by rw [n4, hb], by rw [n5, ht]⟩
  rw [k3] at n3
  exact n3

theorem jn_eqv {l l' : List St} (h1 : ∀ s ∈ l, s.Ok) (h2 : ∀ s ∈ l', s.Ok) (h : Eqv (uw l) (uw l')) : jn l = jn l' := by
  rw [jn_eq h1, jn_eq h2, nf_of_marks h.1 (h.2 0)]

theorem joins {A B C : List OpD} (iA : ∀ o ∈ A, o.In) (iB : ∀ o ∈ B, o.In) (iC : ∀ o ∈ C, o.In) (h1 : (coR A B).2 = 0) (h2 : (coR B C).2 = 0) :
    (coR (coR A B).1 C).2 = 0 ∧ (coR A (coR B C).1).2 = 0 ∧ (coR (coR A B).1 C).1 = (coR A (coR B C).1).1 := by
  obtain ⟨a1, a2, a3⟩ := coR_zero h1
  obtain ⟨b1, b2, b3⟩ := coR_zero h2
  obtain ⟨x0, x1, x2, x3, x4, x5⟩ := co_facts iA iB h1
  obtain ⟨y0, y1, y2, y3, y4, y5⟩ := co_facts iB iC h2
  have l := coR_ok x0 iC x1 b2 (by rw [x5, b3])
  have r := coR_ok iA y0 a1 y1 (by rw [a3, y4])
  refine ⟨l.1, r.1, ?_⟩
  rw [l.2.1, r.2.1]
  have hu : ∀ D : List U, ∀ s ∈ stR (D.map uop), s.Ok := fun D => stR_ok (fun o ho => by obtain ⟨u, _, rfl⟩ := List.mem_map.1 ho; exact uop_in u)
  refine jn_eqv (hu _) (hu _) ?_
  rw [l.2.2.1, r.2.2.1]
  have okA := stR_ok iA
  have okB := stR_ok iB
  have okC := stR_ok iC
  obtain ⟨_, _, _, _, n5⟩ := normal_facts okA (stR_bd A).1 (stR_bd A).2
  obtain ⟨_, _, _, m4, m5⟩ := normal_facts okB (stR_bd B).1 (stR_bd B).2
  obtain ⟨_, _, _, o4, _⟩ := normal_facts okC (stR_bd C).1 (stR_bd C).2
  have hAB : tgtU (uw (stR (jn (stR A)))) = baseU (uw (stR (jn (stR B)))) := by rw [tgt_uw, base_uw, n5, m4, a3]
  have hBC : tgtU (uw (stR (jn (stR B)))) = baseU (uw (stR (jn (stR C)))) := by rw [tgt_uw, base_uw, m5, o4, b3]
  have e1 : Eqv (cpW (coR A B).1 C) (cmp (cmp (uw (stR (jn (stR A)))) (uw (stR (jn (stR B))))) (uw (stR (jn (stR C))))) := by
    rw [cpW, x2]
    exact cmp_eqv x3 ⟨rfl, fun _ => rfl⟩ (by rw [tgt_uw, base_uw, x5, o4, b3])
  have e2 : Eqv (cpW A (coR B C).1) (cmp (uw (stR (jn (stR A)))) (cmp (uw (stR (jn (stR B)))) (uw (stR (jn (stR C)))))) := by
    rw [cpW, y2]
    exact cmp_eqv ⟨rfl, fun _ => rfl⟩ y3 (by rw [tgt_uw, base_uw, n5, y4, a3])
  have e3 := cmp_assoc _ _ _ hAB hBC
  exact ⟨e1.1.trans (e3.1.trans e2.1.symm), fun i => (e1.2 i).trans ((e3.2 i).trans (e2.2 i).symm)⟩
end Go.Proofs.YtcdnlkhjlgaaoaaGreatDoor
