/-
  What is common to two rows; words from one to the other. No walk.
-/
import Derived.Test.YtfhbkaiioiihjaaDoorDiE
namespace Go.Proofs.YtfhbkaiioiihjaaDoor
open Go.RowKit Go.PlainAid

theorem lc_has (a b : List Int) : ∃ c : List Int, c.Sublist a ∧ c.Sublist b ∧ c.length = lc a b := by
  induction a, b using lc.induct with
  | case1 b => exact ⟨[], by simp, by simp, by simp [lc]⟩
  | case2 x a => exact ⟨[], by simp, by simp, by simp [lc]⟩
  | case3 a x b ih =>
    obtain ⟨c, h1, h2, h3⟩ := ih
    exact ⟨x :: c, h1.cons_cons x, h2.cons_cons x, by rw [lc_eq, ← h3]; rfl⟩
  | case4 x a y b h ih1 ih2 =>
    obtain ⟨c, h1, h2, h3⟩ := ih1
    obtain ⟨d, g1, g2, g3⟩ := ih2
    rw [lc_ne (fun e => h e.symm)]
    by_cases q : lc (x :: a) b ≤ lc a (y :: b)
    · exact ⟨c, h1.cons x, h2, by omega⟩
    · exact ⟨d, g1, g2.cons y, by omega⟩
theorem lc_max (a b : List Int) : ∀ c : List Int, c.Sublist a → c.Sublist b → c.length ≤ lc a b := by
  induction a, b using lc.induct with
  | case1 b => intro c h1 _; simp at h1; simp [h1]
  | case2 x a => intro c _ h2; simp at h2; simp [h2]
  | case3 a x b ih =>
    intro c h1 h2
    have := ih c.tail h1.tail h2.tail
    rw [List.length_tail] at this
    rw [lc_eq]
    omega
  | case4 x a y b h ih1 ih2 =>
    intro c h1 h2
    rw [lc_ne (fun e => h e.symm)]
    cases h1 with
    | cons _ g => have := ih1 c g h2; omega
    | cons_cons _ g =>
      rename_i c'
      cases h2 with
      | cons _ k => have := ih2 (x :: c') (g.cons_cons x) k; omega
      | cons_cons _ k => exact absurd rfl h
theorem lc_comm (a b : List Int) : lc a b = lc b a := by
  obtain ⟨c, h1, h2, h3⟩ := lc_has a b
  obtain ⟨d, g1, g2, g3⟩ := lc_has b a
  have q1 := lc_max b a c h2 h1
  have q2 := lc_max a b d g2 g1
  omega
theorem lc_pre : ∀ (e a b : List Int), lc (e ++ a) (e ++ b) = e.length + lc a b
  | [], a, b => by simp
  | x :: e, a, b => by rw [List.cons_append, List.cons_append, lc_eq, lc_pre e a b, List.length_cons]; omega
theorem lc_rev (a b : List Int) : lc a.reverse b.reverse = lc a b := by
  obtain ⟨c, h1, h2, h3⟩ := lc_has a b
  obtain ⟨d, g1, g2, g3⟩ := lc_has a.reverse b.reverse
  have q1 := lc_max _ _ c.reverse (List.reverse_sublist.2 h1) (List.reverse_sublist.2 h2)
  have q2 := lc_max a b d.reverse (by have := List.reverse_sublist.2 g1; rwa [List.reverse_reverse] at this) (by have := List.reverse_sublist.2 g2; rwa [List.reverse_reverse] at this)
  rw [List.length_reverse] at q1 q2
  omega
theorem lc_suf (e a b : List Int) : lc (a ++ e) (b ++ e) = lc a b + e.length := by
  rw [← lc_rev, List.reverse_append, List.reverse_append, lc_pre, lc_rev, List.length_reverse]
  omega

/-- How many code points a word keeps. -/
def kU : List U → Nat
  | [] => 0
  | .K :: w => kU w + 1
  | .R :: w => kU w
  | .I _ :: w => kU w
theorem kU_marks : ∀ (w : List U) (i : Nat), ((mkU i w).filter (fun m => m.isLeft)).length = kU w
  | [], _ => rfl
  | .K :: w, i => by rw [mkU, List.filter_cons_of_pos rfl, List.length_cons, kU_marks w, kU]
  | .R :: w, i => by simp [mkU, kU, kU_marks w]
  | .I z :: w, i => by simp [mkU, kU, kU_marks w]
theorem kU_eqv {a b : List U} (h : Eqv a b) : kU a = kU b := by rw [← kU_marks a 0, ← kU_marks b 0, h.2]
theorem kU_append : ∀ a b : List U, kU (a ++ b) = kU a + kU b
  | [], b => by simp [kU]
  | .K :: a, b => by simp [kU, kU_append a b]; omega
  | .R :: a, b => by simp [kU, kU_append a b]
  | .I z :: a, b => by simp [kU, kU_append a b]
theorem kU_K (n : Nat) : kU (List.replicate n .K) = n := by
  induction n with
  | zero => rfl
  | succ n ih => rw [List.replicate_succ, kU, ih]
theorem kU_R (n : Nat) : kU (List.replicate n .R) = 0 := by
  induction n with
  | zero => rfl
  | succ n ih => rw [List.replicate_succ, kU, ih]
theorem kU_I (p : List Int) : kU (p.map .I) = 0 := by
  induction p with
  | nil => rfl
  | cons z p ih => rw [List.map_cons, kU, ih]

theorem alU_k (a b : List Int) : kU (alU a b) = lc a b := by
  induction a, b using alU.induct with
  | case1 => simp [alU, kU, lc]
  | case2 y b ih => rw [alU, kU, ih, lc_nil', lc_nil']
  | case3 x a ih => rw [alU, kU, ih, lc_nil, lc_nil]
  | case4 a x b ih => rw [alU_same, kU, ih, lc_eq]
  | case5 x a y b h c ih => rw [alU_gone h c, kU, ih, lc_ne (fun e => h e.symm)]; omega
  | case6 x a y b h c ih => rw [alU_put h c, kU, ih, lc_ne (fun e => h e.symm)]; omega
theorem alU_base (a b : List Int) : baseU (alU a b) = a.length := by
  induction a, b using alU.induct with
  | case1 => simp [alU, baseU]
  | case2 y b ih => rw [alU, baseU, ih]
  | case3 x a ih => rw [alU, baseU, ih, List.length_cons]; omega; intro z e; cases e
  | case4 a x b ih => rw [alU_same, baseU, ih, List.length_cons]; omega; intro z e; cases e
  | case5 x a y b h c ih => rw [alU_gone h c, baseU, ih, List.length_cons]; omega; intro z e; cases e
  | case6 x a y b h c ih => rw [alU_put h c, baseU, ih]
theorem alU_pts (a b : List Int) (hp : ∀ z ∈ b, szI z ≠ 0) : PtsU (alU a b) := by
  induction a, b using alU.induct with
  | case1 => intro z hz; simp [alU] at hz
  | case2 y b ih =>
    intro z hz
    rw [alU] at hz
    rcases List.mem_cons.1 hz with e | hz
    · cases e; exact hp _ (by simp)
    · exact ih (fun q hq => hp q (by simp [hq])) z hz
  | case3 x a ih =>
    intro z hz
    rw [alU] at hz
    rcases List.mem_cons.1 hz with e | hz
    · cases e
    · exact ih hp z hz
  | case4 a x b ih =>
    intro z hz
    rw [alU_same] at hz
    rcases List.mem_cons.1 hz with e | hz
    · cases e
    · exact ih (fun q hq => hp q (by simp [hq])) z hz
  | case5 x a y b h c ih =>
    intro z hz
    rw [alU_gone h c] at hz
    rcases List.mem_cons.1 hz with e | hz
    · cases e
    · exact ih hp z hz
  | case6 x a y b h c ih =>
    intro z hz
    rw [alU_put h c] at hz
    rcases List.mem_cons.1 hz with e | hz
    · cases e; exact hp _ (by simp)
    · exact ih (fun q hq => hp q (by simp [hq])) z hz
theorem drop_hd {zs a : List Int} {x : Int} {i : Nat} (h : zs.drop i = x :: a) : zs.getD i 0 = x ∧ zs.drop (i + 1) = a := by
  have e1 : zs[i]? = some x := by have := congrArg (fun l : List Int => l[0]?) h; simpa using this
  refine ⟨by rw [List.getD_eq_getElem?_getD, e1]; rfl, ?_⟩
  have := congrArg List.tail h
  simpa using this
theorem alU_ap (zs : List Int) (a b : List Int) : ∀ i, zs.drop i = a → apM zs (mkU i (alU a b)) = b := by
  induction a, b using alU.induct with
  | case1 => intro i _; simp [alU, mkU, apM]
  | case2 y b ih => intro i h; rw [alU, mkU]; have := ih i h; simp only [apM, List.map_cons] at this ⊢; rw [this]
  | case3 x a ih => intro i h; rw [alU, mkU]; exact ih (i + 1) (drop_hd h).2
  | case4 a x b ih => intro i h; rw [alU_same, mkU]; have := ih (i + 1) (drop_hd h).2; simp only [apM, List.map_cons] at this ⊢; rw [this, (drop_hd h).1]
  | case5 x a y b h c ih => intro i h1; rw [alU_gone h c, mkU]; exact ih (i + 1) (drop_hd h1).2
  | case6 x a y b h c ih => intro i h1; rw [alU_put h c, mkU]; have := ih i h1; simp only [apM, List.map_cons] at this ⊢; rw [this]
/-- No word keeps more than is common. -/
theorem kU_le (zs : List Int) : ∀ (w : List U) (i : Nat), i + baseU w ≤ zs.length → ∃ c : List Int, c.Sublist (zs.drop i) ∧ c.Sublist (apM zs (mkU i w)) ∧ c.length = kU w
  | [], _, _ => ⟨[], by simp, by simp, rfl⟩
  | .K :: w, i, h => by
    simp only [baseU] at h
    obtain ⟨c, h1, h2, h3⟩ := kU_le zs w (i + 1) (by omega)
    have hi : i < zs.length := by omega
    refine ⟨zs[i] :: c, ?_, ?_, by simp [kU, h3]⟩
    · rw [← List.getElem_cons_drop hi]; exact h1.cons_cons _
    · rw [mkU]
      have e : zs.getD i 0 = zs[i] := by simp [hi]
      simp only [apM, List.map_cons, e] at h2 ⊢
      exact h2.cons_cons _
  | .R :: w, i, h => by
    simp only [baseU] at h
    obtain ⟨c, h1, h2, h3⟩ := kU_le zs w (i + 1) (by omega)
    have hi : i < zs.length := by omega
    refine ⟨c, ?_, h2, by simp [kU, h3]⟩
    rw [← List.getElem_cons_drop hi]; exact h1.cons _
  | .I z :: w, i, h => by
    simp only [baseU] at h
    obtain ⟨c, h1, h2, h3⟩ := kU_le zs w i h
    refine ⟨c, h1, ?_, by simp [kU, h3]⟩
    rw [mkU]
    simp only [apM, List.map_cons] at h2 ⊢
    exact h2.cons _
theorem alU_targ (a b : List Int) : targU (alU a b) = b.length := by
  have := congrArg List.length (alU_ap a a b 0 rfl)
  simp only [apM, List.length_map] at this
  exact this

def psU : U → PS
  | .K => .keep 1
  | .R => .rem 1
  | .I z => .ins [z]
theorem uop_ps (u : U) : uop u = (psU u).op := by
  cases u with
  | K => rfl
  | R => rfl
  | I z => simp [uop, psU, PS.op, PS.st, St.op, enc]
theorem pw_psU : ∀ C : List U, pw (C.map psU) = C
  | [] => rfl
  | u :: C => by
    rw [List.map_cons, pw_cons, pw_psU C]
    cases u <;> rfl
theorem psU_ok {C : List U} (h : PtsU C) : ∀ s ∈ C.map psU, s.Ok := by
  intro s hs
  obtain ⟨u, hu, rfl⟩ := List.mem_map.1 hs
  cases u with
  | K => simp [psU, PS.Ok]
  | R => simp [psU, PS.Ok]
  | I z =>
    have hz : szI z ≠ 0 := h z hu
    exact ⟨by simp, fun y hy => by simp at hy; rw [hy]; exact hz⟩
/-- Single operations of a word are a delta, with that word. -/
theorem uops {C : List U} (h : PtsU C) (h1 : baseU C ≤ 1000) (h2 : targU C ≤ 1000) : chk (C.map uop) = 0 ∧ uw (stR (C.map uop)) = C := by
  have e : C.map uop = (C.map psU).map PS.op := by rw [List.map_map]; exact List.map_congr_left (fun u _ => uop_ps u)
  have hk := psU_ok h
  have := chk_ps hk (by rw [pw_psU]; exact h1) (by rw [pw_psU]; exact h2)
  rw [e]
  exact ⟨this.1, by rw [this.2, uw_st hk, pw_psU]⟩

/-- How many code points a delta keeps. -/
def kpL (l : List OpD) : Int := (l.map fun o => if o.k = 1 then o.n else 0).sum
theorem kpL_st : ∀ l : List St, kpL (l.map St.op) = (kU (uw l) : Int)
  | [] => rfl
  | s :: l => by
    have ih := kpL_st l
    unfold kpL at ih ⊢
    rw [uw_cons, kU_append, List.map_cons, List.map_cons, List.sum_cons, ih]
    cases s with
    | keep n => simp only [St.op, St.u, kU_K]; simp
    | rem n => simp only [St.op, St.u, kU_R]; simp
    | ins t => simp only [St.op, St.u, kU_I]; simp
end Go.Proofs.YtfhbkaiioiihjaaDoor
