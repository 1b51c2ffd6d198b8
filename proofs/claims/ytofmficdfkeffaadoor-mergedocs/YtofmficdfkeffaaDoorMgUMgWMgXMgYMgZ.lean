/-
  What a merged row holds: each side's order, no atom twice, how many. No walk.
-/
import Derived.Test.YtofmficdfkeffaaDoorMgR
namespace Go.Proofs.YtofmficdfkeffaaDoor
open Go.ChangeShapes Go.WideShapes Go.ChangeAt Go.RowKit Go.PlainAid

theorem fdA_pl (x : Atm) : ∀ (l : List Atm) (i : Nat), fdA x l i = match plK l x.key with | none => -1 | some j => ((i + j : Nat) : Int)
  | [], i => by simp [fdA, plK, kL]
  | y :: l, i => by
    rw [fdA]
    by_cases h : y.same x = true
    · have hk := same_iff.1 h
      rw [if_pos h]
      simp [plK, kL, List.findIdx?_cons, hk]
    · have hk : ¬ y.key = x.key := fun e => h (same_iff.2 e)
      rw [if_neg h, fdA_pl x l (i + 1)]
      unfold plK kL
      rw [List.map_cons, List.findIdx?_cons]
      simp only [hk, decide_false, Bool.false_eq_true, if_false]
      cases (List.map Atm.key l).findIdx? (fun y => decide (y = x.key)) with
      | none => rfl
      | some j => simp only [Option.map_some]; congr 1; omega
theorem fdA_has {x : Atm} {l : List Atm} : 0 ≤ fdA x l 0 ↔ hasK l x = true := by
  rw [fdA_pl, hasK_pl]
  cases plK l x.key with
  | none => simp
  | some j => simp
theorem fdA_not {x : Atm} {l : List Atm} : fdA x l 0 < 0 ↔ hasK l x = false := by
  have := fdA_has (x := x) (l := l)
  cases h : hasK l x
  · rw [h] at this
    simp only [Bool.false_eq_true, iff_false] at this
    exact ⟨fun _ => rfl, fun _ => by omega⟩
  · rw [h] at this
    simp only [iff_true] at this
    exact ⟨fun h => by omega, fun h => by cases h⟩
/-- The last place so far. -/
def lpA (X : List Atm) : Int → List Atm → Int
  | last, [] => last
  | last, u :: l => lpA X (if 0 ≤ fdA u X 0 then fdA u X 0 else last) l
theorem lpA_snoc (X : List Atm) : ∀ (l : List Atm) (last : Int) (u : Atm), lpA X last (l ++ [u]) = if 0 ≤ fdA u X 0 then fdA u X 0 else lpA X last l
  | [], last, u => by simp [lpA]
  | v :: l, last, u => by rw [List.cons_append, lpA, lpA_snoc X l, lpA]
theorem lpA_take {X M : List Atm} {k : Nat} (hk : k < M.length) : lpA X (-1) (M.take (k + 1)) = if 0 ≤ fdA M[k] X 0 then fdA M[k] X 0 else lpA X (-1) (M.take k) := by
  rw [List.take_succ_eq_append_getElem hk, lpA_snoc]
theorem lpA_is (X : List Atm) : ∀ (l : List Atm) (last : Int), lpA X last l = last ∨ ∃ u ∈ l, 0 ≤ fdA u X 0 ∧ lpA X last l = fdA u X 0
  | [], last => .inl rfl
  | v :: l, last => by
    rw [lpA]
    rcases lpA_is X l (if 0 ≤ fdA v X 0 then fdA v X 0 else last) with h | ⟨u, hu, h0, h⟩
    · by_cases hv : 0 ≤ fdA v X 0
      · rw [if_pos hv] at h ⊢
        exact .inr ⟨v, by simp, hv, h⟩
      · rw [if_neg hv] at h ⊢
        exact .inl h
    · exact .inr ⟨u, by simp [hu], h0, h⟩
/-- In the order of X. -/
def Ord (X M : List Atm) : Prop := M.Pairwise fun u v => 0 ≤ fdA u X 0 → 0 ≤ fdA v X 0 → fdA u X 0 < fdA v X 0
theorem lp_lt {X M : List Atm} (h : Ord X M) {k : Nat} (hk : k < M.length) (h0 : 0 ≤ fdA M[k] X 0) : lpA X (-1) (M.take k) < fdA M[k] X 0 := by
  rcases lpA_is X (M.take k) (-1) with e | ⟨u, hu, hu0, e⟩
  · rw [e]; omega
  · rw [e]
    have hM : M = M.take k ++ M[k] :: M.drop (k + 1) := by rw [← List.drop_eq_getElem_cons hk, List.take_append_drop]
    unfold Ord at h
    rw [hM, List.pairwise_append] at h
    exact h.2.2 u hu _ List.mem_cons_self hu0 h0
theorem ord_of {X M : List Atm} (nX : (kL X).Nodup) (h : (M.filter (hasK X)).Sublist X) : Ord X M := by
  have hX : X.Pairwise fun u v => fdA u X 0 < fdA v X 0 := by
    rw [List.pairwise_iff_getElem]
    intro i j hi hj hij
    rw [fdA_nodup X 0 i X[i] (List.getElem?_eq_getElem hi) nX, fdA_nodup X 0 j X[j] (List.getElem?_eq_getElem hj) nX]
    omega
  have hL := hX.sublist h
  rw [List.pairwise_filter] at hL
  exact hL.imp fun hR h1 h2 => hR (fdA_has.1 h1) (fdA_has.1 h2)
theorem mg_fl (t : Int) (q : Atm → Bool) : ∀ (GX GY : List (List Atm)) (S : List Atm), GX.length = GY.length → (∀ u ∈ GX.flatten, q u = true) → (∀ u ∈ GY.flatten, q u = false) → (∀ u ∈ S, q u = true) → (mgG t GX GY S).filter q = ilv GX S
  | [], [], S, _, _, _, _ => by simp [mgG, ilv]
  | [], _ :: _, _, h, _, _, _ => by simp at h
  | _ :: _, [], _, h, _, _, _ => by simp at h
  | g :: GX, h :: GY, S, hl, h1, h2, h3 => by
    have ih := mg_fl t q GX GY S.tail (by simpa using hl) (fun u hu => h1 u (by simp only [List.flatten_cons, List.mem_append]; exact .inr hu)) (fun u hu => h2 u (by simp only [List.flatten_cons, List.mem_append]; exact .inr hu)) (fun u hu => h3 u (List.mem_of_mem_tail hu))
    have e1 : g.filter q = g := List.filter_eq_self.2 fun u hu => h1 u (by simp only [List.flatten_cons, List.mem_append]; exact .inl hu)
    have e2 : h.filter q = [] := List.filter_eq_nil_iff.2 fun u hu => by rw [h2 u (by simp only [List.flatten_cons, List.mem_append]; exact .inl hu)]; simp
    have e3 : S.head?.toList.filter q = S.head?.toList := List.filter_eq_self.2 fun u hu => h3 u (by
      cases S with
      | nil => simp at hu
      | cons a S => simp at hu; subst hu; simp)
    rw [mgG, ilv, List.filter_append, List.filter_append, ih, e3]
    congr 1
    unfold prM
    split <;> rw [List.filter_append, e1, e2] <;> simp
theorem mg_fr (t : Int) (q : Atm → Bool) : ∀ (GX GY : List (List Atm)) (S : List Atm), GX.length = GY.length → (∀ u ∈ GX.flatten, q u = false) → (∀ u ∈ GY.flatten, q u = true) → (∀ u ∈ S, q u = true) → (mgG t GX GY S).filter q = ilv GY S
  | [], [], S, _, _, _, _ => by simp [mgG, ilv]
  | [], _ :: _, _, h, _, _, _ => by simp at h
  | _ :: _, [], _, h, _, _, _ => by simp at h
  | g :: GX, h :: GY, S, hl, h1, h2, h3 => by
    have ih := mg_fr t q GX GY S.tail (by simpa using hl) (fun u hu => h1 u (by simp only [List.flatten_cons, List.mem_append]; exact .inr hu)) (fun u hu => h2 u (by simp only [List.flatten_cons, List.mem_append]; exact .inr hu)) (fun u hu => h3 u (List.mem_of_mem_tail hu))
    have e1 : h.filter q = h := List.filter_eq_self.2 fun u hu => h2 u (by simp only [List.flatten_cons, List.mem_append]; exact .inl hu)
    have e2 : g.filter q = [] := List.filter_eq_nil_iff.2 fun u hu => by rw [h1 u (by simp only [List.flatten_cons, List.mem_append]; exact .inl hu)]; simp
    have e3 : S.head?.toList.filter q = S.head?.toList := List.filter_eq_self.2 fun u hu => h3 u (by
      cases S with
      | nil => simp at hu
      | cons a S => simp at hu; subst hu; simp)
    rw [mgG, ilv, List.filter_append, List.filter_append, ih, e3]
    congr 1
    unfold prM
    split <;> rw [List.filter_append, e1, e2] <;> simp
theorem hasK_key {A : List Atm} {u v : Atm} (h : u.key = v.key) : hasK A u = hasK A v := by unfold hasK; rw [h]
theorem nodup_split (p : Atm → Bool) (hp : ∀ u v : Atm, u.key = v.key → p u = p v) : ∀ M : List Atm, (kL (M.filter p)).Nodup → (kL (M.filter fun u => !p u)).Nodup → (kL M).Nodup
  | [], _, _ => by simp [kL]
  | u :: M, h1, h2 => by
    rw [List.filter_cons] at h1 h2
    rw [kL_cons, List.nodup_cons]
    by_cases h : p u = true
    · rw [if_pos h, kL_cons, List.nodup_cons] at h1
      rw [if_neg (by simp [h])] at h2
      refine ⟨fun hm => ?_, nodup_split p hp M h1.2 h2⟩
      obtain ⟨v, hv, e⟩ := List.mem_map.1 hm
      exact h1.1 (by rw [← e]; exact List.mem_map.2 ⟨v, List.mem_filter.2 ⟨hv, by rw [hp v u e]; exact h⟩, rfl⟩)
    · rw [if_neg h] at h1
      rw [if_pos (by simpa using h), kL_cons, List.nodup_cons] at h2
      refine ⟨fun hm => ?_, nodup_split p hp M h1 h2.2⟩
      obtain ⟨v, hv, e⟩ := List.mem_map.1 hm
      exact h2.1 (by rw [← e]; exact List.mem_map.2 ⟨v, List.mem_filter.2 ⟨hv, by rw [hp v u e]; simpa using h⟩, rfl⟩)
theorem length_parts (p : Atm → Bool) : ∀ M : List Atm, M.length = (M.filter p).length + (M.filter fun u => !p u).length
  | [] => rfl
  | u :: M => by
    have ih := length_parts p M
    rw [List.filter_cons, List.filter_cons]
    cases p u <;> simp only [Bool.not_false, Bool.not_true, Bool.false_eq_true, if_true, if_false, List.length_cons] <;> omega
theorem kl_sub {L M : List Atm} (h : L.Sublist M) (hn : (kL M).Nodup) : (kL L).Nodup := (h.map Atm.key).nodup hn
/-- What a merged row holds. -/
structure Mgd (A X Y M : List Atm) : Prop where
  fx : M.filter (hasK X) = X.filter (stP A X Y)
  fy : M.filter (hasK Y) = Y.filter (stP A X Y)
  all : ∀ u ∈ M, (hasK A u = true ∧ hasK X u = true ∧ hasK Y u = true) ∨ (hasK A u = false ∧ hasK X u = true ∧ hasK Y u = false) ∨ (hasK A u = false ∧ hasK X u = false ∧ hasK Y u = true)
  one : (kL M).Nodup
  len : M.length = (X.filter (stP A X Y)).length + (Y.filter fun u => !hasK A u).length
theorem mgd {A X Y : List Atm} (nA : (kL A).Nodup) (nX : (kL X).Nodup) (nY : (kL Y).Nodup) (h : mdB A X Y = true) (t : Int) : Mgd A X Y (mgR t A X Y) := by
  unfold mdB at h
  simp only [Bool.and_eq_true, Bool.not_eq_true'] at h
  obtain ⟨⟨hx, hy⟩, hap⟩ := h
  have ap : ∀ v ∈ Y, hasK A v = false → hasK X v = false := fun v hv ha => by
    cases hh : hasK X v
    · rfl
    · rw [List.any_eq_false] at hap
      exact absurd (by rw [hh, ha]; rfl) (hap v hv)
  have ap' : ∀ u ∈ X, hasK A u = false → hasK Y u = false := fun u hu ha => by
    cases hh : hasK Y u
    · rfl
    · obtain ⟨v, hv, e⟩ := hasK_iff.1 hh
      have h1 := ap v hv (by rw [hasK_key e]; exact ha)
      rw [hasK_key e, hasK_self hu] at h1
      cases h1
  have gx : ∀ u ∈ (gpG (svP A X Y) [] [] (X.filter (stP A X Y))).flatten, u ∈ X ∧ hasK A u = false := fun u hu => by
    rw [gpG_all] at hu
    simp only [List.flatten_nil, List.nil_append, List.mem_filter] at hu
    obtain ⟨⟨h1, h2⟩, h3⟩ := hu
    refine ⟨h1, ?_⟩
    unfold stP at h2
    cases hs : svP A X Y u
    · rw [hs] at h2; simpa using h2
    · rw [hs] at h3; cases h3
  have gy : ∀ u ∈ (gpG (svP A X Y) [] [] (Y.filter (stP A X Y))).flatten, u ∈ Y ∧ hasK A u = false := fun u hu => by
    rw [gpG_all] at hu
    simp only [List.flatten_nil, List.nil_append, List.mem_filter] at hu
    obtain ⟨⟨h1, h2⟩, h3⟩ := hu
    refine ⟨h1, ?_⟩
    unfold stP at h2
    cases hs : svP A X Y u
    · rw [hs] at h2; simpa using h2
    · rw [hs] at h3; cases h3
  have gs : ∀ u ∈ A.filter (svP A X Y), hasK A u = true ∧ hasK X u = true ∧ hasK Y u = true := fun u hu => by
    have := (List.mem_filter.1 hu).2
    unfold svP at this
    simp only [Bool.and_eq_true] at this
    exact ⟨this.1.1, this.1.2, this.2⟩
  have hall : ∀ u ∈ mgR t A X Y, (hasK A u = true ∧ hasK X u = true ∧ hasK Y u = true) ∨ (hasK A u = false ∧ hasK X u = true ∧ hasK Y u = false) ∨ (hasK A u = false ∧ hasK X u = false ∧ hasK Y u = true) := fun u hu => by
    rcases mgG_mem t _ _ _ u hu with h | h | h
    · obtain ⟨h1, h2⟩ := gx u h
      exact .inr (.inl ⟨h2, hasK_self h1, ap' u h1 h2⟩)
    · obtain ⟨h1, h2⟩ := gy u h
      exact .inr (.inr ⟨h2, ap u h1 h2, hasK_self h1⟩)
    · exact .inl (gs u h)
  have ex : (X.filter (stP A X Y)).filter (svP A X Y) = A.filter (svP A X Y) := by
    have := congrArg (List.filter (hasK Y)) (fit_eq nA nX hx)
    rw [List.filter_filter] at this
    rw [List.filter_filter] at this ⊢
    rw [List.filter_congr (q := fun u => hasK Y u && hasK A u), this]
    · apply List.filter_congr
      intro u hu
      unfold svP
      rw [hasK_self hu]
      cases hasK X u <;> cases hasK Y u <;> rfl
    · intro u hu
      unfold stP svP
      rw [hasK_self hu]
      cases hasK A u <;> cases hasK Y u <;> rfl
  have ey : (Y.filter (stP A X Y)).filter (svP A X Y) = A.filter (svP A X Y) := by
    have := congrArg (List.filter (hasK X)) (fit_eq nA nY hy)
    rw [List.filter_filter] at this
    rw [List.filter_filter] at this ⊢
    rw [List.filter_congr (q := fun u => hasK X u && hasK A u), this]
    · apply List.filter_congr
      intro u hu
      unfold svP
      rw [hasK_self hu]
      cases hasK X u <;> cases hasK Y u <;> rfl
    · intro u hu
      unfold stP svP
      rw [hasK_self hu]
      cases hasK A u <;> cases hasK X u <;> rfl
  have fx : (mgR t A X Y).filter (hasK X) = X.filter (stP A X Y) := by
    unfold mgR
    rw [mg_fl t (hasK X) _ _ _ (gap_bal nA nX nY) (fun u hu => hasK_self (gx u hu).1) (fun u hu => ap u (gy u hu).1 (gy u hu).2) (fun u hu => (gs u hu).2.1), ← ex, ilv_gp]
    rfl
  have fy : (mgR t A X Y).filter (hasK Y) = Y.filter (stP A X Y) := by
    unfold mgR
    rw [mg_fr t (hasK Y) _ _ _ (gap_bal nA nX nY) (fun u hu => ap' u (gx u hu).1 (gx u hu).2) (fun u hu => hasK_self (gy u hu).1) (fun u hu => (gs u hu).2.2), ← ey, ilv_gp]
    rfl
  have fz : (mgR t A X Y).filter (fun u => !hasK X u) = Y.filter (fun u => !hasK A u) := by
    have h1 : (mgR t A X Y).filter (fun u => !hasK X u) = ((mgR t A X Y).filter (hasK Y)).filter (fun u => !hasK X u) := by
      rw [List.filter_filter]
      apply List.filter_congr
      intro u hu
      rcases hall u hu with ⟨-, h2, h3⟩ | ⟨-, h2, h3⟩ | ⟨-, h2, h3⟩ <;> rw [h2, h3] <;> rfl
    rw [h1, fy, List.filter_filter]
    apply List.filter_congr
    intro u hu
    unfold stP svP
    rw [hasK_self hu]
    cases ha : hasK A u
    · rw [ap u hu ha]; rfl
    · cases hasK X u <;> rfl
  refine ⟨fx, fy, hall, nodup_split (hasK X) (fun u v e => hasK_key e) _ ?_ ?_, ?_⟩
  · rw [fx]; exact kl_sub List.filter_sublist nX
  · rw [fz]; exact kl_sub List.filter_sublist nY
  · rw [← fx, ← fz]
    exact length_parts _ _
theorem md_facts {b x y : List RunD} {nx ny : Int} (h : mdE b x y nx ny = 0) : Good b ∧ Good x ∧ Good y ∧ Good (mdL b x y nx ny) ∧ Mgd (ats b) (ats x) (ats y) (ats (mdL b x y nx ny)) := by
  obtain ⟨hck, hB, hn⟩ : ckL [b, x, y] = 0 ∧ mdB (ats b) (ats x) (ats y) = true ∧ (mgR (cmpI nx ny) (ats b) (ats x) (ats y)).length ≤ 1000 := by
    unfold mdE at h
    split at h
    · rename_i h1
      split at h
      · rename_i h2
        split at h
        · rename_i h3
          exact ⟨h1, h2, h3⟩
        · cases h
      · cases h
    · cases h
  have gb := ckL_good hck b (by simp)
  have gx := ckL_good hck x (by simp)
  have gy := ckL_good hck y (by simp)
  have kb := good_kl gb
  have kx := good_kl gx
  have ky := good_kl gy
  have hm := mgd kb.1 kx.1 ky.1 hB (cmpI nx ny)
  have hz : ∀ u ∈ mgR (cmpI nx ny) (ats b) (ats x) (ats y), szI u.z ≠ 0 := fun u hu => by
    rcases mgR_mem hu with g | g | g
    · exact kx.2.2.2 u g
    · exact ky.2.2.2 u g
    · exact kb.2.2.2 u g
  have hy : ∀ u ∈ mgR (cmpI nx ny) (ats b) (ats x) (ats y), u.May := fun u hu => by
    rcases mgR_mem hu with g | g | g
    · exact kx.2.1 u g
    · exact ky.2.1 u g
    · exact kb.2.1 u g
  obtain ⟨hc, ha⟩ := rnA_can hz
  have hL : mdL b x y nx ny = rnA (mgR (cmpI nx ny) (ats b) (ats x) (ats y)) := if_pos h
  refine ⟨gb, gx, gy, ?_, ?_⟩
  · rw [hL, good_ats, ha]
    exact ⟨hc, hy, hm.one, hn⟩
  · rw [hL, ha]
    exact hm
theorem atoms_good (v : Value) (l : List RunD) (w : World) (hr : RdN w v l) (hg : Good l) :
    Calls Tryd.prog 17 #[v] w fun e w' => ∃ u, e = .returned u ∧ w'.ownsRow w.heap.size 42 4 u (ats l).length (acs (ats l)) ∧ Below w.heap.size w w' := by
  have hbd := hg.bound
  have hk := (good_kl hg).2.2.1
  exact atoms_any v l w hr (fun r hr => (hg.fit r hr).ok) (fun r hr => Nat.le_trans (txB_mem hr) (by omega)) (fun r hr => by obtain ⟨-, m2, m3, m4⟩ := mayR_iff.1 (hg.may r hr); omega) (by omega) (by omega)
theorem cnt_take {X : List Atm} (p : Atm → Bool) {k : Nat} (hk : k < X.length) : ((X.take (k + 1)).filter p).length = ((X.take k).filter p).length + if p X[k] = true then 1 else 0 := by
  rw [List.take_succ_eq_append_getElem hk, List.filter_append, List.length_append, List.filter_cons, List.filter_nil]
  congr 1
  split <;> rfl
end Go.Proofs.YtofmficdfkeffaaDoor

/-
  The delta between two rows that fit leads from the one's text to the other's. No walk.
-/
namespace Go.Proofs.YtofmficdfkeffaaDoor
open Go.ChangeShapes Go.WideShapes Go.ChangeAt Go.RowKit Go.PlainAid

theorem fit_ofG {A : List Atm} (nA : (kL A).Nodup) : ∀ (L : List Atm) (j : Nat) (last : Int), last ≤ (j : Int) → (L.filter (hasK A)).Sublist (A.drop j) → fitG A last L = true
  | [], _, _, _, _ => by simp [fitG]
  | x :: L, j, last, hl, h => by
    rw [fitG]
    cases hp : plK A x.key with
    | none =>
      rw [List.filter_cons, hasK_pl, hp] at h
      exact fit_ofG nA L j last hl h
    | some i =>
      rw [List.filter_cons, hasK_pl, hp] at h
      simp only [Option.isSome_some, if_true] at h
      obtain ⟨r1, r2, e, hx, hs⟩ := List.cons_sublist_iff.1 h
      obtain ⟨m, hm, hxm⟩ := List.getElem_of_mem hx
      have hA : A[j + m]? = some x := by
        rw [← List.getElem?_drop, e, List.getElem?_append_left hm, List.getElem?_eq_getElem hm, hxm]
      have hi : i = j + m := by
        have := (plK_some nA (k := x.key) (i := j + m)).2 (by unfold kL; rw [List.getElem?_map, hA]; rfl)
        rw [hp] at this
        exact Option.some.inj this
      subst hi
      simp only
      rw [if_neg]
      · refine fit_ofG nA L (j + r1.length) _ (by omega) ?_
        have : A.drop (j + r1.length) = r2 := by rw [← List.drop_drop, e]; simp
        rw [this]
        exact hs
      · rintro (h1 | h1)
        · omega
        · exact h1 (by rw [hA]; rfl)
theorem fit_of {A L : List Atm} (nA : (kL A).Nodup) (h : (L.filter (hasK A)).Sublist A) : fitD A L = true := fit_ofG nA L 0 (-1) (by omega) (by simpa using h)

/-- What operations use up and what they make. -/
structure Qd (d : List OpD) (a b : List Int) : Prop where
  may : ∀ o ∈ d, (stOf o).isSome = true
  inn : ∀ o ∈ d, o.In
  len : d.length ≤ a.length + b.length
  bs : bsum (stl d) = a.length
  ts : tsum (stl d) = b.length
  run : ∀ (rest : List Int) (more : List St), apRun (a ++ rest) (stl d ++ more) = b ++ apRun rest more
theorem Qd.nil : Qd [] [] [] := ⟨fun o h => by simp at h, fun o h => by simp at h, Nat.le_refl _, rfl, rfl, fun _ _ => rfl⟩
theorem stl_snoc (d : List OpD) {o : OpD} {s : St} (h : stOf o = some s) : stl (d ++ [o]) = stl d ++ [s] := by
  unfold stl
  rw [List.filterMap_append]
  simp [h]
theorem Qd.snoc {d : List OpD} {a b : List Int} (q : Qd d a b) {o : OpD} {s : St} (hs : stOf o = some s) (hi : o.In) (ca cb : List Int) (h1 : s.b = ca.length) (h2 : s.c = cb.length) (h3 : 1 ≤ ca.length + cb.length)
    (hr : ∀ (rest : List Int) (more : List St), apRun (ca ++ rest) (s :: more) = cb ++ apRun rest more) : Qd (d ++ [o]) (a ++ ca) (b ++ cb) := by
  refine ⟨fun x hx => ?_, fun x hx => ?_, ?_, ?_, ?_, fun rest more => ?_⟩
  · rcases List.mem_append.1 hx with h | h
    · exact q.may x h
    · simp only [List.mem_singleton] at h; subst h; rw [hs]; rfl
  · rcases List.mem_append.1 hx with h | h
    · exact q.inn x h
    · simp only [List.mem_singleton] at h; subst h; exact hi
  · have := q.len
    simp only [List.length_append, List.length_singleton]
    omega
  · rw [stl_snoc d hs, bsum_append, q.bs, List.length_append, ← h1]
    simp [bsum]
  · rw [stl_snoc d hs, tsum_append, q.ts, List.length_append, ← h2]
    simp [tsum]
  · rw [stl_snoc d hs, List.append_assoc, List.append_assoc, q.run, List.singleton_append, hr, List.append_assoc]
theorem apRun_two (n : Nat) (more : List St) : ∀ (s : List St) (l : List Int), apRun l (s ++ .keep (n + 1) :: more) = apRun l (s ++ .keep n :: .keep 1 :: more)
  | [], l => by
    simp only [List.nil_append, apRun]
    rw [List.take_add, List.append_assoc, List.drop_drop]
  | .keep m :: s, l => by simp only [List.cons_append, apRun, apRun_two n more s]
  | .rem m :: s, l => by simp only [List.cons_append, apRun, apRun_two n more s]
  | .ins t :: s, l => by simp only [List.cons_append, apRun, apRun_two n more s]
theorem run_one (z : Int) (rest : List Int) (more : List St) : apRun ([z] ++ rest) (.keep 1 :: more) = [z] ++ apRun rest more := by simp [apRun]
theorem st_keep {n : Int} {t : ByteArray} (h1 : 1 ≤ n) (h2 : n ≤ 1000) (ht : t.size = 0) : stOf ⟨1, n, t⟩ = some (.keep n.toNat) := by
  unfold stOf
  rw [if_pos ⟨h1, h2, ht⟩]
  rfl
theorem Qd.keep {d : List OpD} {a b : List Int} (q : Qd d a b) (hl : a.length + 1 ≤ 1000) (z : Int) : Qd (kpD d) (a ++ [z]) (b ++ [z]) := by
  have one : Qd (d ++ [⟨1, 1, ⟨#[]⟩⟩]) (a ++ [z]) (b ++ [z]) :=
    q.snoc (s := .keep 1) (st_keep (by omega) (by omega) rfl) (by unfold OpD.In; exact Nat.zero_le _) [z] [z] rfl rfl (by simp) (run_one z)
  rcases List.eq_nil_or_concat d with rfl | ⟨d', o, rfl⟩
  · exact one
  · by_cases hk : o.k = 1
    · rw [List.concat_eq_append] at q ⊢
      rw [kpD_keep d' o hk]
      have hm := q.may o (by simp)
      have hi := q.inn o (by simp)
      have hst : stOf o = some (.keep o.n.toNat) ∧ 1 ≤ o.n ∧ o.n ≤ 1000 ∧ o.t.size = 0 := by
        unfold stOf at hm ⊢
        by_cases hc : 1 ≤ o.n ∧ o.n ≤ 1000 ∧ o.t.size = 0
        · rw [if_pos hc, if_pos hk]
          exact ⟨rfl, hc⟩
        · rw [if_neg hc, if_neg (by omega)] at hm
          cases hm
      obtain ⟨h0, h1, h2, h3⟩ := hst
      have hb := q.bs
      rw [stl_snoc d' h0, bsum_append] at hb
      have hb1 : bsum [St.keep o.n.toNat] = o.n.toNat := by simp [bsum, St.b]
      have hn : stOf ⟨1, o.n + 1, o.t⟩ = some (.keep (o.n.toNat + 1)) := by
        rw [st_keep (by omega) (by omega) h3]
        congr 2
        omega
      have ht := q.ts
      rw [stl_snoc d' h0, tsum_append] at ht
      have ht1 : tsum [St.keep o.n.toNat] = o.n.toNat := by simp [tsum, St.c]
      refine ⟨fun x hx => ?_, fun x hx => ?_, ?_, ?_, ?_, fun rest more => ?_⟩
      · rcases List.mem_append.1 hx with h | h
        · exact q.may x (by simp [h])
        · simp only [List.mem_singleton] at h; subst h; rw [hn]; rfl
      · rcases List.mem_append.1 hx with h | h
        · exact q.inn x (by simp [h])
        · simp only [List.mem_singleton] at h; subst h; exact hi
      · have := q.len
        simp only [List.length_append, List.length_singleton] at this ⊢
        omega
      · rw [stl_snoc d' hn, bsum_append, List.length_append, ← hb, hb1]
        simp [bsum, St.b]
        omega
      · rw [stl_snoc d' hn, tsum_append, List.length_append, ← ht, ht1]
        simp [tsum, St.c]
        omega
      · have hr := q.run ([z] ++ rest) (.keep 1 :: more)
        rw [stl_snoc d' h0, run_one] at hr
        rw [stl_snoc d' hn]
        simp only [List.append_assoc, List.singleton_append] at hr ⊢
        rw [apRun_two, hr]
    · rw [List.concat_eq_append] at one ⊢
      rw [kpD_else d' o hk]
      exact one
theorem gap_Q {d : List OpD} {a b : List Int} (q : Qd d a b) {g p : List Atm} (hg : g.length ≤ 1000) (hp : p.length ≤ 1000) (hz : ∀ u ∈ p, szI u.z ≠ 0) : Qd (d ++ dpO g p) (a ++ g.map Atm.z) (b ++ p.map Atm.z) := by
  have q1 : Qd (d ++ (if p = [] then [] else [⟨2, 0, mk (txU p)⟩])) a (b ++ p.map Atm.z) := by
    by_cases h : p = []
    · subst h
      simpa using q
    · rw [if_neg h]
      have hl : 0 < p.length := List.length_pos_iff.2 h
      obtain ⟨c1, c2⟩ := cpl_enc (p := p.map Atm.z) (fun z hz' => by obtain ⟨u, hu, rfl⟩ := List.mem_map.1 hz'; exact hz u hu)
      rw [List.length_map] at c1
      have hs : stOf ⟨2, 0, mk (txU p)⟩ = some (.ins (mk (txU p))) := by
        unfold stOf txU
        rw [if_neg (fun h => absurd h.1 (by show ¬ (1 : Int) ≤ 0; omega)), if_pos ⟨rfl, rfl, by show 0 < cpl (mk (enc (p.map Atm.z))); omega⟩]
      have := q.snoc hs (by have := txU_len p; unfold OpD.In; rw [mk_size]; omega) [] (p.map Atm.z) rfl (by show (cpl (mk (enc (p.map Atm.z)))).toNat = _; rw [c1, List.length_map]; rfl) (by rw [List.length_map]; simp; omega) (fun rest more => by
        show pts (mk (enc (p.map Atm.z))) ++ apRun rest more = _
        rw [c2])
      simpa using this
  unfold dpO
  rw [← List.append_assoc]
  by_cases h : g = []
  · subst h
    simpa using q1
  · rw [if_neg h]
    have hl : 0 < g.length := List.length_pos_iff.2 h
    have hs : stOf ⟨3, (g.length : Int), ⟨#[]⟩⟩ = some (.rem g.length) := by
      unfold stOf
      rw [if_pos ⟨by show 1 ≤ (g.length : Int); omega, by show (g.length : Int) ≤ 1000; omega, rfl⟩]
      rfl
    have := q1.snoc hs (by unfold OpD.In; exact Nat.zero_le _) (g.map Atm.z) [] (by simp [St.b]) rfl (by rw [List.length_map]; simp; omega) (fun rest more => by
      simp only [apRun, List.nil_append]
      rw [List.drop_left' (by simp)])
    simpa using this
/-- What stands behind the first gap. -/
def tlA : List (List Atm) → List Atm → List Atm
  | g :: G, s :: S => s :: (g ++ tlA G S)
  | _, _ => []
theorem ilv_tl : ∀ (G : List (List Atm)) (S : List Atm) (g : List Atm), G.length = S.length → ilv (g :: G) S = g ++ tlA G S
  | [], [], g, _ => by simp [ilv, tlA]
  | [], _ :: _, _, h => by simp at h
  | _ :: _, [], _, h => by simp at h
  | g' :: G, s :: S, g, h => by
    rw [ilv, List.tail_cons, ilv_tl G S g' (by simpa using h), tlA]
    simp
theorem Qd.gaps : ∀ (G P : List (List Atm)) (S : List Atm) (d : List OpD) (a b : List Int), G.length = S.length → P.length = S.length → Qd d a b → a.length + (tlA G S).length ≤ 1000 → b.length + (tlA P S).length ≤ 1000 → (∀ p ∈ P, ∀ u ∈ p, szI u.z ≠ 0) →
    Qd (dpG G P d) (a ++ (tlA G S).map Atm.z) (b ++ (tlA P S).map Atm.z)
  | [], [], [], d, a, b, _, _, q, _, _, _ => by simpa [dpG, tlA] using q
  | [], _ :: _, [], _, _, _, _, h, _, _, _, _ => by simp at h
  | _ :: _, _, [], _, _, _, h, _, _, _, _, _ => by simp at h
  | [], _, _ :: _, _, _, _, h, _, _, _, _, _ => by simp at h
  | _ :: _, [], _ :: _, _, _, _, _, h, _, _, _, _ => by simp at h
  | g :: G, p :: P, s :: S, d, a, b, h1, h2, q, h3, h4, h5 => by
    simp only [tlA, List.length_cons, List.length_append] at h3 h4
    have q1 := q.keep (by omega) s.z
    have q2 := gap_Q q1 (g := g) (p := p) (by omega) (by omega) (h5 p (by simp))
    have q3 := Qd.gaps G P S _ _ _ (by simpa using h1) (by simpa using h2) q2 (by simp only [List.length_append, List.length_singleton, List.length_map]; omega) (by simp only [List.length_append, List.length_singleton, List.length_map]; omega) (fun x hx => h5 x (by simp [hx]))
    rw [dpG, tlA, tlA]
    simpa using q3
theorem lead_Q {X M : List Atm} (nX : (kL X).Nodup) (nM : (kL M).Nodup) (hf : fitD X M = true) (lX : X.length ≤ 1000) (lM : M.length ≤ 1000) (hz : ∀ u ∈ M, szI u.z ≠ 0) : Qd (dpD (gpG (hasK M) [] [] X) (gpG (hasK X) [] [] M)) (X.map Atm.z) (M.map Atm.z) := by
  have hS := fit_eq nX nM hf
  have eX : ilv (gpG (hasK M) [] [] X) (X.filter (hasK M)) = X := by rw [ilv_gp]; rfl
  have eM : ilv (gpG (hasK X) [] [] M) (X.filter (hasK M)) = M := by rw [← hS, ilv_gp]; rfl
  have l1 := gpG_len (hasK M) X [] []
  have l2 := gpG_len (hasK X) M [] []
  rw [hS] at l2
  have hP : ∀ p ∈ gpG (hasK X) [] [] M, ∀ u ∈ p, szI u.z ≠ 0 := fun p hp u hu => by
    have : u ∈ (gpG (hasK X) [] [] M).flatten := List.mem_flatten.2 ⟨p, hp, hu⟩
    rw [gpG_all] at this
    simp only [List.flatten_nil, List.nil_append, List.mem_filter] at this
    exact hz u this.1
  generalize gpG (hasK M) [] [] X = G at *
  generalize gpG (hasK X) [] [] M = P at *
  generalize X.filter (hasK M) = S at *
  match G, P, l1, l2 with
  | [], _, l1, _ => simp at l1; omega
  | _ :: _, [], _, l2 => simp at l2; omega
  | g :: G, p :: P, l1, l2 =>
    simp only [List.length_cons, List.length_nil] at l1 l2
    rw [ilv_tl G S g (by omega)] at eX
    rw [ilv_tl P S p (by omega)] at eM
    have n1 := congrArg List.length eX
    have n2 := congrArg List.length eM
    simp only [List.length_append] at n1 n2
    have q0 := gap_Q Qd.nil (g := g) (p := p) (by omega) (by omega) (hP p (by simp))
    have q := Qd.gaps G P S _ _ _ (by omega) (by omega) q0 (by simp only [List.nil_append, List.length_map]; omega) (by simp only [List.nil_append, List.length_map]; omega) (fun x hx => hP x (by simp [hx]))
    rw [← eX, ← eM]
    simp only [dpD]
    simpa using q
theorem cpl_good {l : List RunD} (hg : Good l) : cpl (mk (txB l)) = ((ats l).length : Int) := by
  have hr : ∀ r ∈ l, r.Ok := fun r hr => (hg.fit r hr).ok
  rw [txt_cpl l hr]
  have := num_ats hr
  unfold num at this
  rw [this]
/-- The delta to a document that fits leads there. -/
theorem leads {x m : List RunD} (gx : Good x) (gm : Good m) (h : ((ats m).filter (hasK (ats x))).Sublist (ats x)) : ddE x m = 0 ∧ (∀ o ∈ ddL x m, o.In) ∧ (ddL x m).length ≤ 3000 ∧ apR (mk (txB x)) (ddL x m) = (mk (txB m), 0) := by
  have kx := good_kl gx
  have km := good_kl gm
  have hf := fit_of kx.1 h
  have hE : ddE x m = 0 := by
    unfold ddE ckL
    rw [hf, if_pos, if_pos rfl]
    have h1 := (good_iff x).2 gx
    have h2 := (good_iff m).2 gm
    simp [h1, h2]
  have hL : ddL x m = dpD (gpG (hasK (ats m)) [] [] (ats x)) (gpG (hasK (ats x)) [] [] (ats m)) := if_pos hE
  have q := lead_Q kx.1 km.1 hf kx.2.2.1 km.2.2.1 km.2.2.2
  rw [← hL] at q
  have k1 := kx.2.2.1
  have k2 := km.2.2.1
  have hlen := q.len
  simp only [List.length_map] at hlen
  have hc : chk (ddL x m) = 0 := by
    unfold chk
    rw [if_neg (by omega), if_neg, if_neg]
    · rw [q.bs, q.ts, List.length_map, List.length_map]; omega
    · intro ha
      rw [List.any_eq_true] at ha
      obtain ⟨o, ho, hn⟩ := ha
      have := q.may o ho
      cases hh : stOf o <;> simp [hh] at this hn
  have hR : stR (ddL x m) = stl (ddL x m) := if_pos hc
  have okx : ∀ r ∈ x, r.Ok := fun r hr => (gx.fit r hr).ok
  have okm : ∀ r ∈ m, r.Ok := fun r hr => (gm.fit r hr).ok
  obtain ⟨p1, p2⟩ := pts_txt x okx
  obtain ⟨m1, m2⟩ := pts_txt m okm
  refine ⟨hE, q.inn, by omega, ?_⟩
  unfold apR
  have hrun := q.run [] []
  rw [List.append_nil, List.append_nil] at hrun
  rw [if_neg (by omega), if_neg (by rw [hc]; simp), if_neg (by rw [hR, q.bs, cpl_good gx, List.length_map]; simp), hR, p2, hrun, ← m2, apRun, List.append_nil]
  exact congrArg (fun x => (x, (0 : Int))) (whole_eq (cpl_valid m1)).1
end Go.Proofs.YtofmficdfkeffaaDoor

/-
  The reference: ordered, fits, text.
-/
namespace Go.Proofs.YtofmficdfkeffaaDoor
open Go.ChangeShapes Go.WideShapes Go.ChangeAt Go.RowKit Go.PlainAid

theorem fitD_swap {A X : List Atm} (nA : (kL A).Nodup) (nX : (kL X).Nodup) : fitD X A = fitD A X := by
  have key : ∀ {A X : List Atm}, (kL A).Nodup → (kL X).Nodup → fitD A X = true → fitD X A = true := fun nA nX h => fit_of nX (by
    rw [← fit_eq nA nX h]
    exact List.filter_sublist)
  cases h : fitD A X
  · cases h2 : fitD X A
    · rfl
    · rw [key nX nA h2] at h; cases h
  · exact key nA nX h

set_option maxRecDepth 20000 in
set_option maxHeartbeats 800000 in
theorem rordered_any (va vb : Value) (a b : List Atm) (w : World) (ha : RdA w va a) (hb : RdA w vb b) (nb : (kL b).Nodup) (la : a.length ≤ 100000) (lb : b.length ≤ 100000) :
    Calls Tryd.prog 36 #[va, vb] w fun e w' => e = .returned (.bool (fitD b a)) ∧ Below w.heap.size w w' := by
  obtain ⟨ao, ac, hva, -⟩ := id ha
  subst hva
  obtain ⟨bo, bc, hvb, -⟩ := id hb
  subst hvb
  go_enter Tryd.func36, Tryd.ntmps36
  go_wp2_with fail
  go_loopw [5, 6] (fun last i wr => ∃ (k : Nat) (z : Int), k ≤ a.length ∧ Hid (fitD b a = fitG b z (a.drop k)) ∧ last = .int .i64 z ∧ i = .int .i64 (k : Int) ∧ Below w.heap.size w wr) (fun _ i _ => a.length - (Go.RowKit.intOf i).toNat)
  case atStart => exact ⟨0, -1, Nat.zero_le _, rfl, rfl, rfl, Below.refl _ _⟩
  case round =>
    obtain ⟨k, z, hk, HF, rfl, rfl, hbl⟩ := hrel
    by_cases hlt : k < a.length
    · have hlt' : (k : Int) < (a.length : Int) := by omega
      obtain ⟨x, hxe⟩ : ∃ x, a[k] = x := ⟨_, rfl⟩
      have hx : a[k]? = some x := by rw [List.getElem?_eq_getElem hlt, hxe]
      have cF := rfind_any _ b x wr (hb.below hbl) (by omega)
      obtain ⟨ba, oa, rfl, hba, m0, m1, m2, m3⟩ := rda_at (ha.below hbl) hx
      have HG : Hid (fitD b a = match plK b x.key with | none => fitG b z (a.drop (k + 1)) | some j => if (j : Int) < z ∨ ¬ (b[j]?.map Atm.z = some x.z) then false else fitG b (j : Int) (a.drop (k + 1))) := by show _ = _; rw [HF.out, fitG_drop hlt, hxe]; cases plK b x.key <;> rfl
      rw [fdA_pl] at cF
      cases hp : plK b x.key with
      | none =>
        rw [hp] at cF
        have HN : Hid (fitD b a = fitG b z (a.drop (k + 1))) := by show _ = _; rw [HG.out, hp]
        clear HG HF hp hx hxe ha hb
        go_wp2_with fail
        refine cF.mono ?_
        rintro e w1 ⟨rfl, t1⟩
        clear cF m0 m1 m2 m3
        go_wp2_with fail
        go_quiet (fail)
        go_wp2_with fail
        exact ⟨⟨k + 1, z, by omega, HN, rfl, by go_num, below_drewN (chain hbl t1) _⟩, by simp [Go.RowKit.intOf]; omega⟩
      | some j =>
        obtain ⟨y, hy, -⟩ := plK_get nb hp
        have hj : j < b.length := (List.getElem?_eq_some_iff.1 hy).1
        have hj' : (j : Int) < (b.length : Int) := by omega
        obtain ⟨bb, ob, rfl, hbb, -, -, -, n3⟩ := rda_at (hb.below hbl) hy
        have mc := fun W (h : Below wr.heap.size wr W) (i : Nat) => h.cell (p := ⟨ba, i, none⟩) hba
        have nc := fun W (h : Below wr.heap.size wr W) (i : Nat) => h.cell (p := ⟨bb, i, none⟩) hbb
        rw [hp] at cF
        simp only [Nat.zero_add] at cF
        have HG2 : Hid (fitD b a = if (j : Int) < z ∨ ¬ (y.z = x.z) then false else fitG b (j : Int) (a.drop (k + 1))) := by
          show _ = _
          rw [HG.out]
          simp only [hp, hy, Option.map_some, Option.some.injEq]
        clear HG HF hp hx hxe ha hb hy
        by_cases h1 : (j : Int) < z
        · have HN : Hid (fitD b a = false) := by show _ = _; rw [HG2.out, if_pos (.inl h1)]
          have h1' : decide ((j : Int) < z) = true := by simpa using h1
          clear HG2
          go_wp2_with fail
          refine cF.mono ?_
          rintro e w1 ⟨rfl, t1⟩
          clear cF m0 m1 m2 m3 n3
          go_wp2_with fail
          go_quiet (fail)
          go_wp2_with fail
          go_ret
          exact ⟨by rw [HN.out]; rfl, below_drewN (chain hbl t1) _⟩
        · have h1' : decide ((j : Int) < z) = false := by simpa using h1
          by_cases h2 : y.z = x.z
          · have HN : Hid (fitD b a = fitG b (j : Int) (a.drop (k + 1))) := by show _ = _; rw [HG2.out, if_neg (fun h => h.elim h1 (fun g => g h2))]
            have h2' : (y.z != x.z) = false := by simp [h2]
            clear HG2 h2
            go_wp2_with fail
            refine cF.mono ?_
            rintro e w1 ⟨rfl, t1⟩
            have o3 := (mc _ t1 _).trans m3
            have r3 := (nc _ t1 _).trans n3
            clear cF m0 m1 m2 m3 n3
            generalize y.z = yz at *
            generalize x.z = xz at *
            have hba1 := Nat.lt_of_lt_of_le hba t1.size
            have hbb1 := Nat.lt_of_lt_of_le hbb t1.size
            have e1 : ∀ s : Beh w1, s.it.cell? ⟨ba, oa + k * 4 + 3, none⟩ = some (.int .i64 xz) := fun s => (s.h.cell (p := ⟨ba, oa + k * 4 + 3, none⟩) hba1).trans o3
            have e2 : ∀ s : Beh w1, s.it.cell? ⟨bb, ob + j * 4 + 3, none⟩ = some (.int .i64 yz) := fun s => (s.h.cell (p := ⟨bb, ob + j * 4 + 3, none⟩) hbb1).trans r3
            go_wp2_with fail
            refine wp_region_beh (by kernel_rfl) (by kernel_rfl) ?_
            repeat (go_big_quiet_step (fail))
            refine wpQuiet_nil ?_
            intro wq hw'
            have hwq := Beh.out hw'
            clear hw' e1 e2 o3 r3
            replace t1 := chain t1 hwq
            go_wp2_with fail
            exact ⟨⟨k + 1, (j : Int), by omega, HN, rfl, by go_num, chain hbl t1⟩, by simp [Go.RowKit.intOf]; omega⟩
          · have HN : Hid (fitD b a = false) := by show _ = _; rw [HG2.out, if_pos (.inr h2)]
            have h2' : (y.z != x.z) = true := by simpa using h2
            clear HG2 h2
            go_wp2_with fail
            refine cF.mono ?_
            rintro e w1 ⟨rfl, t1⟩
            have o3 := (mc _ t1 _).trans m3
            have r3 := (nc _ t1 _).trans n3
            clear cF m0 m1 m2 m3 n3
            generalize y.z = yz at *
            generalize x.z = xz at *
            have hba1 := Nat.lt_of_lt_of_le hba t1.size
            have hbb1 := Nat.lt_of_lt_of_le hbb t1.size
            have e1 : ∀ s : Beh w1, s.it.cell? ⟨ba, oa + k * 4 + 3, none⟩ = some (.int .i64 xz) := fun s => (s.h.cell (p := ⟨ba, oa + k * 4 + 3, none⟩) hba1).trans o3
            have e2 : ∀ s : Beh w1, s.it.cell? ⟨bb, ob + j * 4 + 3, none⟩ = some (.int .i64 yz) := fun s => (s.h.cell (p := ⟨bb, ob + j * 4 + 3, none⟩) hbb1).trans r3
            go_wp2_with fail
            refine wp_region_beh (by kernel_rfl) (by kernel_rfl) ?_
            repeat (go_big_quiet_step (fail))
            refine wpQuiet_nil ?_
            intro wq hw'
            have hwq := Beh.out hw'
            clear hw' e1 e2 o3 r3
            replace t1 := chain t1 hwq
            go_wp2_with fail
            go_ret
            exact ⟨by rw [HN.out]; rfl, chain hbl t1⟩
    · obtain rfl : k = a.length := by omega
      have HN : Hid (fitD b a = true) := by show _ = _; rw [HF.out, List.drop_length]; simp [fitG]
      clear HF ha hb
      go_wp2_with fail
      go_ret
      exact ⟨by rw [HN.out]; rfl, hbl⟩

theorem mdB_ref {A X Y : List Atm} (nA : (kL A).Nodup) (nX : (kL X).Nodup) (nY : (kL Y).Nodup) : mdB A X Y = (fitD X A && fitD Y A && !(X.any fun u => hasK Y u && !hasK A u)) := by
  have e : (Y.any fun u => hasK X u && !hasK A u) = (X.any fun u => hasK Y u && !hasK A u) := by
    have key : ∀ {X Y : List Atm}, (Y.any fun u => hasK X u && !hasK A u) = true → (X.any fun u => hasK Y u && !hasK A u) = true := fun {X Y} h => by
      rw [List.any_eq_true] at h ⊢
      obtain ⟨u, hu, h⟩ := h
      simp only [Bool.and_eq_true, Bool.not_eq_true'] at h
      obtain ⟨v, hv, e⟩ := hasK_iff.1 h.1
      refine ⟨v, hv, ?_⟩
      rw [hasK_key e, hasK_key (A := A) e, hasK_self hu, h.2]
      rfl
    cases h : (Y.any fun u => hasK X u && !hasK A u)
    · cases h2 : (X.any fun u => hasK Y u && !hasK A u)
      · rfl
      · rw [key h2] at h; cases h
    · exact (key h).symm
  unfold mdB
  rw [e, fitD_swap nA nX, fitD_swap nA nY]

set_option maxRecDepth 20000 in
set_option maxHeartbeats 800000 in
theorem rfits_any (va vb vc : Value) (a b c : List Atm) (w : World) (ha : RdA w va a) (hb : RdA w vb b) (hc : RdA w vc c) (na : (kL a).Nodup) (nb : (kL b).Nodup) (nc : (kL c).Nodup) (la : a.length ≤ 100000) (lb : b.length ≤ 100000) (lc : c.length ≤ 100000) :
    Calls Tryd.prog 29 #[va, vb, vc] w fun e w' => e = .returned (.bool (mdB a b c)) ∧ Below w.heap.size w w' := by
  have HM := (show Hid _ from mdB_ref na nb nc)
  have c1 := rordered_any va vb a b w ha hb nb la lb
  have c2 := fun W (h : Below w.heap.size w W) => rordered_any va vc a c W (ha.below h) (hc.below h) nc la lc
  obtain ⟨ao, ac, hva, -⟩ := id ha
  subst hva
  obtain ⟨bo, bc, hvb, -⟩ := id hb
  subst hvb
  obtain ⟨co, cc, hvc, -⟩ := id hc
  subst hvc
  clear na nb nc
  go_enter Tryd.func29, Tryd.ntmps29
  cases h1 : fitD b a with
  | false =>
    have HN : Hid (mdB a b c = false) := by show _ = _; rw [HM.out, h1]; rfl
    rw [h1] at c1
    clear HM h1 ha hb hc
    go_wp2_with fail
    refine c1.mono ?_
    rintro e w1 ⟨rfl, q1⟩
    go_wp2_with fail
    go_ret
    exact ⟨by rw [HN.out]; rfl, q1⟩
  | true =>
    rw [h1] at c1
    cases h2 : fitD c a with
    | false =>
      have HN : Hid (mdB a b c = false) := by show _ = _; rw [HM.out, h1, h2]; rfl
      rw [h2] at c2
      clear HM h1 h2 ha hb hc
      go_wp2_with fail
      refine c1.mono ?_
      rintro e w1 ⟨rfl, q1⟩
      go_wp2_with fail
      refine (c2 _ q1).mono ?_
      rintro e w2 ⟨rfl, q2⟩
      go_wp2_with fail
      go_ret
      exact ⟨by rw [HN.out]; rfl, chain q1 q2⟩
    | true =>
      have HN : Hid (mdB a b c = !(b.any fun u => hasK c u && !hasK a u)) := by show _ = _; rw [HM.out, h1, h2]; rfl
      rw [h2] at c2
      clear HM h1 h2
      go_wp2_with fail
      refine c1.mono ?_
      rintro e w1 ⟨rfl, q1⟩
      go_wp2_with fail
      refine (c2 _ q1).mono ?_
      rintro e w2 ⟨rfl, q2⟩
      replace q1 := chain q1 q2
      clear c1 c2 q2
      go_wp2_with fail
      go_loopw [7] (fun i wr => ∃ k : Nat, k ≤ b.length ∧ Hid (((b.take k).any fun u => hasK c u && !hasK a u) = false) ∧ i = .int .i64 (k : Int) ∧ Below w.heap.size w wr) (fun i _ => b.length - (Go.RowKit.intOf i).toNat)
      case atStart => exact ⟨0, Nat.zero_le _, rfl, rfl, q1⟩
      case round =>
        obtain ⟨k, hk, HF, rfl, hbl⟩ := hrel
        by_cases hlt : k < b.length
        · have hlt' : (k : Int) < (b.length : Int) := by omega
          obtain ⟨u, hue⟩ : ∃ u, b[k] = u := ⟨_, rfl⟩
          have hu : b[k]? = some u := by rw [List.getElem?_eq_getElem hlt, hue]
          have HS : Hid (((b.take (k + 1)).any fun u => hasK c u && !hasK a u) = (hasK c u && !hasK a u)) := by
            show _ = _
            rw [List.take_succ_eq_append_getElem hlt, List.any_append, HF.out, hue]
            simp
          have cF1 := rfind_any _ c u wr (hc.below hbl) (by omega)
          have cF2 := fun W (h : Below wr.heap.size wr W) => rfind_any _ a u W ((ha.below hbl).below h) (by omega)
          obtain ⟨ba, oa, rfl, hba, m0, m1, m2, m3⟩ := rda_at (hb.below hbl) hu
          have mc := fun W (h : Below wr.heap.size wr W) (j : Nat) => h.cell (p := ⟨ba, j, none⟩) hba
          clear ha hb hc hue HF
          cases hg : hasK c u with
          | false =>
            have f1 := fdA_not.2 hg
            have HD : Hid (((b.take (k + 1)).any fun u => hasK c u && !hasK a u) = false) := by show _ = _; rw [HS.out, hg]; rfl
            clear HS hg HN hu
            generalize fdA u c 0 = fc at *
            go_wp2_with fail
            refine cF1.mono ?_
            rintro e w3 ⟨rfl, t1⟩
            clear m0 m1 m2 m3 mc cF1 cF2
            go_wp2_with fail
            exact ⟨⟨k + 1, by omega, HD, by go_num, chain hbl t1⟩, by simp [Go.RowKit.intOf]; omega⟩
          | true =>
            have f1 := fdA_has.2 hg
            generalize fdA u c 0 = fc at *
            cases hga : hasK a u with
            | true =>
              have f2 := fdA_has.2 hga
              have HD : Hid (((b.take (k + 1)).any fun u => hasK c u && !hasK a u) = false) := by show _ = _; rw [HS.out, hg, hga]; rfl
              clear HS hg hga HN hu
              generalize fdA u a 0 = fa at *
              go_wp2_with fail
              refine cF1.mono ?_
              rintro e w3 ⟨rfl, t1⟩
              have n0 := (mc _ t1 _).trans m0
              have n1 := (mc _ t1 _).trans m1
              have n2 := (mc _ t1 _).trans m2
              have n3 := (mc _ t1 _).trans m3
              go_wp2_with fail
              refine (cF2 _ t1).mono ?_
              rintro e w4 ⟨rfl, t2⟩
              replace t1 := chain t1 t2
              clear n0 n1 n2 n3 m0 m1 m2 m3 mc cF1 cF2
              go_wp2_with fail
              exact ⟨⟨k + 1, by omega, HD, by go_num, chain hbl t1⟩, by simp [Go.RowKit.intOf]; omega⟩
            | false =>
              have f2 := fdA_not.2 hga
              have HD : Hid (mdB a b c = false) := by
                show _ = _
                rw [HN.out, Bool.not_eq_false', List.any_eq_true]
                exact ⟨u, List.mem_of_getElem? hu, by rw [hg, hga]; rfl⟩
              clear HS hg hga HN hu
              generalize fdA u a 0 = fa at *
              go_wp2_with fail
              refine cF1.mono ?_
              rintro e w3 ⟨rfl, t1⟩
              have n0 := (mc _ t1 _).trans m0
              have n1 := (mc _ t1 _).trans m1
              have n2 := (mc _ t1 _).trans m2
              have n3 := (mc _ t1 _).trans m3
              go_wp2_with fail
              refine (cF2 _ t1).mono ?_
              rintro e w4 ⟨rfl, t2⟩
              replace t1 := chain t1 t2
              clear n0 n1 n2 n3 m0 m1 m2 m3 mc cF1 cF2
              go_wp2_with fail
              go_ret
              exact ⟨by rw [HD.out]; rfl, chain hbl t1⟩
        · obtain rfl : k = b.length := by omega
          have HD : Hid (mdB a b c = true) := by
            show _ = _
            have h := HF.out
            rw [List.take_length] at h
            rw [HN.out, h]
            rfl
          clear HF HN ha hb hc
          go_wp2_with fail
          go_ret
          exact ⟨by rw [HD.out]; rfl, hbl⟩

theorem text_eq {A : List Atm} (hz : ∀ x ∈ A, szI x.z ≠ 0) : mk (txB (rnA A)) = mk (txU A) := by
  obtain ⟨hc, ha⟩ := rnA_can hz
  obtain ⟨p1, p2⟩ := pts_txt (rnA A) hc.all
  have h : mk (enc (pts (mk (txB (rnA A))))) = mk (txB (rnA A)) := (whole_eq (cpl_valid p1)).1
  rw [p2, ha] at h
  exact h.symm

set_option maxRecDepth 20000 in
set_option maxHeartbeats 800000 in
theorem rtext14_any (v : Value) (A : List Atm) (w : World) (hA : RdA w v A) (hz : ∀ x ∈ A, szI x.z ≠ 0) (hn : ∀ x ∈ A, 0 ≤ x.n ∧ x.n ≤ 100000) (hl : A.length ≤ 1000) :
    Calls Tryd.prog 32 #[v] w fun e w' => e = .returned (.string (mk (txU A))) ∧ Below w.heap.size w w' := by
  have c1 := runs_any v A w hA hz hn (by omega)
  have hc := rnA_can hz
  have hb := tx_bound (rnA A) hc.1.all
  rw [kysL_ats hc.1.all, List.length_map, hc.2] at hb
  have c2 := fun u W (hu : RdN W u (rnA A)) => rtext_any u (rnA A) W hu (by omega) (by omega)
  rw [text_eq hz] at c2
  obtain ⟨ao, ac, hv, -⟩ := id hA
  subst hv
  clear hA hz hn hc hb
  generalize mk (txU A) = T at *
  go_enter Tryd.func32, Tryd.ntmps32
  go_wp2_with fail
  refine c1.mono ?_
  rintro e w1 ⟨u1, rfl, ho1, q1⟩
  have r1 := rdn_own ho1
  obtain ⟨p1, s1, rfl⟩ := own_form ho1
  clear ho1 c1
  go_wp2_with fail
  refine (c2 _ _ r1).mono ?_
  rintro e w2 ⟨rfl, q2⟩
  go_wp2_with fail
  go_ret
  exact ⟨rfl, chain q1 q2⟩
end Go.Proofs.YtofmficdfkeffaaDoor

/-
  The reference's Compare (two texts, byte by byte).
-/
namespace Go.Proofs.YtofmficdfkeffaaDoor
open Go.ChangeShapes Go.WideShapes Go.ChangeAt Go.RowKit Go.PlainAid

theorem cmp_step (x y : UInt8) (a b : List UInt8) (h : x = y) : Lib.compareBytes (x :: a) (y :: b) = Lib.compareBytes a b := by
  subst h
  simp [Lib.compareBytes]
theorem cmp_prefix : ∀ (k : Nat) (a b : List UInt8), (∀ j, j < k → a[j]? = b[j]?) → k ≤ a.length → k ≤ b.length → Lib.compareBytes a b = Lib.compareBytes (a.drop k) (b.drop k)
  | 0, a, b, _, _, _ => by simp
  | k + 1, [], _, _, h, _ => by simp at h
  | k + 1, _ :: _, [], _, _, h => by simp at h
  | k + 1, x :: a, y :: b, hj, ha, hb => by
    have h0 := hj 0 (by omega)
    simp at h0
    rw [cmp_step x y a b h0, List.drop_succ_cons, List.drop_succ_cons]
    exact cmp_prefix k a b (fun j h => by simpa using hj (j + 1) (by omega)) (by simpa using ha) (by simpa using hb)


theorem drop_at (s : ByteArray) (k : Nat) (h : k < s.size) : ∃ (x : UInt8) (r : List UInt8), s.data.toList.drop k = x :: r ∧ bt s k = (x.toNat : Int) ∧ s.data.toList[k]? = some x := by
  have hl : k < s.data.toList.length := by rw [data_len]; exact h
  exact ⟨s.data.toList[k], s.data.toList.drop (k + 1), List.drop_eq_getElem_cons hl, bt_data s k h, List.getElem?_eq_getElem hl⟩

set_option maxHeartbeats 2000000 in
theorem refCompare_any (a b : ByteArray) (w : World) (ha : a.size ≤ maxLen) (hb : b.size ≤ maxLen) :
    Calls Tryd.prog 31 #[.string a, .string b] w fun e w' => e = .returned (.int .i64 (Lib.compareBytes a.data.toList b.data.toList)) ∧ Below w.heap.size w w' := by
  unfold maxLen at ha hb
  have ga := get_bt a
  have gb := get_bt b
  go_enter Tryd.func31, Tryd.ntmps31
  go_wp2
  go_loopw [5] (fun i wr => ∃ k : Nat, k ≤ a.size ∧ k ≤ b.size ∧ i = .int .i64 (k : Int) ∧ Below w.heap.size w wr ∧ Hid (∀ j, j < k → a.data.toList[j]? = b.data.toList[j]?)) (fun i _ => a.size - (Go.RowKit.intOf i).toNat)
  case atStart => exact ⟨0, by omega, by omega, rfl, Below.refl _ _, fun j hj => by omega⟩
  case round =>
    obtain ⟨k, hka, hkb, rfl, hbl, HE⟩ := hrel
    have HC : Hid (Lib.compareBytes a.data.toList b.data.toList = Lib.compareBytes (a.data.toList.drop k) (b.data.toList.drop k)) := cmp_prefix k _ _ HE.out (by rw [data_len]; exact hka) (by rw [data_len]; exact hkb)
    by_cases hla : k < a.size
    · by_cases hlb : k < b.size
      · obtain ⟨x, r, ex, hx, ix⟩ := drop_at a k hla
        obtain ⟨y, q, ey, hy, iy⟩ := drop_at b k hlb
        have i1 : (k : Int) < (a.size : Int) := by omega
        have i2 : (k : Int) < (b.size : Int) := by omega
        have HC2 : Hid (Lib.compareBytes a.data.toList b.data.toList = Lib.compareBytes (x :: r) (y :: q)) := by show _ = _; rw [HC.out, ex, ey]
        have HI : Hid (a.data.toList[k]? = some x ∧ b.data.toList[k]? = some y) := ⟨ix, iy⟩
        have HX : Hid (bt a k = (x.toNat : Int) ∧ bt b k = (y.toNat : Int)) := ⟨hx, hy⟩
        clear ex ey ix iy HC hx hy
        by_cases c1 : bt a k < bt b k
        · have HR : Hid (Lib.compareBytes a.data.toList b.data.toList = -1) := by
            show _ = _
            have h1 := HX.out
            rw [HC2.out, Lib.compareBytes, if_pos (by rw [UInt8.lt_iff_toNat_lt]; omega)]
          have d1 : decide (bt a k < bt b k) = true := by simpa using c1
          clear HC2 HI HX HE
          go_wp2
          go_quiet (fail)
          go_wp2
          go_ret
          exact ⟨by rw [HR.out]; rfl, below_drewN hbl _⟩
        · by_cases c2 : bt b k < bt a k
          · have HR : Hid (Lib.compareBytes a.data.toList b.data.toList = 1) := by
              show _ = _
              have h1 := HX.out
              rw [HC2.out, Lib.compareBytes, if_neg (by rw [UInt8.lt_iff_toNat_lt]; omega), if_pos (by rw [UInt8.lt_iff_toNat_lt]; omega)]
            clear HC2 HI HX HE
            go_wp2
            go_quiet (fail)
            go_wp2
            go_quiet (fail)
            go_wp2
            go_ret
            exact ⟨by rw [HR.out]; rfl, below_drewN (below_drewN hbl _) _⟩
          · have HR : Hid (∀ j, j < k + 1 → a.data.toList[j]? = b.data.toList[j]?) := fun j hj => by
              by_cases e : j = k
              · subst e
                have h1 := HX.out
                rw [HI.out.1, HI.out.2, UInt8.toNat_inj.1 (show x.toNat = y.toNat by omega)]
              · exact HE.out j (by omega)
            clear HC2 HI HX HE
            go_wp2
            go_quiet (fail)
            go_wp2
            go_quiet (fail)
            go_wp2
            go_roundw
            case rel => exact ⟨k + 1, by omega, by omega, by go_num, below_drewN hbl _, HR⟩
            case measure => simp [Go.RowKit.intOf]; omega
      · have e : k = b.size := by omega
        have HR : Hid (Lib.compareBytes a.data.toList b.data.toList = 1) := by
          show _ = _
          obtain ⟨x, r, ex, _⟩ := drop_at a k hla
          rw [HC.out, ex, List.drop_of_length_le (by rw [data_len]; omega)]
          rfl
        clear HC HE
        have e1 : ¬ (a.size : Int) < (b.size : Int) := by omega
        go_wp2
        go_ret
        exact ⟨by rw [HR.out]; rfl, hbl⟩
    · have e : k = a.size := by omega
      by_cases hlb : k < b.size
      · have HR : Hid (Lib.compareBytes a.data.toList b.data.toList = -1) := by
          show _ = _
          obtain ⟨y, q, ey, _⟩ := drop_at b k hlb
          rw [HC.out, ey, List.drop_of_length_le (by rw [data_len]; omega)]
          rfl
        clear HC HE
        go_wp2
        go_ret
        exact ⟨by rw [HR.out]; rfl, hbl⟩
      · have HR : Hid (Lib.compareBytes a.data.toList b.data.toList = 0) := by
          show _ = _
          rw [HC.out, List.drop_of_length_le (by rw [data_len]; omega), List.drop_of_length_le (by rw [data_len]; omega)]
          rfl
        clear HC HE
        go_wp2
        go_ret
        exact ⟨by rw [HR.out]; rfl, hbl⟩
end Go.Proofs.YtofmficdfkeffaaDoor

/-
  What the reference's Docs makes of atoms is what the merged row is. No walk.
-/
namespace Go.Proofs.YtofmficdfkeffaaDoor
open Go.ChangeShapes Go.WideShapes Go.ChangeAt Go.RowKit Go.PlainAid

/-- The reference's gaps: a survivor begins the next one, a new atom is put in. -/
def gpR (S A : List Atm) : List (List Atm) → List Atm → List Atm → List (List Atm)
  | D, c, [] => D ++ [c]
  | D, c, x :: l => if hasK S x = true then (if hasK A x = true then gpR S A (D ++ [c]) [] l else gpR S A (D ++ [c]) [x] l) else (if hasK A x = true then gpR S A D c l else gpR S A D (c ++ [x]) l)
theorem gpR_eq {A X Y : List Atm} : ∀ (l : List Atm) (D : List (List Atm)) (c : List Atm), gpR (A.filter (svP A X Y)) A D c l = gpG (svP A X Y) D c (l.filter (stP A X Y))
  | [], D, c => by simp [gpR, gpG]
  | x :: l, D, c => by
    have hs : hasK (A.filter (svP A X Y)) x = svP A X Y x := by
      cases h : svP A X Y x
      · cases h2 : hasK (A.filter (svP A X Y)) x
        · rfl
        · obtain ⟨y, hy, e⟩ := hasK_iff.1 h2
          have h3 := (List.mem_filter.1 hy).2
          unfold svP at h h3
          rw [hasK_key e, hasK_key (A := X) e, hasK_key (A := Y) e, h] at h3
          cases h3
      · have hA : hasK A x = true := by
          unfold svP at h
          simp only [Bool.and_eq_true] at h
          exact h.1.1
        obtain ⟨y, hy, e⟩ := hasK_iff.1 hA
        refine hasK_iff.2 ⟨y, List.mem_filter.2 ⟨hy, ?_⟩, e⟩
        unfold svP at h ⊢
        rw [hasK_key e, hasK_key (A := X) e, hasK_key (A := Y) e]
        exact h
    rw [gpR, hs, List.filter_cons]
    cases h : svP A X Y x
    · cases hA : hasK A x
      · have ht : stP A X Y x = true := by unfold stP; rw [hA]; simp
        rw [if_pos ht, gpG, h]
        simp only [Bool.false_eq_true, if_false]
        exact gpR_eq l D (c ++ [x])
      · have ht : stP A X Y x = false := by unfold stP; rw [hA, h]; rfl
        rw [ht]
        simp only [Bool.false_eq_true, if_false, if_true]
        exact gpR_eq l D c
    · have hA : hasK A x = true := by
        unfold svP at h
        simp only [Bool.and_eq_true] at h
        exact h.1.1
      have ht : stP A X Y x = true := by unfold stP; rw [h]; rfl
      rw [if_pos ht, gpG, h, hA]
      simp only [if_true]
      exact gpR_eq l (D ++ [c]) []
theorem all_eq (A X Y : List Atm) : A.filter (fun u => hasK X u && hasK Y u) = A.filter (svP A X Y) := by
  apply List.filter_congr
  intro u hu
  unfold svP
  rw [hasK_self hu]
  rfl
theorem pr_ref (nx ny : Int) (g h : List Atm) : prM (cmpI nx ny) g h = if Lib.compareBytes (txU g) (txU h) < 0 ∨ (Lib.compareBytes (txU g) (txU h) = 0 ∧ nx ≤ ny) then g ++ h else h ++ g := by
  unfold prM sgn orI
  generalize Lib.compareBytes (txU g) (txU h) = s
  by_cases h0 : s = 0
  · subst h0
    rw [if_pos rfl]
    have hc : 0 < cmpI nx ny ↔ ¬ nx ≤ ny := by
      unfold cmpI
      split
      · omega
      · split <;> omega
    by_cases hn : nx ≤ ny
    · rw [if_neg (fun h => (hc.1 h) hn), if_pos (Or.inr ⟨rfl, hn⟩)]
    · rw [if_pos (hc.2 hn), if_neg (by omega)]
  · rw [if_neg h0]
    by_cases h1 : s < 0
    · rw [if_neg (by omega), if_pos (Or.inl h1)]
    · rw [if_pos (by omega), if_neg (by omega)]

/-- A gap's word: what is put in, then what goes. -/
def wdA (g p : List Atm) : List U := (p.map Atm.z).map .I ++ List.replicate g.length .R
def wdG : List (List Atm) → List (List Atm) → List U
  | g :: G, p :: P => .K :: (wdA g p ++ wdG G P)
  | _, _ => []
theorem ju_gap (D : List PS) (k : Nat) (g p : List Atm) : ju ⟨D, k, [], 0⟩ (wdA g p) = ⟨D, k, p.map Atm.z, g.length⟩ := by
  unfold wdA
  rw [ju_append, ju_I, ju_R]
  simp
theorem out_gap (D : List PS) (k : Nat) (g p : List Atm) : (JU.out ⟨D, k, p.map Atm.z, g.length⟩).map PS.op = (JU.out ⟨D, k, [], 0⟩).map PS.op ++ dpO g p := by
  unfold JU.out flushP dpO
  simp only [List.map_append, List.append_assoc, List.length_map, List.length_nil, Nat.lt_irrefl, if_false, List.map_nil, List.nil_append]
  congr 2
  by_cases hp : p = []
  · subst hp
    by_cases hg : g = []
    · subst hg; rfl
    · rw [if_neg hg, if_pos (List.length_pos_iff.2 hg)]; rfl
  · rw [if_neg hp, if_pos (List.length_pos_iff.2 hp)]
    by_cases hg : g = []
    · subst hg; rfl
    · rw [if_neg hg, if_pos (List.length_pos_iff.2 hg)]; rfl
theorem out_K (σ : JU) (h : 0 < σ.kept ∨ σ.D = []) : ((σ.add .K).out).map PS.op = kpD (σ.out.map PS.op) ∧ ∃ D k, σ.add .K = ⟨D, k, [], 0⟩ ∧ 0 < k := by
  obtain ⟨D, k, put, gone⟩ := σ
  simp only at h
  unfold JU.add
  simp only
  by_cases hc : 0 < put.length ∨ 0 < gone
  · rw [if_pos hc]
    refine ⟨?_, _, _, rfl, by omega⟩
    obtain ⟨L, o, e, ho⟩ : ∃ L o, (D ++ flushP k put gone).map PS.op = L ++ [o] ∧ o.k ≠ 1 := by
      unfold flushP
      by_cases hg : 0 < gone
      · refine ⟨(D ++ ((if 0 < k then [PS.keep k] else []) ++ (if 0 < put.length then [PS.ins put] else []))).map PS.op, (PS.rem gone).op, ?_, by simp [PS.op, PS.st, St.op]⟩
        rw [if_pos hg]
        simp
      · refine ⟨(D ++ (if 0 < k then [PS.keep k] else [])).map PS.op, (PS.ins put).op, ?_, by simp [PS.op, PS.st, St.op]⟩
        rw [if_neg hg, if_pos (show 0 < put.length from hc.resolve_right hg)]
        simp
    show ((D ++ flushP k put gone) ++ flushP 1 [] 0).map PS.op = kpD ((D ++ flushP k put gone).map PS.op)
    rw [List.map_append, e, kpD_else L o ho]
    rfl
  · rw [if_neg hc]
    have hp : put = [] := List.eq_nil_of_length_eq_zero (by omega)
    have hg : gone = 0 := by omega
    subst hp hg
    refine ⟨?_, _, _, rfl, by omega⟩
    show (D ++ flushP (k + 1) [] 0).map PS.op = kpD ((D ++ flushP k [] 0).map PS.op)
    have e1 : ∀ n : Nat, 0 < n → flushP n [] 0 = [.keep n] := fun n hn => by unfold flushP; rw [if_pos hn]; rfl
    by_cases hk : 0 < k
    · rw [e1 k hk, e1 (k + 1) (by omega), List.map_append, List.map_append]
      have := kpD_keep (D.map PS.op) (PS.keep k).op rfl
      rw [List.map_cons, List.map_nil, List.map_cons, List.map_nil, this]
      rfl
    · obtain rfl : k = 0 := by omega
      have hD : D = [] := h.resolve_left (by omega)
      subst hD
      rfl
theorem dpG_nf : ∀ (G P : List (List Atm)) (σ : JU), (0 < σ.kept ∨ σ.D = []) → dpG G P (σ.out.map PS.op) = ((ju σ (wdG G P)).out).map PS.op
  | [], _, σ, _ => by simp [dpG, wdG, ju]
  | _ :: _, [], σ, _ => by simp [dpG, wdG, ju]
  | g :: G, p :: P, σ, h => by
    obtain ⟨e, D, k, e2, hk⟩ := out_K σ h
    rw [dpG, wdG, ju_cons, ju_append, ← e, e2, ju_gap, ← out_gap]
    exact dpG_nf G P _ (.inl hk)
/-- The delta is the normal form of its word. -/
theorem dpD_nf (g p : List Atm) (G P : List (List Atm)) : dpD (g :: G) (p :: P) = (nfU (wdA g p ++ wdG G P)).map PS.op := by
  have h := dpG_nf G P ⟨[], 0, p.map Atm.z, g.length⟩ (.inr rfl)
  rw [out_gap] at h
  unfold nfU
  rw [ju_append, ju_gap, ← h]
  rfl
end Go.Proofs.YtofmficdfkeffaaDoor
