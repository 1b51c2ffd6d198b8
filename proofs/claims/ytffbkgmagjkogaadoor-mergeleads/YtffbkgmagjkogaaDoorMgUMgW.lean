/-
  What a merged row holds: each side's order, no atom twice, how many. No walk.
-/
import Derived.Test.YtffbkgmagjkogaaDoorMgR
namespace Go.Proofs.YtffbkgmagjkogaaDoor
open Go.ChangeShapes Go.WideShapes Go.ChangeAt Go.RowKit Go.PlainAid

theorem fdA_pl (x : Atm) : ∀ (l : List Atm) (i : Nat), fdA x l i = match plK l x.key with | none => -1 | some j => ((i + j : Nat) : Int)
  | [], i => by simp [fdA, plK, kL]
  | y :: l, i => by
    rw [fdA]
    by_cases h : y.same x = true
    · have hk := same_iff.1 h
      rw [if_pos h]
      simp [plK, kL, List.findIdx?_cons, hk]
    · have hk : ¬ y.key = x.key := fun e => h (same_iff.2 e)
      rw [if_neg h, fdA_pl x l (i + 1)]
      unfold plK kL
      rw [List.map_cons, List.findIdx?_cons]
      simp only [hk, decide_false, Bool.false_eq_true, if_false]
      cases (List.map Atm.key l).findIdx? (fun y => decide (y = x.key)) with
      | none => rfl
      | some j => simp only [Option.map_some]; congr 1; omega
theorem fdA_has {x : Atm} {l : List Atm} : 0 ≤ fdA x l 0 ↔ hasK l x = true := by
  rw [fdA_pl, hasK_pl]
  cases plK l x.key with
  | none => simp
  | some j => simp
theorem fdA_not {x : Atm} {l : List Atm} : fdA x l 0 < 0 ↔ hasK l x = false := by
  have := fdA_has (x := x) (l := l)
  cases h : hasK l x
  · rw [h] at this
    simp only [Bool.false_eq_true, iff_false] at this
    exact ⟨fun _ => rfl, fun _ => by omega⟩
  · rw [h] at this
    simp only [iff_true] at this
    exact ⟨fun h => by omega, fun h => by cases h⟩
/-- The last place so far. -/
def lpA (X : List Atm) : Int → List Atm → Int
  | last, [] => last
  | last, u :: l => lpA X (if 0 ≤ fdA u X 0 then fdA u X 0 else last) l
theorem lpA_snoc (X : List Atm) : ∀ (l : List Atm) (last : Int) (u : Atm), lpA X last (l ++ [u]) = if 0 ≤ fdA u X 0 then fdA u X 0 else lpA X last l
  | [], last, u => by simp [lpA]
  | v :: l, last, u => by rw [List.cons_append, lpA, lpA_snoc X l, lpA]
theorem lpA_take {X M : List Atm} {k : Nat} (hk : k < M.length) : lpA X (-1) (M.take (k + 1)) = if 0 ≤ fdA M[k] X 0 then fdA M[k] X 0 else lpA X (-1) (M.take k) := by
  rw [List.take_succ_eq_append_getElem hk, lpA_snoc]
theorem lpA_is (X : List Atm) : ∀ (l : List Atm) (last : Int), lpA X last l = last ∨ ∃ u ∈ l, 0 ≤ fdA u X 0 ∧ lpA X last l = fdA u X 0
  | [], last => .inl rfl
  | v :: l, last => by
    rw [lpA]
    rcases lpA_is X l (if 0 ≤ fdA v X 0 then fdA v X 0 else last) with h | ⟨u, hu, h0, h⟩
    · by_cases hv : 0 ≤ fdA v X 0
      · rw [if_pos hv] at h ⊢
        exact .inr ⟨v, by simp, hv, h⟩
      · rw [if_neg hv] at h ⊢
        exact .inl h
    · exact .inr ⟨u, by simp [hu], h0, h⟩
/-- In the order of X. -/
def Ord (X M : List Atm) : Prop := M.Pairwise fun u v => 0 ≤ fdA u X 0 → 0 ≤ fdA v X 0 → fdA u X 0 < fdA v X 0
theorem lp_lt {X M : List Atm} (h : Ord X M) {k : Nat} (hk : k < M.length) (h0 : 0 ≤ fdA M[k] X 0) : lpA X (-1) (M.take k) < fdA M[k] X 0 := by
  rcases lpA_is X (M.take k) (-1) with e | ⟨u, hu, hu0, e⟩
  · rw [e]; omega
  · rw [e]
    have hM : M = M.take k ++ M[k] :: M.drop (k + 1) := by rw [← List.drop_eq_getElem_cons hk, List.take_append_drop]
    unfold Ord at h
    rw [hM, List.pairwise_append] at h
    exact h.2.2 u hu _ List.mem_cons_self hu0 h0
theorem ord_of {X M : List Atm} (nX : (kL X).Nodup) (h : (M.filter (hasK X)).Sublist X) : Ord X M := by
  have hX : X.Pairwise fun u v => fdA u X 0 < fdA v X 0 := by
    rw [List.pairwise_iff_getElem]
    intro i j hi hj hij
    rw [fdA_nodup X 0 i X[i] (List.getElem?_eq_getElem hi) nX, fdA_nodup X 0 j X[j] (List.getElem?_eq_getElem hj) nX]
    omega
  have hL := hX.sublist h
  rw [List.pairwise_filter] at hL
  exact hL.imp fun hR h1 h2 => hR (fdA_has.1 h1) (fdA_has.1 h2)
theorem mg_fl (t : Int) (q : Atm → Bool) : ∀ (GX GY : List (List Atm)) (S : List Atm), GX.length = GY.length → (∀ u ∈ GX.flatten, q u = true) → (∀ u ∈ GY.flatten, q u = false) → (∀ u ∈ S, q u = true) → (mgG t GX GY S).filter q = ilv GX S
  | [], [], S, _, _, _, _ => by simp [mgG, ilv]
  | [], _ :: _, _, h, _, _, _ => by simp at h
  | _ :: _, [], _, h, _, _, _ => by simp at h
  | g :: GX, h :: GY, S, hl, h1, h2, h3 => by
    have ih := mg_fl t q GX GY S.tail (by simpa using hl) (fun u hu => h1 u (by simp only [List.flatten_cons, List.mem_append]; exact .inr hu)) (fun u hu => h2 u (by simp only [List.flatten_cons, List.mem_append]; exact .inr hu)) (fun u hu => h3 u (List.mem_of_mem_tail hu))
    have e1 : g.filter q = g := List.filter_eq_self.2 fun u hu => h1 u (by simp only [List.flatten_cons, List.mem_append]; exact .inl hu)
    have e2 : h.filter q = [] := List.filter_eq_nil_iff.2 fun u hu => by rw [h2 u (by simp only [List.flatten_cons, List.mem_append]; exact .inl hu)]; simp
    have e3 : S.head?.toList.filter q = S.head?.toList := List.filter_eq_self.2 fun u hu => h3 u (by
      cases S with
      | nil => simp at hu
      | cons a S => simp at hu; subst hu; simp)
    rw [mgG, ilv, List.filter_append, List.filter_append, ih, e3]
    congr 1
    unfold prM
    split <;> rw [List.filter_append, e1, e2] <;> simp
theorem mg_fr (t : Int) (q : Atm → Bool) : ∀ (GX GY : List (List Atm)) (S : List Atm), GX.length = GY.length → (∀ u ∈ GX.flatten, q u = false) → (∀ u ∈ GY.flatten, q u = true) → (∀ u ∈ S, q u = true) → (mgG t GX GY S).filter q = ilv GY S
  | [], [], S, _, _, _, _ => by simp [mgG, ilv]
  | [], _ :: _, _, h, _, _, _ => by simp at h
  | _ :: _, [], _, h, _, _, _ => by simp at h
  | g :: GX, h :: GY, S, hl, h1, h2, h3 => by
    have ih := mg_fr t q GX GY S.tail (by simpa using hl) (fun u hu => h1 u (by simp only [List.flatten_cons, List.mem_append]; exact .inr hu)) (fun u hu => h2 u (by simp only [List.flatten_cons, List.mem_append]; exact .inr hu)) (fun u hu => h3 u (List.mem_of_mem_tail hu))
    have e1 : h.filter q = h := List.filter_eq_self.2 fun u hu => h2 u (by simp only [List.flatten_cons, List.mem_append]; exact .inl hu)
    have e2 : g.filter q = [] := List.filter_eq_nil_iff.2 fun u hu => by rw [h1 u (by simp only [List.flatten_cons, List.mem_append]; exact .inl hu)]; simp
    have e3 : S.head?.toList.filter q = S.head?.toList := List.filter_eq_self.2 fun u hu => h3 u (by
      cases S with
      | nil => simp at hu
      | cons a S => simp at hu; subst hu; simp)
    rw [mgG, ilv, List.filter_append, List.filter_append, ih, e3]
    congr 1
    unfold prM
    split <;> rw [List.filter_append, e1, e2] <;> simp
theorem hasK_key {A : List Atm} {u v : Atm} (h : u.key = v.key) : hasK A u = hasK A v := by unfold hasK; rw [h]
theorem nodup_split (p : Atm → Bool) (hp : ∀ u v : Atm, u.key = v.key → p u = p v) : ∀ M : List Atm, (kL (M.filter p)).Nodup → (kL (M.filter fun u => !p u)).Nodup → (kL M).Nodup
  | [], _, _ => by simp [kL]
  | u :: M, h1, h2 => by
    rw [List.filter_cons] at h1 h2
    rw [kL_cons, List.nodup_cons]
    by_cases h : p u = true
    · rw [if_pos h, kL_cons, List.nodup_cons] at h1
      rw [if_neg (by simp [h])] at h2
      refine ⟨fun hm => ?_, nodup_split p hp M h1.2 h2⟩
      obtain ⟨v, hv, e⟩ := List.mem_map.1 hm
      exact h1.1 (by rw [← e]; exact List.mem_map.2 ⟨v, List.mem_filter.2 ⟨hv, by rw [hp v u e]; exact h⟩, rfl⟩)
    · rw [if_neg h] at h1
      rw [if_pos (by simpa using h), kL_cons, List.nodup_cons] at h2
      refine ⟨fun hm => ?_, nodup_split p hp M h1 h2.2⟩
      obtain ⟨v, hv, e⟩ := List.mem_map.1 hm
      exact h2.1 (by rw [← e]; exact List.mem_map.2 ⟨v, List.mem_filter.2 ⟨hv, by rw [hp v u e]; simpa using h⟩, rfl⟩)
theorem length_parts (p : Atm → Bool) : ∀ M : List Atm, M.length = (M.filter p).length + (M.filter fun u => !p u).length
  | [] => rfl
  | u :: M => by
    have ih := length_parts p M
    rw [List.filter_cons, List.filter_cons]
    cases p u <;> simp only [Bool.not_false, Bool.not_true, Bool.false_eq_true, if_true, if_false, List.length_cons] <;> omega
theorem kl_sub {L M : List Atm} (h : L.Sublist M) (hn : (kL M).Nodup) : (kL L).Nodup := (h.map Atm.key).nodup hn
/-- What a merged row holds. -/
structure Mgd (A X Y M : List Atm) : Prop where
  fx : M.filter (hasK X) = X.filter (stP A X Y)
  fy : M.filter (hasK Y) = Y.filter (stP A X Y)
  all : ∀ u ∈ M, (hasK A u = true ∧ hasK X u = true ∧ hasK Y u = true) ∨ (hasK A u = false ∧ hasK X u = true ∧ hasK Y u = false) ∨ (hasK A u = false ∧ hasK X u = false ∧ hasK Y u = true)
  one : (kL M).Nodup
  len : M.length = (X.filter (stP A X Y)).length + (Y.filter fun u => !hasK A u).length
theorem mgd {A X Y : List Atm} (nA : (kL A).Nodup) (nX : (kL X).Nodup) (nY : (kL Y).Nodup) (h : mdB A X Y = true) (t : Int) : Mgd A X Y (mgR t A X Y) := by
  unfold mdB at h
  simp only [Bool.and_eq_true, Bool.not_eq_true'] at h
  obtain ⟨⟨hx, hy⟩, hap⟩ := h
  have ap : ∀ v ∈ Y, hasK A v = false → hasK X v = false := fun v hv ha => by
    cases hh : hasK X v
    · rfl
    · rw [List.any_eq_false] at hap
      exact absurd (by rw [hh, ha]; rfl) (hap v hv)
  have ap' : ∀ u ∈ X, hasK A u = false → hasK Y u = false := fun u hu ha => by
    cases hh : hasK Y u
    · rfl
    · obtain ⟨v, hv, e⟩ := hasK_iff.1 hh
      have h1 := ap v hv (by rw [hasK_key e]; exact ha)
      rw [hasK_key e, hasK_self hu] at h1
      cases h1
  have gx : ∀ u ∈ (gpG (svP A X Y) [] [] (X.filter (stP A X Y))).flatten, u ∈ X ∧ hasK A u = false := fun u hu => by
    rw [gpG_all] at hu
    simp only [List.flatten_nil, List.nil_append, List.mem_filter] at hu
    obtain ⟨⟨h1, h2⟩, h3⟩ := hu
    refine ⟨h1, ?_⟩
    unfold stP at h2
    cases hs : svP A X Y u
    · rw [hs] at h2; simpa using h2
    · rw [hs] at h3; cases h3
  have gy : ∀ u ∈ (gpG (svP A X Y) [] [] (Y.filter (stP A X Y))).flatten, u ∈ Y ∧ hasK A u = false := fun u hu => by
    rw [gpG_all] at hu
    simp only [List.flatten_nil, List.nil_append, List.mem_filter] at hu
    obtain ⟨⟨h1, h2⟩, h3⟩ := hu
    refine ⟨h1, ?_⟩
    unfold stP at h2
    cases hs : svP A X Y u
    · rw [hs] at h2; simpa using h2
    · rw [hs] at h3; cases h3
  have gs : ∀ u ∈ A.filter (svP A X Y), hasK A u = true ∧ hasK X u = true ∧ hasK Y u = true := fun u hu => by
    have := (List.mem_filter.1 hu).2
    unfold svP at this
    simp only [Bool.and_eq_true] at this
    exact ⟨this.1.1, this.1.2, this.2⟩
  have hall : ∀ u ∈ mgR t A X Y, (hasK A u = true ∧ hasK X u = true ∧ hasK Y u = true) ∨ (hasK A u = false ∧ hasK X u = true ∧ hasK Y u = false) ∨ (hasK A u = false ∧ hasK X u = false ∧ hasK Y u = true) := fun u hu => by
    rcases mgG_mem t _ _ _ u hu with h | h | h
    · obtain ⟨h1, h2⟩ := gx u h
      exact .inr (.inl ⟨h2, hasK_self h1, ap' u h1 h2⟩)
    · obtain ⟨h1, h2⟩ := gy u h
      exact .inr (.inr ⟨h2, ap u h1 h2, hasK_self h1⟩)
    · exact .inl (gs u h)
  have ex : (X.filter (stP A X Y)).filter (svP A X Y) = A.filter (svP A X Y) := by
    have := congrArg (List.filter (hasK Y)) (fit_eq nA nX hx)
    rw [List.filter_filter] at this
    rw [List.filter_filter] at this ⊢
    rw [List.filter_congr (q := fun u => hasK Y u && hasK A u), this]
    · apply List.filter_congr
      intro u hu
      unfold svP
      rw [hasK_self hu]
      cases hasK X u <;> cases hasK Y u <;> rfl
    · intro u hu
      unfold stP svP
      rw [hasK_self hu]
      cases hasK A u <;> cases hasK Y u <;> rfl
  have ey : (Y.filter (stP A X Y)).filter (svP A X Y) = A.filter (svP A X Y) := by
    have := congrArg (List.filter (hasK X)) (fit_eq nA nY hy)
    rw [List.filter_filter] at this
    rw [List.filter_filter] at this ⊢
    rw [List.filter_congr (q := fun u => hasK X u && hasK A u), this]
    · apply List.filter_congr
      intro u hu
      unfold svP
      rw [hasK_self hu]
      cases hasK X u <;> cases hasK Y u <;> rfl
    · intro u hu
      unfold stP svP
      rw [hasK_self hu]
      cases hasK A u <;> cases hasK X u <;> rfl
  have fx : (mgR t A X Y).filter (hasK X) = X.filter (stP A X Y) := by
    unfold mgR
    rw [mg_fl t (hasK X) _ _ _ (gap_bal nA nX nY) (fun u hu => hasK_self (gx u hu).1) (fun u hu => ap u (gy u hu).1 (gy u hu).2) (fun u hu => (gs u hu).2.1), ← ex, ilv_gp]
    rfl
  have fy : (mgR t A X Y).filter (hasK Y) = Y.filter (stP A X Y) := by
    unfold mgR
    rw [mg_fr t (hasK Y) _ _ _ (gap_bal nA nX nY) (fun u hu => ap' u (gx u hu).1 (gx u hu).2) (fun u hu => hasK_self (gy u hu).1) (fun u hu => (gs u hu).2.2), ← ey, ilv_gp]
    rfl
  have fz : (mgR t A X Y).filter (fun u => !hasK X u) = Y.filter (fun u => !hasK A u) := by
    have h1 : (mgR t A X Y).filter (fun u => !hasK X u) = ((mgR t A X Y).filter (hasK Y)).filter (fun u => !hasK X u) := by
      rw [List.filter_filter]
      apply List.filter_congr
      intro u hu
      rcases hall u hu with ⟨-, h2, h3⟩ | ⟨-, h2, h3⟩ | ⟨-, h2, h3⟩ <;> rw [h2, h3] <;> rfl
    rw [h1, fy, List.filter_filter]
    apply List.filter_congr
    intro u hu
    unfold stP svP
    rw [hasK_self hu]
    cases ha : hasK A u
    · rw [ap u hu ha]; rfl
    · cases hasK X u <;> rfl
  refine ⟨fx, fy, hall, nodup_split (hasK X) (fun u v e => hasK_key e) _ ?_ ?_, ?_⟩
  · rw [fx]; exact kl_sub List.filter_sublist nX
  · rw [fz]; exact kl_sub List.filter_sublist nY
  · rw [← fx, ← fz]
    exact length_parts _ _
theorem md_facts {b x y : List RunD} {nx ny : Int} (h : mdE b x y nx ny = 0) : Good b ∧ Good x ∧ Good y ∧ Good (mdL b x y nx ny) ∧ Mgd (ats b) (ats x) (ats y) (ats (mdL b x y nx ny)) := by
  obtain ⟨hck, hB, hn⟩ : ckL [b, x, y] = 0 ∧ mdB (ats b) (ats x) (ats y) = true ∧ (mgR (cmpI nx ny) (ats b) (ats x) (ats y)).length ≤ 1000 := by
    unfold mdE at h
    split at h
    · rename_i h1
      split at h
      · rename_i h2
        split at h
        · rename_i h3
          exact ⟨h1, h2, h3⟩
        · cases h
      · cases h
    · cases h
  have gb := ckL_good hck b (by simp)
  have gx := ckL_good hck x (by simp)
  have gy := ckL_good hck y (by simp)
  have kb := good_kl gb
  have kx := good_kl gx
  have ky := good_kl gy
  have hm := mgd kb.1 kx.1 ky.1 hB (cmpI nx ny)
  have hz : ∀ u ∈ mgR (cmpI nx ny) (ats b) (ats x) (ats y), szI u.z ≠ 0 := fun u hu => by
    rcases mgR_mem hu with g | g | g
    · exact kx.2.2.2 u g
    · exact ky.2.2.2 u g
    · exact kb.2.2.2 u g
  have hy : ∀ u ∈ mgR (cmpI nx ny) (ats b) (ats x) (ats y), u.May := fun u hu => by
    rcases mgR_mem hu with g | g | g
    · exact kx.2.1 u g
    · exact ky.2.1 u g
    · exact kb.2.1 u g
  obtain ⟨hc, ha⟩ := rnA_can hz
  have hL : mdL b x y nx ny = rnA (mgR (cmpI nx ny) (ats b) (ats x) (ats y)) := if_pos h
  refine ⟨gb, gx, gy, ?_, ?_⟩
  · rw [hL, good_ats, ha]
    exact ⟨hc, hy, hm.one, hn⟩
  · rw [hL, ha]
    exact hm
theorem atoms_good (v : Value) (l : List RunD) (w : World) (hr : RdN w v l) (hg : Good l) :
    Calls Tryd.prog 17 #[v] w fun e w' => ∃ u, e = .returned u ∧ w'.ownsRow w.heap.size 42 4 u (ats l).length (acs (ats l)) ∧ Below w.heap.size w w' := by
  have hbd := hg.bound
  have hk := (good_kl hg).2.2.1
  exact atoms_any v l w hr (fun r hr => (hg.fit r hr).ok) (fun r hr => Nat.le_trans (txB_mem hr) (by omega)) (fun r hr => by obtain ⟨-, m2, m3, m4⟩ := mayR_iff.1 (hg.may r hr); omega) (by omega) (by omega)
theorem cnt_take {X : List Atm} (p : Atm → Bool) {k : Nat} (hk : k < X.length) : ((X.take (k + 1)).filter p).length = ((X.take k).filter p).length + if p X[k] = true then 1 else 0 := by
  rw [List.take_succ_eq_append_getElem hk, List.filter_append, List.length_append, List.filter_cons, List.filter_nil]
  congr 1
  split <;> rfl
end Go.Proofs.YtffbkgmagjkogaaDoor

/-
  The delta between two rows that fit leads from the one's text to the other's. No walk.
-/
namespace Go.Proofs.YtffbkgmagjkogaaDoor
open Go.ChangeShapes Go.WideShapes Go.ChangeAt Go.RowKit Go.PlainAid

theorem fit_ofG {A : List Atm} (nA : (kL A).Nodup) : ∀ (L : List Atm) (j : Nat) (last : Int), last ≤ (j : Int) → (L.filter (hasK A)).Sublist (A.drop j) → fitG A last L = true
  | [], _, _, _, _ => by simp [fitG]
  | x :: L, j, last, hl, h => by
    rw [fitG]
    cases hp : plK A x.key with
    | none =>
      rw [List.filter_cons, hasK_pl, hp] at h
      exact fit_ofG nA L j last hl h
    | some i =>
      rw [List.filter_cons, hasK_pl, hp] at h
      simp only [Option.isSome_some, if_true] at h
      obtain ⟨r1, r2, e, hx, hs⟩ := List.cons_sublist_iff.1 h
      obtain ⟨m, hm, hxm⟩ := List.getElem_of_mem hx
      have hA : A[j + m]? = some x := by
        rw [← List.getElem?_drop, e, List.getElem?_append_left hm, List.getElem?_eq_getElem hm, hxm]
      have hi : i = j + m := by
        have := (plK_some nA (k := x.key) (i := j + m)).2 (by unfold kL; rw [List.getElem?_map, hA]; rfl)
        rw [hp] at this
        exact Option.some.inj this
      subst hi
      simp only
      rw [if_neg]
      · refine fit_ofG nA L (j + r1.length) _ (by omega) ?_
        have : A.drop (j + r1.length) = r2 := by rw [← List.drop_drop, e]; simp
        rw [this]
        exact hs
      · rintro (h1 | h1)
        · omega
        · exact h1 (by rw [hA]; rfl)
theorem fit_of {A L : List Atm} (nA : (kL A).Nodup) (h : (L.filter (hasK A)).Sublist A) : fitD A L = true := fit_ofG nA L 0 (-1) (by omega) (by simpa using h)

/-- What operations use up and what they make. -/
structure Qd (d : List OpD) (a b : List Int) : Prop where
  may : ∀ o ∈ d, (stOf o).isSome = true
  inn : ∀ o ∈ d, o.In
  len : d.length ≤ a.length + b.length
  bs : bsum (stl d) = a.length
  ts : tsum (stl d) = b.length
  run : ∀ (rest : List Int) (more : List St), apRun (a ++ rest) (stl d ++ more) = b ++ apRun rest more
theorem Qd.nil : Qd [] [] [] := ⟨fun o h => by simp at h, fun o h => by simp at h, Nat.le_refl _, rfl, rfl, fun _ _ => rfl⟩
theorem stl_snoc (d : List OpD) {o : OpD} {s : St} (h : stOf o = some s) : stl (d ++ [o]) = stl d ++ [s] := by
  unfold stl
  rw [List.filterMap_append]
  simp [h]
theorem Qd.snoc {d : List OpD} {a b : List Int} (q : Qd d a b) {o : OpD} {s : St} (hs : stOf o = some s) (hi : o.In) (ca cb : List Int) (h1 : s.b = ca.length) (h2 : s.c = cb.length) (h3 : 1 ≤ ca.length + cb.length)
    (hr : ∀ (rest : List Int) (more : List St), apRun (ca ++ rest) (s :: more) = cb ++ apRun rest more) : Qd (d ++ [o]) (a ++ ca) (b ++ cb) := by
  refine ⟨fun x hx => ?_, fun x hx => ?_, ?_, ?_, ?_, fun rest more => ?_⟩
  · rcases List.mem_append.1 hx with h | h
    · exact q.may x h
    · simp only [List.mem_singleton] at h; subst h; rw [hs]; rfl
  · rcases List.mem_append.1 hx with h | h
    · exact q.inn x h
    · simp only [List.mem_singleton] at h; subst h; exact hi
  · have := q.len
    simp only [List.length_append, List.length_singleton]
    omega
  · rw [stl_snoc d hs, bsum_append, q.bs, List.length_append, ← h1]
    simp [bsum]
  · rw [stl_snoc d hs, tsum_append, q.ts, List.length_append, ← h2]
    simp [tsum]
  · rw [stl_snoc d hs, List.append_assoc, List.append_assoc, q.run, List.singleton_append, hr, List.append_assoc]
theorem apRun_two (n : Nat) (more : List St) : ∀ (s : List St) (l : List Int), apRun l (s ++ .keep (n + 1) :: more) = apRun l (s ++ .keep n :: .keep 1 :: more)
  | [], l => by
    simp only [List.nil_append, apRun]
    rw [List.take_add, List.append_assoc, List.drop_drop]
  | .keep m :: s, l => by simp only [List.cons_append, apRun, apRun_two n more s]
  | .rem m :: s, l => by simp only [List.cons_append, apRun, apRun_two n more s]
  | .ins t :: s, l => by simp only [List.cons_append, apRun, apRun_two n more s]
theorem run_one (z : Int) (rest : List Int) (more : List St) : apRun ([z] ++ rest) (.keep 1 :: more) = [z] ++ apRun rest more := by simp [apRun]
theorem st_keep {n : Int} {t : ByteArray} (h1 : 1 ≤ n) (h2 : n ≤ 1000) (ht : t.size = 0) : stOf ⟨1, n, t⟩ = some (.keep n.toNat) := by
  unfold stOf
  rw [if_pos ⟨h1, h2, ht⟩]
  rfl
theorem Qd.keep {d : List OpD} {a b : List Int} (q : Qd d a b) (hl : a.length + 1 ≤ 1000) (z : Int) : Qd (kpD d) (a ++ [z]) (b ++ [z]) := by
  have one : Qd (d ++ [⟨1, 1, ⟨#[]⟩⟩]) (a ++ [z]) (b ++ [z]) :=
    q.snoc (s := .keep 1) (st_keep (by omega) (by omega) rfl) (by unfold OpD.In; exact Nat.zero_le _) [z] [z] rfl rfl (by simp) (run_one z)
  rcases List.eq_nil_or_concat d with rfl | ⟨d', o, rfl⟩
  · exact one
  · by_cases hk : o.k = 1
    · rw [List.concat_eq_append] at q ⊢
      rw [kpD_keep d' o hk]
      have hm := q.may o (by simp)
      have hi := q.inn o (by simp)
      have hst : stOf o = some (.keep o.n.toNat) ∧ 1 ≤ o.n ∧ o.n ≤ 1000 ∧ o.t.size = 0 := by
        unfold stOf at hm ⊢
        by_cases hc : 1 ≤ o.n ∧ o.n ≤ 1000 ∧ o.t.size = 0
        · rw [if_pos hc, if_pos hk]
          exact ⟨rfl, hc⟩
        · rw [if_neg hc, if_neg (by omega)] at hm
          cases hm
      obtain ⟨h0, h1, h2, h3⟩ := hst
      have hb := q.bs
      rw [stl_snoc d' h0, bsum_append] at hb
      have hb1 : bsum [St.keep o.n.toNat] = o.n.toNat := by simp [bsum, St.b]
      have hn : stOf ⟨1, o.n + 1, o.t⟩ = some (.keep (o.n.toNat + 1)) := by
        rw [st_keep (by omega) (by omega) h3]
        congr 2
        omega
      have ht := q.ts
      rw [stl_snoc d' h0, tsum_append] at ht
      have ht1 : tsum [St.keep o.n.toNat] = o.n.toNat := by simp [tsum, St.c]
      refine ⟨fun x hx => ?_, fun x hx => ?_, ?_, ?_, ?_, fun rest more => ?_⟩
      · rcases List.mem_append.1 hx with h | h
        · exact q.may x (by simp [h])
        · simp only [List.mem_singleton] at h; subst h; rw [hn]; rfl
      · rcases List.mem_append.1 hx with h | h
        · exact q.inn x (by simp [h])
        · simp only [List.mem_singleton] at h; subst h; exact hi
      · have := q.len
        simp only [List.length_append, List.length_singleton] at this ⊢
        omega
      · rw [stl_snoc d' hn, bsum_append, List.length_append, ← hb, hb1]
        simp [bsum, St.b]
        omega
      · rw [stl_snoc d' hn, tsum_append, List.length_append, ← ht, ht1]
        simp [tsum, St.c]
        omega
      · have hr := q.run ([z] ++ rest) (.keep 1 :: more)
        rw [stl_snoc d' h0, run_one] at hr
        rw [stl_snoc d' hn]
        simp only [List.append_assoc, List.singleton_append] at hr ⊢
        rw [apRun_two, hr]
    · rw [List.concat_eq_append] at one ⊢
      rw [kpD_else d' o hk]
      exact one
theorem gap_Q {d : List OpD} {a b : List Int} (q : Qd d a b) {g p : List Atm} (hg : g.length ≤ 1000) (hp : p.length ≤ 1000) (hz : ∀ u ∈ p, szI u.z ≠ 0) : Qd (d ++ dpO g p) (a ++ g.map Atm.z) (b ++ p.map Atm.z) := by
  have q1 : Qd (d ++ (if p = [] then [] else [⟨2, 0, mk (txU p)⟩])) a (b ++ p.map Atm.z) := by
    by_cases h : p = []
    · subst h
      simpa using q
    · rw [if_neg h]
      have hl : 0 < p.length := List.length_pos_iff.2 h
      obtain ⟨c1, c2⟩ := cpl_enc (p := p.map Atm.z) (fun z hz' => by obtain ⟨u, hu, rfl⟩ := List.mem_map.1 hz'; exact hz u hu)
      rw [List.length_map] at c1
      have hs : stOf ⟨2, 0, mk (txU p)⟩ = some (.ins (mk (txU p))) := by
        unfold stOf txU
        rw [if_neg (fun h => absurd h.1 (by show ¬ (1 : Int) ≤ 0; omega)), if_pos ⟨rfl, rfl, by show 0 < cpl (mk (enc (p.map Atm.z))); omega⟩]
      have := q.snoc hs (by have := txU_len p; unfold OpD.In; rw [mk_size]; omega) [] (p.map Atm.z) rfl (by show (cpl (mk (enc (p.map Atm.z)))).toNat = _; rw [c1, List.length_map]; rfl) (by rw [List.length_map]; simp; omega) (fun rest more => by
        show pts (mk (enc (p.map Atm.z))) ++ apRun rest more = _
        rw [c2])
      simpa using this
  unfold dpO
  rw [← List.append_assoc]
  by_cases h : g = []
  · subst h
    simpa using q1
  · rw [if_neg h]
    have hl : 0 < g.length := List.length_pos_iff.2 h
    have hs : stOf ⟨3, (g.length : Int), ⟨#[]⟩⟩ = some (.rem g.length) := by
      unfold stOf
      rw [if_pos ⟨by show 1 ≤ (g.length : Int); omega, by show (g.length : Int) ≤ 1000; omega, rfl⟩]
      rfl
    have := q1.snoc hs (by unfold OpD.In; exact Nat.zero_le _) (g.map Atm.z) [] (by simp [St.b]) rfl (by rw [List.length_map]; simp; omega) (fun rest more => by
      simp only [apRun, List.nil_append]
      rw [List.drop_left' (by simp)])
    simpa using this
/-- What stands behind the first gap. -/
def tlA : List (List Atm) → List Atm → List Atm
  | g :: G, s :: S => s :: (g ++ tlA G S)
  | _, _ => []
theorem ilv_tl : ∀ (G : List (List Atm)) (S : List Atm) (g : List Atm), G.length = S.length → ilv (g :: G) S = g ++ tlA G S
  | [], [], g, _ => by simp [ilv, tlA]
  | [], _ :: _, _, h => by simp at h
  | _ :: _, [], _, h => by simp at h
  | g' :: G, s :: S, g, h => by
    rw [ilv, List.tail_cons, ilv_tl G S g' (by simpa using h), tlA]
    simp
theorem Qd.gaps : ∀ (G P : List (List Atm)) (S : List Atm) (d : List OpD) (a b : List Int), G.length = S.length → P.length = S.length → Qd d a b → a.length + (tlA G S).length ≤ 1000 → b.length + (tlA P S).length ≤ 1000 → (∀ p ∈ P, ∀ u ∈ p, szI u.z ≠ 0) →
    Qd (dpG G P d) (a ++ (tlA G S).map Atm.z) (b ++ (tlA P S).map Atm.z)
  | [], [], [], d, a, b, _, _, q, _, _, _ => by simpa [dpG, tlA] using q
  | [], _ :: _, [], _, _, _, _, h, _, _, _, _ => by simp at h
  | _ :: _, _, [], _, _, _, h, _, _, _, _, _ => by simp at h
  | [], _, _ :: _, _, _, _, h, _, _, _, _, _ => by simp at h
  | _ :: _, [], _ :: _, _, _, _, _, h, _, _, _, _ => by simp at h
  | g :: G, p :: P, s :: S, d, a, b, h1, h2, q, h3, h4, h5 => by
    simp only [tlA, List.length_cons, List.length_append] at h3 h4
    have q1 := q.keep (by omega) s.z
    have q2 := gap_Q q1 (g := g) (p := p) (by omega) (by omega) (h5 p (by simp))
    have q3 := Qd.gaps G P S _ _ _ (by simpa using h1) (by simpa using h2) q2 (by simp only [List.length_append, List.length_singleton, List.length_map]; omega) (by simp only [List.length_append, List.length_singleton, List.length_map]; omega) (fun x hx => h5 x (by simp [hx]))
    rw [dpG, tlA, tlA]
    simpa using q3
theorem lead_Q {X M : List Atm} (nX : (kL X).Nodup) (nM : (kL M).Nodup) (hf : fitD X M = true) (lX : X.length ≤ 1000) (lM : M.length ≤ 1000) (hz : ∀ u ∈ M, szI u.z ≠ 0) : Qd (dpD (gpG (hasK M) [] [] X) (gpG (hasK X) [] [] M)) (X.map Atm.z) (M.map Atm.z) := by
  have hS := fit_eq nX nM hf
  have eX : ilv (gpG (hasK M) [] [] X) (X.filter (hasK M)) = X := by rw [ilv_gp]; rfl
  have eM : ilv (gpG (hasK X) [] [] M) (X.filter (hasK M)) = M := by rw [← hS, ilv_gp]; rfl
  have l1 := gpG_len (hasK M) X [] []
  have l2 := gpG_len (hasK X) M [] []
  rw [hS] at l2
  have hP : ∀ p ∈ gpG (hasK X) [] [] M, ∀ u ∈ p, szI u.z ≠ 0 := fun p hp u hu => by
    have : u ∈ (gpG (hasK X) [] [] M).flatten := List.mem_flatten.2 ⟨p, hp, hu⟩
    rw [gpG_all] at this
    simp only [List.flatten_nil, List.nil_append, List.mem_filter] at this
    exact hz u this.1
  generalize gpG (hasK M) [] [] X = G at *
  generalize gpG (hasK X) [] [] M = P at *
  generalize X.filter (hasK M) = S at *
  match G, P, l1, l2 with
  | [], _, l1, _ => simp at l1; omega
  | _ :: _, [], _, l2 => simp at l2; omega
  | g :: G, p :: P, l1, l2 =>
    simp only [List.length_cons, List.length_nil] at l1 l2
    rw [ilv_tl G S g (by omega)] at eX
    rw [ilv_tl P S p (by omega)] at eM
    have n1 := congrArg List.length eX
    have n2 := congrArg List.length eM
    simp only [List.length_append] at n1 n2
    have q0 := gap_Q Qd.nil (g := g) (p := p) (by omega) (by omega) (hP p (by simp))
    have q := Qd.gaps G P S _ _ _ (by omega) (by omega) q0 (by simp only [List.nil_append, List.length_map]; omega) (by simp only [List.nil_append, List.length_map]; omega) (fun x hx => hP x (by simp [hx]))
    rw [← eX, ← eM]
    simp only [dpD]
    simpa using q
theorem cpl_good {l : List RunD} (hg : Good l) : cpl (mk (txB l)) = ((ats l).length : Int) := by
  have hr : ∀ r ∈ l, r.Ok := fun r hr => (hg.fit r hr).ok
  rw [txt_cpl l hr]
  have := num_ats hr
  unfold num at this
  rw [this]
/-- The delta to a document that fits leads there. -/
theorem leads {x m : List RunD} (gx : Good x) (gm : Good m) (h : ((ats m).filter (hasK (ats x))).Sublist (ats x)) : ddE x m = 0 ∧ (∀ o ∈ ddL x m, o.In) ∧ (ddL x m).length ≤ 3000 ∧ apR (mk (txB x)) (ddL x m) = (mk (txB m), 0) := by
  have kx := good_kl gx
  have km := good_kl gm
  have hf := fit_of kx.1 h
  have hE : ddE x m = 0 := by
    unfold ddE ckL
    rw [hf, if_pos, if_pos rfl]
    have h1 := (good_iff x).2 gx
    have h2 := (good_iff m).2 gm
    simp [h1, h2]
  have hL : ddL x m = dpD (gpG (hasK (ats m)) [] [] (ats x)) (gpG (hasK (ats x)) [] [] (ats m)) := if_pos hE
  have q := lead_Q kx.1 km.1 hf kx.2.2.1 km.2.2.1 km.2.2.2
  rw [← hL] at q
  have k1 := kx.2.2.1
  have k2 := km.2.2.1
  have hlen := q.len
  simp only [List.length_map] at hlen
  have hc : chk (ddL x m) = 0 := by
    unfold chk
    rw [if_neg (by omega), if_neg, if_neg]
    · rw [q.bs, q.ts, List.length_map, List.length_map]; omega
    · intro ha
      rw [List.any_eq_true] at ha
      obtain ⟨o, ho, hn⟩ := ha
      have := q.may o ho
      cases hh : stOf o <;> simp [hh] at this hn
  have hR : stR (ddL x m) = stl (ddL x m) := if_pos hc
  have okx : ∀ r ∈ x, r.Ok := fun r hr => (gx.fit r hr).ok
  have okm : ∀ r ∈ m, r.Ok := fun r hr => (gm.fit r hr).ok
  obtain ⟨p1, p2⟩ := pts_txt x okx
  obtain ⟨m1, m2⟩ := pts_txt m okm
  refine ⟨hE, q.inn, by omega, ?_⟩
  unfold apR
  have hrun := q.run [] []
  rw [List.append_nil, List.append_nil] at hrun
  rw [if_neg (by omega), if_neg (by rw [hc]; simp), if_neg (by rw [hR, q.bs, cpl_good gx, List.length_map]; simp), hR, p2, hrun, ← m2, apRun, List.append_nil]
  exact congrArg (fun x => (x, (0 : Int))) (whole_eq (cpl_valid m1)).1
end Go.Proofs.YtffbkgmagjkogaaDoor
