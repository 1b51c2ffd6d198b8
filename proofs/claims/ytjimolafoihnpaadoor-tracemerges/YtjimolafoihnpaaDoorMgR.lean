/-
  Rows that fit have what both have in one order; a document merged with the one it came of is itself. No walk.
-/
import Derived.Test.YtjimolafoihnpaaDoorMgJ
namespace Go.Proofs.YtjimolafoihnpaaDoor
open Go.ChangeShapes Go.WideShapes Go.ChangeAt Go.RowKit Go.PlainAid

theorem atm_ext {x y : Atm} (h : x.key = y.key) (hz : x.z = y.z) : x = y := by
  obtain ⟨a, b, c, d⟩ := x
  obtain ⟨a', b', c', d'⟩ := y
  simp only [Atm.key, Prod.mk.injEq] at h
  simp only at hz
  rw [h.1, h.2.1, h.2.2, hz]
theorem kL_cons (x : Atm) (l : List Atm) : kL (x :: l) = x.key :: kL l := rfl
theorem plK_get {A : List Atm} (nA : (kL A).Nodup) {k : AtK} {i : Nat} (h : plK A k = some i) : ∃ a, A[i]? = some a ∧ a.key = k := by
  have h1 := (plK_some nA).1 h
  unfold kL at h1
  rw [List.getElem?_map] at h1
  cases ha : A[i]? with
  | none => rw [ha] at h1; cases h1
  | some a => rw [ha] at h1; exact ⟨a, rfl, Option.some.inj h1⟩
theorem hasK_pl {A : List Atm} {x : Atm} : hasK A x = (plK A x.key).isSome := by
  unfold hasK
  cases h : plK A x.key with
  | none => rw [decide_eq_false (plK_none.1 h)]; rfl
  | some i =>
    have : x.key ∈ kL A := by
      apply Classical.byContradiction
      intro hn
      rw [plK_none.2 hn] at h
      cases h
    rw [decide_eq_true this]
    rfl
theorem fit_sub {A : List Atm} (nA : (kL A).Nodup) : ∀ (X : List Atm) (last : Int), (kL X).Nodup → fitG A last X = true → (X.filter (hasK A)).Sublist (A.drop last.toNat)
  | [], _, _, _ => by simp
  | x :: X, last, hn, hf => by
    rw [kL_cons, List.nodup_cons] at hn
    rw [fitG] at hf
    cases hp : plK A x.key with
    | none =>
      rw [hp] at hf
      rw [List.filter_cons, hasK_pl, hp]
      exact fit_sub nA X last hn.2 hf
    | some i =>
      rw [hp] at hf
      simp only at hf
      split at hf
      · cases hf
      · rename_i hc
        have ih := fit_sub nA X (i : Int) hn.2 hf
        obtain ⟨a, ha, hk⟩ := plK_get nA hp
        have hz : a.z = x.z := by
          apply Classical.byContradiction
          intro h
          exact hc (.inr (by rw [ha]; simpa using h))
        have hax : a = x := atm_ext hk hz
        subst hax
        have hi : last ≤ (i : Int) := by
          apply Classical.byContradiction
          intro h
          exact hc (.inl (by omega))
        rw [List.filter_cons, hasK_pl, hp]
        simp only [Option.isSome_some, if_true]
        rw [Int.toNat_natCast] at ih
        have hil := (List.getElem?_eq_some_iff.1 ha).1
        have hai : A[i] = a := (List.getElem?_eq_some_iff.1 ha).2
        rw [List.drop_eq_getElem_cons hil, hai] at ih
        have hno : a ∉ X.filter (hasK A) := fun h => hn.1 (List.mem_map.2 ⟨a, (List.mem_filter.1 h).1, rfl⟩)
        have h2 : (X.filter (hasK A)).Sublist (A.drop (i + 1)) := by
          rcases List.sublist_cons_iff.1 ih with h | ⟨r, e, -⟩
          · exact h
          · exfalso
            exact hno (by rw [e]; simp)
        have h3 : (a :: X.filter (hasK A)).Sublist (A.drop i) := by
          rw [List.drop_eq_getElem_cons hil, hai]
          exact h2.cons_cons a
        refine h3.trans ?_
        have : i = last.toNat + (i - last.toNat) := by omega
        rw [this, ← List.drop_drop]
        exact List.drop_sublist _ _
theorem sub_filter : ∀ {A L : List Atm}, (kL A).Nodup → L.Sublist A → L = A.filter (hasK L)
  | [], L, _, h => by simp at h; subst h; rfl
  | a :: A, L, hn, h => by
    rw [kL_cons, List.nodup_cons] at hn
    have hne : ∀ M : List Atm, M.Sublist A → a.key ∉ kL M := fun M hM hk => by
      obtain ⟨b, hb, e⟩ := List.mem_map.1 hk
      exact hn.1 (by rw [← e]; exact List.mem_map.2 ⟨b, hM.subset hb, rfl⟩)
    rcases List.sublist_cons_iff.1 h with h | ⟨r, e, hr⟩
    · have ih := sub_filter hn.2 h
      have : hasK L a = false := by unfold hasK; exact decide_eq_false (hne L h)
      rw [List.filter_cons, this]
      exact ih
    · subst e
      have ih := sub_filter hn.2 hr
      have : hasK (a :: r) a = true := hasK_self (by simp)
      rw [List.filter_cons, this]
      simp only [if_true]
      congr 1
      conv => lhs; rw [ih]
      apply List.filter_congr
      intro u hu
      have hua : u.key ≠ a.key := fun e => hn.1 (by rw [← e]; exact List.mem_map.2 ⟨u, hu, rfl⟩)
      unfold hasK
      rw [kL_cons]
      simp [hua]
/-- What both have stands alike. -/
theorem fit_eq {A X : List Atm} (nA : (kL A).Nodup) (nX : (kL X).Nodup) (h : fitD A X = true) : X.filter (hasK A) = A.filter (hasK X) := by
  have hs := fit_sub nA X (-1) nX h
  have hs' : (X.filter (hasK A)).Sublist A := by simpa using hs
  conv => lhs; rw [sub_filter nA hs']
  apply List.filter_congr
  intro u hu
  cases hx : hasK X u
  · unfold hasK at hx ⊢
    rw [decide_eq_false_iff_not] at hx ⊢
    intro hk
    obtain ⟨b, hb, e⟩ := List.mem_map.1 hk
    exact hx (by rw [← e]; exact List.mem_map.2 ⟨b, (List.mem_filter.1 hb).1, rfl⟩)
  · obtain ⟨v, hv, e⟩ := hasK_iff.1 hx
    refine hasK_iff.2 ⟨v, List.mem_filter.2 ⟨hv, hasK_iff.2 ⟨u, hu, e.symm⟩⟩, e⟩
theorem fit_eq2 {A X : List Atm} (nA : (kL A).Nodup) (nX : (kL X).Nodup) (h : fitD A X = true) (P : Atm → Bool) (hP : ∀ u v, u.key = v.key → P u = P v) : X.filter (fun u => hasK A u && P u) = A.filter (fun u => hasK X u && P u) := by
  have := congrArg (List.filter P) (fit_eq nA nX h)
  rw [List.filter_filter, List.filter_filter] at this
  rw [show (fun u => hasK A u && P u) = (fun u => P u && hasK A u) from funext fun u => Bool.and_comm _ _, show (fun u => hasK X u && P u) = (fun u => P u && hasK X u) from funext fun u => Bool.and_comm _ _]
  have _ := hP
  exact this
/-- Pieces and what stands between them. -/
def ilv : List (List Atm) → List Atm → List Atm
  | [], _ => []
  | g :: G, S => g ++ (S.head?.toList ++ ilv G S.tail)
theorem ilv_gp (p : Atm → Bool) : ∀ (l : List Atm) (c : List Atm), ilv (gpG p [] c l) (l.filter p) = c ++ l
  | [], c => by simp [gpG, ilv]
  | x :: l, c => by
    rw [gpG]
    by_cases h : p x = true
    · rw [if_pos h, List.filter_cons, if_pos h]
      have hg : ∀ (l : List Atm) (D : List (List Atm)) (c : List Atm), gpG p D c l = D ++ gpG p [] c l := by
        intro l
        induction l with
        | nil => intro D c; simp [gpG]
        | cons y l ih =>
          intro D c
          rw [gpG, gpG]
          split
          · rw [ih (D ++ [c]) [], ih ([] ++ [c]) []]; simp
          · exact ih D (c ++ [y])
      rw [hg l ([] ++ [c]) []]
      simp only [List.nil_append, List.singleton_append, ilv, List.head?_cons, Option.toList_some, List.tail_cons]
      rw [ilv_gp p l []]
      simp
    · rw [if_neg h, List.filter_cons, if_neg h, ilv_gp p l (c ++ [x])]
      simp
theorem gp_all (p : Atm → Bool) : ∀ (l : List Atm) (D : List (List Atm)), (∀ u ∈ l, p u = true) → gpG p D [] l = D ++ List.replicate (l.length + 1) []
  | [], D, _ => by simp [gpG]
  | x :: l, D, h => by
    rw [gpG, if_pos (h x (by simp)), gp_all p l (D ++ [[]]) (fun u hu => h u (by simp [hu]))]
    simp [List.replicate_succ]
theorem mg_left (t : Int) : ∀ (G : List (List Atm)) (S : List Atm), mgG t G (List.replicate G.length []) S = ilv G S
  | [], S => by simp [mgG, ilv]
  | g :: G, S => by
    rw [List.length_cons, List.replicate_succ, mgG, ilv, mg_left t G S.tail]
    congr 1
    unfold prM
    split <;> simp
theorem mg_right (t : Int) : ∀ (G : List (List Atm)) (S : List Atm), mgG t (List.replicate G.length []) G S = ilv G S
  | [], S => by simp [mgG, ilv]
  | g :: G, S => by
    rw [List.length_cons, List.replicate_succ, mgG, ilv, mg_right t G S.tail]
    congr 1
    unfold prM
    split <;> simp
theorem sv_self (A X : List Atm) (u : Atm) : svP A X A u = (hasK A u && hasK X u) := by
  unfold svP
  cases hasK A u <;> cases hasK X u <;> rfl
theorem alone {A X : List Atm} (nA : (kL A).Nodup) (nX : (kL X).Nodup) (h : fitD A X = true) (t : Int) : mgR t A X A = X ∧ mgR t A A X = X := by
  have e1 : X.filter (stP A X A) = X := by
    rw [List.filter_eq_self]
    intro u hu
    unfold stP
    rw [sv_self, hasK_self hu]
    cases hasK A u <;> rfl
  have e2 : ∀ u ∈ A.filter (stP A X A), svP A X A u = true := fun u hu => by
    obtain ⟨h1, h2⟩ := List.mem_filter.1 hu
    unfold stP at h2
    rw [hasK_self h1] at h2
    simpa using h2
  have e3 : A.filter (svP A X A) = X.filter (svP A X A) := by
    have h1 : A.filter (svP A X A) = A.filter (hasK X) := by
      apply List.filter_congr
      intro u hu
      rw [sv_self, hasK_self hu]
      rfl
    have h2 : X.filter (svP A X A) = X.filter (hasK A) := by
      apply List.filter_congr
      intro u hu
      rw [sv_self, hasK_self hu]
      simp
    rw [h1, h2, fit_eq nA nX h]
  have e4 : gpG (svP A X A) [] [] (A.filter (stP A X A)) = List.replicate (gpG (svP A X A) [] [] X).length [] := by
    have hb := gap_bal (X := X) (Y := A) nA nX nA
    rw [gp_all _ _ _ e2] at hb ⊢
    rw [e1] at hb
    simp only [List.nil_append, List.length_replicate] at hb ⊢
    rw [hb]
  have e5 : ilv (gpG (svP A X A) [] [] X) (A.filter (svP A X A)) = X := by rw [e3, ilv_gp _ X []]; rfl
  refine ⟨?_, ?_⟩
  · unfold mgR
    rw [e4, e1, mg_left, e5]
  · unfold mgR
    rw [svP_swap A A X, stP_swap A A X, e4, e1, mg_right, e5]
end Go.Proofs.YtjimolafoihnpaaDoor

/-
  What a merged row holds: each side's order, no atom twice, how many. No walk.
-/
namespace Go.Proofs.YtjimolafoihnpaaDoor
open Go.ChangeShapes Go.WideShapes Go.ChangeAt Go.RowKit Go.PlainAid

theorem fdA_pl (x : Atm) : ∀ (l : List Atm) (i : Nat), fdA x l i = match plK l x.key with | none => -1 | some j => ((i + j : Nat) : Int)
  | [], i => by simp [fdA, plK, kL]
  | y :: l, i => by
    rw [fdA]
    by_cases h : y.same x = true
    · have hk := same_iff.1 h
      rw [if_pos h]
      simp [plK, kL, List.findIdx?_cons, hk]
    · have hk : ¬ y.key = x.key := fun e => h (same_iff.2 e)
      rw [if_neg h, fdA_pl x l (i + 1)]
      unfold plK kL
      rw [List.map_cons, List.findIdx?_cons]
      simp only [hk, decide_false, Bool.false_eq_true, if_false]
      cases (List.map Atm.key l).findIdx? (fun y => decide (y = x.key)) with
      | none => rfl
      | some j => simp only [Option.map_some]; congr 1; omega
theorem fdA_has {x : Atm} {l : List Atm} : 0 ≤ fdA x l 0 ↔ hasK l x = true := by
  rw [fdA_pl, hasK_pl]
  cases plK l x.key with
  | none => simp
  | some j => simp
theorem fdA_not {x : Atm} {l : List Atm} : fdA x l 0 < 0 ↔ hasK l x = false := by
  have := fdA_has (x := x) (l := l)
  cases h : hasK l x
  · rw [h] at this
    simp only [Bool.false_eq_true, iff_false] at this
    exact ⟨fun _ => rfl, fun _ => by omega⟩
  · rw [h] at this
    simp only [iff_true] at this
    exact ⟨fun h => by omega, fun h => by cases h⟩
/-- The last place so far. -/
def lpA (X : List Atm) : Int → List Atm → Int
  | last, [] => last
  | last, u :: l => lpA X (if 0 ≤ fdA u X 0 then fdA u X 0 else last) l
theorem lpA_snoc (X : List Atm) : ∀ (l : List Atm) (last : Int) (u : Atm), lpA X last (l ++ [u]) = if 0 ≤ fdA u X 0 then fdA u X 0 else lpA X last l
  | [], last, u => by simp [lpA]
  | v :: l, last, u => by rw [List.cons_append, lpA, lpA_snoc X l, lpA]
theorem lpA_take {X M : List Atm} {k : Nat} (hk : k < M.length) : lpA X (-1) (M.take (k + 1)) = if 0 ≤ fdA M[k] X 0 then fdA M[k] X 0 else lpA X (-1) (M.take k) := by
  rw [List.take_succ_eq_append_getElem hk, lpA_snoc]
theorem lpA_is (X : List Atm) : ∀ (l : List Atm) (last : Int), lpA X last l = last ∨ ∃ u ∈ l, 0 ≤ fdA u X 0 ∧ lpA X last l = fdA u X 0
  | [], last => .inl rfl
  | v :: l, last => by
    rw [lpA]
    rcases lpA_is X l (if 0 ≤ fdA v X 0 then fdA v X 0 else last) with h | ⟨u, hu, h0, h⟩
    · by_cases hv : 0 ≤ fdA v X 0
      · rw [if_pos hv] at h ⊢
        exact .inr ⟨v, by simp, hv, h⟩
      · rw [if_neg hv] at h ⊢
        exact .inl h
    · exact .inr ⟨u, by simp [hu], h0, h⟩
/-- In the order of X. -/
def Ord (X M : List Atm) : Prop := M.Pairwise fun u v => 0 ≤ fdA u X 0 → 0 ≤ fdA v X 0 → fdA u X 0 < fdA v X 0
theorem lp_lt {X M : List Atm} (h : Ord X M) {k : Nat} (hk : k < M.length) (h0 : 0 ≤ fdA M[k] X 0) : lpA X (-1) (M.take k) < fdA M[k] X 0 := by
  rcases lpA_is X (M.take k) (-1) with e | ⟨u, hu, hu0, e⟩
  · rw [e]; omega
  · rw [e]
    have hM : M = M.take k ++ M[k] :: M.drop (k + 1) := by rw [← List.drop_eq_getElem_cons hk, List.take_append_drop]
    unfold Ord at h
    rw [hM, List.pairwise_append] at h
    exact h.2.2 u hu _ List.mem_cons_self hu0 h0
theorem ord_of {X M : List Atm} (nX : (kL X).Nodup) (h : (M.filter (hasK X)).Sublist X) : Ord X M := by
  have hX : X.Pairwise fun u v => fdA u X 0 < fdA v X 0 := by
    rw [List.pairwise_iff_getElem]
    intro i j hi hj hij
    rw [fdA_nodup X 0 i X[i] (List.getElem?_eq_getElem hi) nX, fdA_nodup X 0 j X[j] (List.getElem?_eq_getElem hj) nX]
    omega
  have hL := hX.sublist h
  rw [List.pairwise_filter] at hL
  exact hL.imp fun hR h1 h2 => hR (fdA_has.1 h1) (fdA_has.1 h2)
theorem mg_fl (t : Int) (q : Atm → Bool) : ∀ (GX GY : List (List Atm)) (S : List Atm), GX.length = GY.length → (∀ u ∈ GX.flatten, q u = true) → (∀ u ∈ GY.flatten, q u = false) → (∀ u ∈ S, q u = true) → (mgG t GX GY S).filter q = ilv GX S
  | [], [], S, _, _, _, _ => by simp [mgG, ilv]
  | [], _ :: _, _, h, _, _, _ => by simp at h
  | _ :: _, [], _, h, _, _, _ => by simp at h
  | g :: GX, h :: GY, S, hl, h1, h2, h3 => by
    have ih := mg_fl t q GX GY S.tail (by simpa using hl) (fun u hu => h1 u (by simp only [List.flatten_cons, List.mem_append]; exact .inr hu)) (fun u hu => h2 u (by simp only [List.flatten_cons, List.mem_append]; exact .inr hu)) (fun u hu => h3 u (List.mem_of_mem_tail hu))
    have e1 : g.filter q = g := List.filter_eq_self.2 fun u hu => h1 u (by simp only [List.flatten_cons, List.mem_append]; exact .inl hu)
    have e2 : h.filter q = [] := List.filter_eq_nil_iff.2 fun u hu => by rw [h2 u (by simp only [List.flatten_cons, List.mem_append]; exact .inl hu)]; simp
    have e3 : S.head?.toList.filter q = S.head?.toList := List.filter_eq_self.2 fun u hu => h3 u (by
      cases S with
      | nil => simp at hu
      | cons a S => simp at hu; subst hu; simp)
    rw [mgG, ilv, List.filter_append, List.filter_append, ih, e3]
    congr 1
    unfold prM
    split <;> rw [List.filter_append, e1, e2] <;> simp
theorem mg_fr (t : Int) (q : Atm → Bool) : ∀ (GX GY : List (List Atm)) (S : List Atm), GX.length = GY.length → (∀ u ∈ GX.flatten, q u = false) → (∀ u ∈ GY.flatten, q u = true) → (∀ u ∈ S, q u = true) → (mgG t GX GY S).filter q = ilv GY S
  | [], [], S, _, _, _, _ => by simp [mgG, ilv]
  | [], _ :: _, _, h, _, _, _ => by simp at h
  | _ :: _, [], _, h, _, _, _ => by simp at h
  | g :: GX, h :: GY, S, hl, h1, h2, h3 => by
    have ih := mg_fr t q GX GY S.tail (by simpa using hl) (fun u hu => h1 u (by simp only [List.flatten_cons, List.mem_append]; exact .inr hu)) (fun u hu => h2 u (by simp only [List.flatten_cons, List.mem_append]; exact .inr hu)) (fun u hu => h3 u (List.mem_of_mem_tail hu))
    have e1 : h.filter q = h := List.filter_eq_self.2 fun u hu => h2 u (by simp only [List.flatten_cons, List.mem_append]; exact .inl hu)
    have e2 : g.filter q = [] := List.filter_eq_nil_iff.2 fun u hu => by rw [h1 u (by simp only [List.flatten_cons, List.mem_append]; exact .inl hu)]; simp
    have e3 : S.head?.toList.filter q = S.head?.toList := List.filter_eq_self.2 fun u hu => h3 u (by
      cases S with
      | nil => simp at hu
      | cons a S => simp at hu; subst hu; simp)
    rw [mgG, ilv, List.filter_append, List.filter_append, ih, e3]
    congr 1
    unfold prM
    split <;> rw [List.filter_append, e1, e2] <;> simp
theorem hasK_key {A : List Atm} {u v : Atm} (h : u.key = v.key) : hasK A u = hasK A v := by unfold hasK; rw [h]
theorem nodup_split (p : Atm → Bool) (hp : ∀ u v : Atm, u.key = v.key → p u = p v) : ∀ M : List Atm, (kL (M.filter p)).Nodup → (kL (M.filter fun u => !p u)).Nodup → (kL M).Nodup
  | [], _, _ => by simp [kL]
  | u :: M, h1, h2 => by
    rw [List.filter_cons] at h1 h2
    rw [kL_cons, List.nodup_cons]
    by_cases h : p u = true
    · rw [if_pos h, kL_cons, List.nodup_cons] at h1
      rw [if_neg (by simp [h])] at h2
      refine ⟨fun hm => ?_, nodup_split p hp M h1.2 h2⟩
      obtain ⟨v, hv, e⟩ := List.mem_map.1 hm
      exact h1.1 (by rw [← e]; exact List.mem_map.2 ⟨v, List.mem_filter.2 ⟨hv, by rw [hp v u e]; exact h⟩, rfl⟩)
    · rw [if_neg h] at h1
      rw [if_pos (by simpa using h), kL_cons, List.nodup_cons] at h2
      refine ⟨fun hm => ?_, nodup_split p hp M h1 h2.2⟩
      obtain ⟨v, hv, e⟩ := List.mem_map.1 hm
      exact h2.1 (by rw [← e]; exact List.mem_map.2 ⟨v, List.mem_filter.2 ⟨hv, by rw [hp v u e]; simpa using h⟩, rfl⟩)
theorem length_parts (p : Atm → Bool) : ∀ M : List Atm, M.length = (M.filter p).length + (M.filter fun u => !p u).length
  | [] => rfl
  | u :: M => by
    have ih := length_parts p M
    rw [List.filter_cons, List.filter_cons]
    cases p u <;> simp only [Bool.not_false, Bool.not_true, Bool.false_eq_true, if_true, if_false, List.length_cons] <;> omega
theorem kl_sub {L M : List Atm} (h : L.Sublist M) (hn : (kL M).Nodup) : (kL L).Nodup := (h.map Atm.key).nodup hn
/-- What a merged row holds. -/
structure Mgd (A X Y M : List Atm) : Prop where
  fx : M.filter (hasK X) = X.filter (stP A X Y)
  fy : M.filter (hasK Y) = Y.filter (stP A X Y)
  all : ∀ u ∈ M, (hasK A u = true ∧ hasK X u = true ∧ hasK Y u = true) ∨ (hasK A u = false ∧ hasK X u = true ∧ hasK Y u = false) ∨ (hasK A u = false ∧ hasK X u = false ∧ hasK Y u = true)
  one : (kL M).Nodup
  len : M.length = (X.filter (stP A X Y)).length + (Y.filter fun u => !hasK A u).length
theorem mgd {A X Y : List Atm} (nA : (kL A).Nodup) (nX : (kL X).Nodup) (nY : (kL Y).Nodup) (h : mdB A X Y = true) (t : Int) : Mgd A X Y (mgR t A X Y) := by
  unfold mdB at h
  simp only [Bool.and_eq_true, Bool.not_eq_true'] at h
  obtain ⟨⟨hx, hy⟩, hap⟩ := h
  have ap : ∀ v ∈ Y, hasK A v = false → hasK X v = false := fun v hv ha => by
    cases hh : hasK X v
    · rfl
    · rw [List.any_eq_false] at hap
      exact absurd (by rw [hh, ha]; rfl) (hap v hv)
  have ap' : ∀ u ∈ X, hasK A u = false → hasK Y u = false := fun u hu ha => by
    cases hh : hasK Y u
    · rfl
    · obtain ⟨v, hv, e⟩ := hasK_iff.1 hh
      have h1 := ap v hv (by rw [hasK_key e]; exact ha)
      rw [hasK_key e, hasK_self hu] at h1
      cases h1
  have gx : ∀ u ∈ (gpG (svP A X Y) [] [] (X.filter (stP A X Y))).flatten, u ∈ X ∧ hasK A u = false := fun u hu => by
    rw [gpG_all] at hu
    simp only [List.flatten_nil, List.nil_append, List.mem_filter] at hu
    obtain ⟨⟨h1, h2⟩, h3⟩ := hu
    refine ⟨h1, ?_⟩
    unfold stP at h2
    cases hs : svP A X Y u
    · rw [hs] at h2; simpa using h2
    · rw [hs] at h3; cases h3
  have gy : ∀ u ∈ (gpG (svP A X Y) [] [] (Y.filter (stP A X Y))).flatten, u ∈ Y ∧ hasK A u = false := fun u hu => by
    rw [gpG_all] at hu
    simp only [List.flatten_nil, List.nil_append, List.mem_filter] at hu
    obtain ⟨⟨h1, h2⟩, h3⟩ := hu
    refine ⟨h1, ?_⟩
    unfold stP at h2
    cases hs : svP A X Y u
    · rw [hs] at h2; simpa using h2
    · rw [hs] at h3; cases h3
  have gs : ∀ u ∈ A.filter (svP A X Y), hasK A u = true ∧ hasK X u = true ∧ hasK Y u = true := fun u hu => by
    have := (List.mem_filter.1 hu).2
    unfold svP at this
    simp only [Bool.and_eq_true] at this
    exact ⟨this.1.1, this.1.2, this.2⟩
  have hall : ∀ u ∈ mgR t A X Y, (hasK A u = true ∧ hasK X u = true ∧ hasK Y u = true) ∨ (hasK A u = false ∧ hasK X u = true ∧ hasK Y u = false) ∨ (hasK A u = false ∧ hasK X u = false ∧ hasK Y u = true) := fun u hu => by
    rcases mgG_mem t _ _ _ u hu with h | h | h
    · obtain ⟨h1, h2⟩ := gx u h
      exact .inr (.inl ⟨h2, hasK_self h1, ap' u h1 h2⟩)
    · obtain ⟨h1, h2⟩ := gy u h
      exact .inr (.inr ⟨h2, ap u h1 h2, hasK_self h1⟩)
    · exact .inl (gs u h)
  have ex : (X.filter (stP A X Y)).filter (svP A X Y) = A.filter (svP A X Y) := by
    have := congrArg (List.filter (hasK Y)) (fit_eq nA nX hx)
    rw [List.filter_filter] at this
    rw [List.filter_filter] at this ⊢
    rw [List.filter_congr (q := fun u => hasK Y u && hasK A u), this]
    · apply List.filter_congr
      intro u hu
      unfold svP
      rw [hasK_self hu]
      cases hasK X u <;> cases hasK Y u <;> rfl
    · intro u hu
      unfold stP svP
      rw [hasK_self hu]
      cases hasK A u <;> cases hasK Y u <;> rfl
  have ey : (Y.filter (stP A X Y)).filter (svP A X Y) = A.filter (svP A X Y) := by
    have := congrArg (List.filter (hasK X)) (fit_eq nA nY hy)
    rw [List.filter_filter] at this
    rw [List.filter_filter] at this ⊢
    rw [List.filter_congr (q := fun u => hasK X u && hasK A u), this]
    · apply List.filter_congr
      intro u hu
      unfold svP
      rw [hasK_self hu]
      cases hasK X u <;> cases hasK Y u <;> rfl
    · intro u hu
      unfold stP svP
      rw [hasK_self hu]
      cases hasK A u <;> cases hasK X u <;> rfl
  have fx : (mgR t A X Y).filter (hasK X) = X.filter (stP A X Y) := by
    unfold mgR
    rw [mg_fl t (hasK X) _ _ _ (gap_bal nA nX nY) (fun u hu => hasK_self (gx u hu).1) (fun u hu => ap u (gy u hu).1 (gy u hu).2) (fun u hu => (gs u hu).2.1), ← ex, ilv_gp]
    rfl
  have fy : (mgR t A X Y).filter (hasK Y) = Y.filter (stP A X Y) := by
    unfold mgR
    rw [mg_fr t (hasK Y) _ _ _ (gap_bal nA nX nY) (fun u hu => ap' u (gx u hu).1 (gx u hu).2) (fun u hu => hasK_self (gy u hu).1) (fun u hu => (gs u hu).2.2), ← ey, ilv_gp]
    rfl
  have fz : (mgR t A X Y).filter (fun u => !hasK X u) = Y.filter (fun u => !hasK A u) := by
    have h1 : (mgR t A X Y).filter (fun u => !hasK X u) = ((mgR t A X Y).filter (hasK Y)).filter (fun u => !hasK X u) := by
      rw [List.filter_filter]
      apply List.filter_congr
      intro u hu
      rcases hall u hu with ⟨-, h2, h3⟩ | ⟨-, h2, h3⟩ | ⟨-, h2, h3⟩ <;> rw [h2, h3] <;> rfl
    rw [h1, fy, List.filter_filter]
    apply List.filter_congr
    intro u hu
    unfold stP svP
    rw [hasK_self hu]
    cases ha : hasK A u
    · rw [ap u hu ha]; rfl
    · cases hasK X u <;> rfl
  refine ⟨fx, fy, hall, nodup_split (hasK X) (fun u v e => hasK_key e) _ ?_ ?_, ?_⟩
  · rw [fx]; exact kl_sub List.filter_sublist nX
  · rw [fz]; exact kl_sub List.filter_sublist nY
  · rw [← fx, ← fz]
    exact length_parts _ _
theorem md_facts {b x y : List RunD} {nx ny : Int} (h : mdE b x y nx ny = 0) : Good b ∧ Good x ∧ Good y ∧ Good (mdL b x y nx ny) ∧ Mgd (ats b) (ats x) (ats y) (ats (mdL b x y nx ny)) := by
  obtain ⟨hck, hB, hn⟩ : ckL [b, x, y] = 0 ∧ mdB (ats b) (ats x) (ats y) = true ∧ (mgR (cmpI nx ny) (ats b) (ats x) (ats y)).length ≤ 1000 := by
    unfold mdE at h
    split at h
    · rename_i h1
      split at h
      · rename_i h2
        split at h
        · rename_i h3
          exact ⟨h1, h2, h3⟩
        · cases h
      · cases h
    · cases h
  have gb := ckL_good hck b (by simp)
  have gx := ckL_good hck x (by simp)
  have gy := ckL_good hck y (by simp)
  have kb := good_kl gb
  have kx := good_kl gx
  have ky := good_kl gy
  have hm := mgd kb.1 kx.1 ky.1 hB (cmpI nx ny)
  have hz : ∀ u ∈ mgR (cmpI nx ny) (ats b) (ats x) (ats y), szI u.z ≠ 0 := fun u hu => by
    rcases mgR_mem hu with g | g | g
    · exact kx.2.2.2 u g
    · exact ky.2.2.2 u g
    · exact kb.2.2.2 u g
  have hy : ∀ u ∈ mgR (cmpI nx ny) (ats b) (ats x) (ats y), u.May := fun u hu => by
    rcases mgR_mem hu with g | g | g
    · exact kx.2.1 u g
    · exact ky.2.1 u g
    · exact kb.2.1 u g
  obtain ⟨hc, ha⟩ := rnA_can hz
  have hL : mdL b x y nx ny = rnA (mgR (cmpI nx ny) (ats b) (ats x) (ats y)) := if_pos h
  refine ⟨gb, gx, gy, ?_, ?_⟩
  · rw [hL, good_ats, ha]
    exact ⟨hc, hy, hm.one, hn⟩
  · rw [hL, ha]
    exact hm
theorem atoms_good (v : Value) (l : List RunD) (w : World) (hr : RdN w v l) (hg : Good l) :
    Calls Tryd.prog 56 #[v] w fun e w' => ∃ u, e = .returned u ∧ w'.ownsRow w.heap.size 80 4 u (ats l).length (acs (ats l)) ∧ Below w.heap.size w w' := by
  have hbd := hg.bound
  have hk := (good_kl hg).2.2.1
  exact atoms_any v l w hr (fun r hr => (hg.fit r hr).ok) (fun r hr => Nat.le_trans (txB_mem hr) (by omega)) (fun r hr => by obtain ⟨-, m2, m3, m4⟩ := mayR_iff.1 (hg.may r hr); omega) (by omega) (by omega)
theorem cnt_take {X : List Atm} (p : Atm → Bool) {k : Nat} (hk : k < X.length) : ((X.take (k + 1)).filter p).length = ((X.take k).filter p).length + if p X[k] = true then 1 else 0 := by
  rw [List.take_succ_eq_append_getElem hk, List.filter_append, List.length_append, List.filter_cons, List.filter_nil]
  congr 1
  split <;> rfl
end Go.Proofs.YtjimolafoihnpaaDoor
