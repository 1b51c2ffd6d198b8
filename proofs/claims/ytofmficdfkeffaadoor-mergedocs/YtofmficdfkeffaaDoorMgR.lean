/-
  Rows that fit have what both have in one order; a document merged with the one it came of is itself. No walk.
-/
import Derived.Test.YtofmficdfkeffaaDoorMgP
namespace Go.Proofs.YtofmficdfkeffaaDoor
open Go.ChangeShapes Go.WideShapes Go.ChangeAt Go.RowKit Go.PlainAid

theorem atm_ext {x y : Atm} (h : x.key = y.key) (hz : x.z = y.z) : x = y := by
  obtain ⟨a, b, c, d⟩ := x
  obtain ⟨a', b', c', d'⟩ := y
  simp only [Atm.key, Prod.mk.injEq] at h
  simp only at hz
  rw [h.1, h.2.1, h.2.2, hz]
theorem kL_cons (x : Atm) (l : List Atm) : kL (x :: l) = x.key :: kL l := rfl
theorem plK_get {A : List Atm} (nA : (kL A).Nodup) {k : AtK} {i : Nat} (h : plK A k = some i) : ∃ a, A[i]? = some a ∧ a.key = k := by
  have h1 := (plK_some nA).1 h
  unfold kL at h1
  rw [List.getElem?_map] at h1
  cases ha : A[i]? with
  | none => rw [ha] at h1; cases h1
  | some a => rw [ha] at h1; exact ⟨a, rfl, Option.some.inj h1⟩
theorem hasK_pl {A : List Atm} {x : Atm} : hasK A x = (plK A x.key).isSome := by
  unfold hasK
  cases h : plK A x.key with
  | none => rw [decide_eq_false (plK_none.1 h)]; rfl
  | some i =>
    have : x.key ∈ kL A := by
      apply Classical.byContradiction
      intro hn
      rw [plK_none.2 hn] at h
      cases h
    rw [decide_eq_true this]
    rfl
theorem fit_sub {A : List Atm} (nA : (kL A).Nodup) : ∀ (X : List Atm) (last : Int), (kL X).Nodup → fitG A last X = true → (X.filter (hasK A)).Sublist (A.drop last.toNat)
  | [], _, _, _ => by simp
  | x :: X, last, hn, hf => by
    rw [kL_cons, List.nodup_cons] at hn
    rw [fitG] at hf
    cases hp : plK A x.key with
    | none =>
      rw [hp] at hf
      rw [List.filter_cons, hasK_pl, hp]
      exact fit_sub nA X last hn.2 hf
    | some i =>
      rw [hp] at hf
      simp only at hf
      split at hf
      · cases hf
      · rename_i hc
        have ih := fit_sub nA X (i : Int) hn.2 hf
        obtain ⟨a, ha, hk⟩ := plK_get nA hp
        have hz : a.z = x.z := by
          apply Classical.byContradiction
          intro h
          exact hc (.inr (by rw [ha]; simpa using h))
        have hax : a = x := atm_ext hk hz
        subst hax
        have hi : last ≤ (i : Int) := by
          apply Classical.byContradiction
          intro h
          exact hc (.inl (by omega))
        rw [List.filter_cons, hasK_pl, hp]
        simp only [Option.isSome_some, if_true]
        rw [Int.toNat_natCast] at ih
        have hil := (List.getElem?_eq_some_iff.1 ha).1
        have hai : A[i] = a := (List.getElem?_eq_some_iff.1 ha).2
        rw [List.drop_eq_getElem_cons hil, hai] at ih
        have hno : a ∉ X.filter (hasK A) := fun h => hn.1 (List.mem_map.2 ⟨a, (List.mem_filter.1 h).1, rfl⟩)
        have h2 : (X.filter (hasK A)).Sublist (A.drop (i + 1)) := by
          rcases List.sublist_cons_iff.1 ih with h | ⟨r, e, -⟩
          · exact h
          · exfalso
            exact hno (by rw [e]; simp)
        have h3 : (a :: X.filter (hasK A)).Sublist (A.drop i) := by
          rw [List.drop_eq_getElem_cons hil, hai]
          exact h2.cons_cons a
        refine h3.trans ?_
        have : i = last.toNat + (i - last.toNat) := by omega
        rw [this, ← List.drop_drop]
        exact List.drop_sublist _ _
theorem sub_filter : ∀ {A L : List Atm}, (kL A).Nodup → L.Sublist A → L = A.filter (hasK L)
  | [], L, _, h => by simp at h; subst h; rfl
  | a :: A, L, hn, h => by
    rw [kL_cons, List.nodup_cons] at hn
    have hne : ∀ M : List Atm, M.Sublist A → a.key ∉ kL M := fun M hM hk => by
      obtain ⟨b, hb, e⟩ := List.mem_map.1 hk
      exact hn.1 (by rw [← e]; exact List.mem_map.2 ⟨b, hM.subset hb, rfl⟩)
    rcases List.sublist_cons_iff.1 h with h | ⟨r, e, hr⟩
    · have ih := sub_filter hn.2 h
      have : hasK L a = false := by unfold hasK; exact decide_eq_false (hne L h)
      rw [List.filter_cons, this]
      exact ih
    · subst e
      have ih := sub_filter hn.2 hr
      have : hasK (a :: r) a = true := hasK_self (by simp)
      rw [List.filter_cons, this]
      simp only [if_true]
      congr 1
      conv => lhs; rw [ih]
      apply List.filter_congr
      intro u hu
      have hua : u.key ≠ a.key := fun e => hn.1 (by rw [← e]; exact List.mem_map.2 ⟨u, hu, rfl⟩)
      unfold hasK
      rw [kL_cons]
      simp [hua]
/-- What both have stands alike. -/
theorem fit_eq {A X : List Atm} (nA : (kL A).Nodup) (nX : (kL X).Nodup) (h : fitD A X = true) : X.filter (hasK A) = A.filter (hasK X) := by
  have hs := fit_sub nA X (-1) nX h
  have hs' : (X.filter (hasK A)).Sublist A := by simpa using hs
  conv => lhs; rw [sub_filter nA hs']
  apply List.filter_congr
  intro u hu
  cases hx : hasK X u
  · unfold hasK at hx ⊢
    rw [decide_eq_false_iff_not] at hx ⊢
    intro hk
    obtain ⟨b, hb, e⟩ := List.mem_map.1 hk
    exact hx (by rw [← e]; exact List.mem_map.2 ⟨b, (List.mem_filter.1 hb).1, rfl⟩)
  · obtain ⟨v, hv, e⟩ := hasK_iff.1 hx
    refine hasK_iff.2 ⟨v, List.mem_filter.2 ⟨hv, hasK_iff.2 ⟨u, hu, e.symm⟩⟩, e⟩
theorem fit_eq2 {A X : List Atm} (nA : (kL A).Nodup) (nX : (kL X).Nodup) (h : fitD A X = true) (P : Atm → Bool) (hP : ∀ u v, u.key = v.key → P u = P v) : X.filter (fun u => hasK A u && P u) = A.filter (fun u => hasK X u && P u) := by
  have := congrArg (List.filter P) (fit_eq nA nX h)
  rw [List.filter_filter, List.filter_filter] at this
  rw [show (fun u => hasK A u && P u) = (fun u => P u && hasK A u) from funext fun u => Bool.and_comm _ _, show (fun u => hasK X u && P u) = (fun u => P u && hasK X u) from funext fun u => Bool.and_comm _ _]
  have _ := hP
  exact this
/-- Pieces and what stands between them. -/
def ilv : List (List Atm) → List Atm → List Atm
  | [], _ => []
  | g :: G, S => g ++ (S.head?.toList ++ ilv G S.tail)
theorem ilv_gp (p : Atm → Bool) : ∀ (l : List Atm) (c : List Atm), ilv (gpG p [] c l) (l.filter p) = c ++ l
  | [], c => by simp [gpG, ilv]
  | x :: l, c => by
    rw [gpG]
    by_cases h : p x = true
    · rw [if_pos h, List.filter_cons, if_pos h]
      have hg : ∀ (l : List Atm) (D : List (List Atm)) (c : List Atm), gpG p D c l = D ++ gpG p [] c l := by
        intro l
        induction l with
        | nil => intro D c; simp [gpG]
        | cons y l ih =>
          intro D c
          rw [gpG, gpG]
          split
          · rw [ih (D ++ [c]) [], ih ([] ++ [c]) []]; simp
          · exact ih D (c ++ [y])
      rw [hg l ([] ++ [c]) []]
      simp only [List.nil_append, List.singleton_append, ilv, List.head?_cons, Option.toList_some, List.tail_cons]
      rw [ilv_gp p l []]
      simp
    · rw [if_neg h, List.filter_cons, if_neg h, ilv_gp p l (c ++ [x])]
      simp
theorem gp_all (p : Atm → Bool) : ∀ (l : List Atm) (D : List (List Atm)), (∀ u ∈ l, p u = true) → gpG p D [] l = D ++ List.replicate (l.length + 1) []
  | [], D, _ => by simp [gpG]
  | x :: l, D, h => by
    rw [gpG, if_pos (h x (by simp)), gp_all p l (D ++ [[]]) (fun u hu => h u (by simp [hu]))]
    simp [List.replicate_succ]
theorem mg_left (t : Int) : ∀ (G : List (List Atm)) (S : List Atm), mgG t G (List.replicate G.length []) S = ilv G S
  | [], S => by simp [mgG, ilv]
  | g :: G, S => by
    rw [List.length_cons, List.replicate_succ, mgG, ilv, mg_left t G S.tail]
    congr 1
    unfold prM
    split <;> simp
theorem mg_right (t : Int) : ∀ (G : List (List Atm)) (S : List Atm), mgG t (List.replicate G.length []) G S = ilv G S
  | [], S => by simp [mgG, ilv]
  | g :: G, S => by
    rw [List.length_cons, List.replicate_succ, mgG, ilv, mg_right t G S.tail]
    congr 1
    unfold prM
    split <;> simp
theorem sv_self (A X : List Atm) (u : Atm) : svP A X A u = (hasK A u && hasK X u) := by
  unfold svP
  cases hasK A u <;> cases hasK X u <;> rfl
theorem alone {A X : List Atm} (nA : (kL A).Nodup) (nX : (kL X).Nodup) (h : fitD A X = true) (t : Int) : mgR t A X A = X ∧ mgR t A A X = X := by
  have e1 : X.filter (stP A X A) = X := by
    rw [List.filter_eq_self]
    intro u hu
    unfold stP
    rw [sv_self, hasK_self hu]
    cases hasK A u <;> rfl
  have e2 : ∀ u ∈ A.filter (stP A X A), svP A X A u = true := fun u hu => by
    obtain ⟨h1, h2⟩ := List.mem_filter.1 hu
    unfold stP at h2
    rw [hasK_self h1] at h2
    simpa using h2
  have e3 : A.filter (svP A X A) = X.filter (svP A X A) := by
    have h1 : A.filter (svP A X A) = A.filter (hasK X) := by
      apply List.filter_congr
      intro u hu
      rw [sv_self, hasK_self hu]
      rfl
    have h2 : X.filter (svP A X A) = X.filter (hasK A) := by
      apply List.filter_congr
      intro u hu
      rw [sv_self, hasK_self hu]
      simp
    rw [h1, h2, fit_eq nA nX h]
  have e4 : gpG (svP A X A) [] [] (A.filter (stP A X A)) = List.replicate (gpG (svP A X A) [] [] X).length [] := by
    have hb := gap_bal (X := X) (Y := A) nA nX nA
    rw [gp_all _ _ _ e2] at hb ⊢
    rw [e1] at hb
    simp only [List.nil_append, List.length_replicate] at hb ⊢
    rw [hb]
  have e5 : ilv (gpG (svP A X A) [] [] X) (A.filter (svP A X A)) = X := by rw [e3, ilv_gp _ X []]; rfl
  refine ⟨?_, ?_⟩
  · unfold mgR
    rw [e4, e1, mg_left, e5]
  · unfold mgR
    rw [svP_swap A A X, stP_swap A A X, e4, e1, mg_right, e5]
theorem mdE_turn (b x y : List RunD) (nx ny mx my : Int) : mdE b x y nx ny = mdE b x y mx my := by
  unfold mdE
  rw [← mgR_slen (cmpI nx ny) (cmpI nx ny) (ats b) (ats x) (ats y), mgR_slen (cmpI nx ny) (cmpI mx my)]
theorem alone_E (b x : List RunD) (nx ny : Int) : mdE b b x nx ny = mdE b x b nx ny := by rw [mdE_swap b x b ny nx, mdE_turn]
theorem alone_L {b x : List RunD} {nx ny : Int} (h : mdE b x b nx ny = 0) : mdL b x b nx ny = x ∧ mdL b b x nx ny = x := by
  have h2 : mdE b b x nx ny = 0 := by rw [alone_E]; exact h
  have hck : ckL [b, x, b] = 0 ∧ mdB (ats b) (ats x) (ats b) = true := by
    unfold mdE at h
    split at h
    · rename_i h1
      split at h
      · rename_i h3
        exact ⟨h1, h3⟩
      · cases h
    · cases h
  have gb := ckL_good hck.1 b (by simp)
  have gx := ckL_good hck.1 x (by simp)
  have hf : fitD (ats b) (ats x) = true := by
    have := hck.2
    unfold mdB at this
    simp only [Bool.and_eq_true] at this
    exact this.1.1
  have ha := alone (good_kl gb).1 (good_kl gx).1 hf (cmpI nx ny)
  refine ⟨?_, ?_⟩
  · unfold mdL
    rw [if_pos h, ha.1]
    exact rnA_of (good_ats.1 gx).1
  · unfold mdL
    rw [if_pos h2, ha.2]
    exact rnA_of (good_ats.1 gx).1
end Go.Proofs.YtofmficdfkeffaaDoor
