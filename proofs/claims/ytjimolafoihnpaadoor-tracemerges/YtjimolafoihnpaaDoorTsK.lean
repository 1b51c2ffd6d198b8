/-
  Documents that may be, and what agrees with them: what is merged, what comes of edits. No walk.
-/
import Derived.Test.YtjimolafoihnpaaDoorTsH
import Derived.Test.YtjimolafoihnpaaDoorMgJ
import Derived.Test.YtjimolafoihnpaaDoorDqG
namespace Go.Proofs.YtjimolafoihnpaaDoor.tc
open Go.Maps Go.ChangeShapes Go.WideShapes Go.ChangeAt Go.RowKit Go.PlainAid

theorem aT_good {l : List RunD} (h : Good l) : aT l = ats l := by
  have : l.map atR = l.map RunD.ats := List.map_congr_left fun r hr => by
    have hm := (mayR_iff.1 (h.may r hr)).2
    have hf := h.fit r hr
    rw [atR, if_pos]
    simp only [fOk, Bool.and_eq_true, decide_eq_true_eq]
    have := hf.f0
    have := hf.fk
    unfold RunD.k at *
    omega
  rw [aT, ats, this]
theorem good_row {l : List RunD} (h : Good l) : l.length ≤ 1048576 ∧ ∀ r ∈ l, r.t.size ≤ 1048576 ∧ InI r.c ∧ InI r.q := by
  obtain ⟨h1, h2⟩ := h.bound
  refine ⟨by omega, fun r hr => ?_⟩
  have h3 := txB_mem hr
  have h4 := orM_iff.1 (mayR_iff.1 (h.may r hr)).1
  unfold InI
  omega
theorem good_sum : ∀ {L : List (List RunD)}, (∀ l ∈ L, Good l) → (aTs L).length ≤ 1000 * L.length
  | [], _ => by simp [aTs]
  | l :: L, h => by
    have ih := good_sum (L := L) fun x hx => h x (by simp [hx])
    have hg := h l (by simp)
    have h1 := (good_kl hg).2.2.1
    rw [← aT_good hg] at h1
    have e : aTs (l :: L) = aT l ++ aTs L := by simp [aTs]
    rw [e, List.length_append, List.length_cons]
    omega
/-- Atoms that one has of another, in its order. -/
theorem ag_third {M X A : List Atm} (hX : (M.filter (hasK X)).Sublist X) (hA : ∀ u ∈ M, hasK A u = true → hasK X u = true) (hag : AgL X A) : AgL M A := by
  have key : ∀ k1 k2 : AtK, [k1, k2].Sublist (M.map Atm.key) → k1 ∈ kL X → k2 ∈ kL X → [k1, k2].Sublist (X.map Atm.key) := by
    intro k1 k2 h h1 h2
    have e := h.filter (fun k => decide (k ∈ kL X))
    have e2 : [k1, k2].filter (fun k => decide (k ∈ kL X)) = [k1, k2] := by simp [h1, h2]
    rw [e2, List.filter_map] at e
    exact e.trans ((hX.map Atm.key))
  constructor
  · intro x hx y hy e
    have h1 : hasK A x = true := hasK_iff.2 ⟨y, hy, e.symm⟩
    have h2 := hA x hx h1
    exact hag.1 x (hX.subset (List.mem_filter.2 ⟨hx, h2⟩)) y hy e
  · intro k1 k2 hne h hn
    have hin : ∀ k, k ∈ [k1, k2] → k ∈ kL X := by
      intro k hk
      obtain ⟨u, hu, rfl⟩ := List.mem_map.1 (h.subset hk)
      have hk2 : u.key ∈ A.map Atm.key := by
        refine hn.subset ?_
        simp only [List.mem_cons, List.not_mem_nil, or_false] at hk ⊢
        exact hk.symm
      obtain ⟨y, hy, e⟩ := List.mem_map.1 hk2
      have := hA u hu (hasK_iff.2 ⟨y, hy, e⟩)
      obtain ⟨z, hz, e2⟩ := hasK_iff.1 this
      exact List.mem_map.2 ⟨z, hz, e2⟩
    exact hag.2 k1 k2 hne (key k1 k2 h (hin k1 (by simp)) (hin k2 (by simp))) hn
/-! ### An order with one document more -/
theorem sub_behind {α : Type} {x : α} : ∀ {s1 s2 L : List α}, x ∉ s1 → (x :: L).Sublist (s1 ++ x :: s2) → L.Sublist s2
  | [], s2, L, _, h => by
    rw [List.nil_append] at h
    exact List.cons_sublist_cons.1 h
  | y :: s1, s2, L, hx, h => by
    rw [List.cons_append] at h
    rcases List.sublist_cons_iff.1 h with h | ⟨r, e, -⟩
    · exact sub_behind (fun g => hx (by simp [g])) h
    · injection e with e
      exact absurd (by simp [e]) hx
theorem weave {α : Type} [DecidableEq α] : ∀ (b s : List α), s.Nodup → b.Nodup → (b.filter fun x => decide (x ∈ s)).Sublist s → ∃ t : List α, t.Nodup ∧ s.Sublist t ∧ b.Sublist t ∧ ∀ x ∈ t, x ∈ s ∨ x ∈ b
  | [], s, hs, _, _ => ⟨s, hs, List.Sublist.refl _, List.nil_sublist _, fun x hx => .inl hx⟩
  | x :: b, s, hs, hb, h => by
    obtain ⟨hxb, hb'⟩ := List.nodup_cons.1 hb
    by_cases hx : x ∈ s
    · obtain ⟨s1, s2, rfl⟩ := List.append_of_mem hx
      obtain ⟨n1, n2, n3⟩ := List.nodup_append.1 hs
      obtain ⟨n4, n5⟩ := List.nodup_cons.1 n2
      have hx1 : x ∉ s1 := fun g => n3 x g x (by simp) rfl
      rw [List.filter_cons, if_pos (by simp)] at h
      have h2 := sub_behind hx1 h
      have hf : (b.filter fun y => decide (y ∈ s1 ++ x :: s2)) = b.filter fun y => decide (y ∈ s2) := by
        apply List.filter_congr
        intro y hy
        by_cases g : y ∈ s1 ++ x :: s2
        · have := h2.subset (List.mem_filter.2 ⟨hy, by simpa using g⟩)
          simp [this]
        · have : y ∉ s2 := fun g2 => g (by simp [g2])
          simp only [g, this]
      rw [hf] at h2
      obtain ⟨t, t1, t2, t3, t4⟩ := weave b s2 n5 hb' h2
      have d1 : ∀ y ∈ s1, y ∉ x :: t := fun y hy g => by
        rcases List.mem_cons.1 g with rfl | g
        · exact hx1 hy
        · rcases t4 y g with g | g
          · exact n3 y hy y (by simp [g]) rfl
          · have := (hf ▸ List.mem_filter.2 ⟨g, by simp [hy]⟩ : y ∈ b.filter fun y => decide (y ∈ s2))
            have g2 := (List.mem_filter.1 this).2
            exact n3 y hy y (by simp at g2; simp [g2]) rfl
      refine ⟨s1 ++ x :: t, List.nodup_append.2 ⟨n1, List.nodup_cons.2 ⟨fun g => ?_, t1⟩, fun y hy z hz e => d1 y hy (e ▸ hz)⟩, (List.Sublist.refl s1).append (t2.cons_cons x), (t3.cons_cons x).trans (List.sublist_append_right _ _), fun y hy => ?_⟩
      · rcases t4 x g with g | g
        · exact n4 g
        · exact hxb g
      · rcases List.mem_append.1 hy with g | g
        · exact .inl (by simp [g])
        · rcases List.mem_cons.1 g with rfl | g
          · exact .inl (by simp)
          · rcases t4 y g with g | g
            · exact .inl (by simp [g])
            · exact .inr (by simp [g])
    · rw [List.filter_cons, if_neg (by simpa using hx)] at h
      obtain ⟨t, t1, t2, t3, t4⟩ := weave b s hs hb' h
      refine ⟨x :: t, List.nodup_cons.2 ⟨fun g => ?_, t1⟩, t2.cons x, t3.cons_cons x, fun y hy => ?_⟩
      · rcases t4 x g with g | g
        · exact hx g
        · exact hxb g
      · rcases List.mem_cons.1 hy with rfl | g
        · exact .inr (by simp)
        · rcases t4 y g with g | g
          · exact .inl g
          · exact .inr (by simp [g])
/-- What a delta leaves of the atoms that were there stands in their order. -/
theorem apA_old (c q : Int) (p : Atm → Bool) (hp : ∀ x, x.c = c → x.q = q → p x = false) : ∀ (ds : List St) (A : List Atm) (n : Int), ((apA c q A n ds).filter p).Sublist A
  | [], A, n => by rw [apA]; exact List.nil_sublist _
  | .keep k :: ds, A, n => by
    rw [apA, List.filter_append]
    have := (List.filter_sublist (p := p) (l := A.take k)).append (apA_old c q p hp ds (A.drop k) n)
    rwa [List.take_append_drop] at this
  | .rem k :: ds, A, n => by
    rw [apA]
    exact (apA_old c q p hp ds (A.drop k) n).trans (List.drop_sublist _ _)
  | .ins t :: ds, A, n => by
    rw [apA, List.filter_append]
    have : (atG c q n (pts t)).filter p = [] := by
      rw [List.filter_eq_nil_iff]
      intro x hx
      obtain ⟨h1, h2, -⟩ := Go.Proofs.YtjimolafoihnpaaDoor.atG_mem c q (pts t) n x hx
      rw [hp x h1 h2]
      simp
    rw [this, List.nil_append]
    exact apA_old c q p hp ds A _
end Go.Proofs.YtjimolafoihnpaaDoor.tc

/-
  A row of names as runs: its atoms; what comes of edits has an order. No walk.
-/
namespace Go.Proofs.YtjimolafoihnpaaDoor.tc
open Go.Maps Go.ChangeShapes Go.WideShapes Go.ChangeAt Go.RowKit Go.PlainAid

/-- The atom of a name. -/
def atN (N : List AtK) (P : List Int) (n : Nat) : Atm := ⟨(nk N n).1, (nk N n).2.1, (nk N n).2.2, P.getD n 0⟩
theorem atN_key (N : List AtK) (P : List Int) (n : Nat) : (atN N P n).key = nk N n := rfl
theorem flw_atN {N : List AtK} {P : List Int} {a b : Nat} : Go.Proofs.YtjimolafoihnpaaDoor.flw (atN N P a) (atN N P b) = flw (nk N a) (nk N b) := by
  unfold Go.Proofs.YtjimolafoihnpaaDoor.flw flw atN
  simp only [eq_comm]
theorem chs_is {N : List AtK} {P : List Int} : ∀ (f : Nat) (row : List Nat), row.length ≤ f → (∀ n ∈ row, szI (P.getD n 0) ≠ 0) → (chs N f row).map (rnO N P) = rnA (row.map (atN N P))
  | 0, row, h, _ => by
    obtain rfl : row = [] := List.length_eq_zero_iff.1 (by omega)
    rfl
  | f + 1, [], _, _ => rfl
  | f + 1, a :: l, h, hz => by
    have hcl := chn_le N l a
    have hzR : ∀ u ∈ (a :: l).map (atN N P), szI u.z ≠ 0 := fun u hu => by
      obtain ⟨n, hn, rfl⟩ := List.mem_map.1 hu
      exact hz n hn
    have hg : ∀ (j : Nat) (u : Atm), ((a :: l).map (atN N P))[j]? = some u → u = atN N P ((a :: l).getD j 0) := fun j u hu => by
      rw [List.getElem?_map] at hu
      obtain ⟨n, hn, rfl⟩ := Option.map_eq_some_iff.1 hu
      rw [getD_some hn]
    have := rn_first (R := (a :: l).map (atN N P)) (n := chn N a l + 1) (x := atN N P a) hzR rfl (by omega) (by simp; omega) (fun j x y hj hx hy => by
      rw [hg j x hx, hg (j + 1) y hy, flw_atN]
      exact chn_in N l a j (by omega)) (fun x y hx hy => by
      rw [hg _ x hx, hg _ y hy, flw_atN]
      refine chn_out N l a ?_
      have := (List.getElem?_eq_some_iff.1 hy).1
      simp at this
      omega)
    rw [this, chs, List.map_cons, chs_is f _ (by simp at h ⊢; omega) (fun n hn => hz n (List.mem_of_mem_drop hn)), List.map_drop]
    congr 1
    unfold rnO
    have ht : (List.map (fun n => P.getD n 0) ((a :: l).take (chn N a l + 1))) = (((a :: l).map (atN N P)).take (chn N a l + 1)).map Atm.z := by
      rw [← List.map_take, List.map_map]
      rfl
    have hs : ∀ z ∈ List.map (fun n => P.getD n 0) ((a :: l).take (chn N a l + 1)), szI z ≠ 0 := fun z hz2 => by
      obtain ⟨n, hn, rfl⟩ := List.mem_map.1 hz2
      exact hz n (List.mem_of_mem_take hn)
    rw [textR, if_pos hs, ht]
    rfl
theorem rns_is {N : List AtK} {P : List Int} {row : List Nat} (hz : ∀ n ∈ row, szI (P.getD n 0) ≠ 0) : rns N P row = rnA (row.map (atN N P)) := chs_is _ _ (Nat.le_refl _) hz
theorem run_in {l : List RunD} {r : RunD} (hr : r ∈ l) : ∀ x ∈ r.ats, x ∈ ats l := fun x hx => by
  simp only [ats, List.mem_flatten, List.mem_map]
  exact ⟨_, ⟨r, hr, rfl⟩, hx⟩
/-- What is known of the row of an order. -/
theorem rns_facts {N : List AtK} {P : List Int} {row : List Nat} (hz : ∀ n ∈ row, szI (P.getD n 0) ≠ 0) (hf : ∀ n ∈ row, 0 ≤ (nk N n).2.2 ∧ (nk N n).2.2 ≤ 999) (hl : row.length ≤ 100000) :
    Can (rns N P row) ∧ ats (rns N P row) = row.map (atN N P) ∧ aT (rns N P row) = row.map (atN N P) ∧ (rns N P row).length ≤ row.length ∧ ∀ r ∈ rns N P row, r.t.size ≤ 1048576 := by
  have hzR : ∀ u ∈ row.map (atN N P), szI u.z ≠ 0 := fun u hu => by
    obtain ⟨n, hn, rfl⟩ := List.mem_map.1 hu
    exact hz n hn
  have hcan := rnA_can hzR
  rw [← rns_is hz] at hcan
  obtain ⟨h1, h2⟩ := hcan
  have hr1 : ∀ r ∈ rns N P row, 0 ≤ r.f ∧ r.f ≤ 999 := fun r hr => by
    have hp := Go.Proofs.YtjimolafoihnpaaDoor.pts_pos (h1.all r hr)
    cases hq : pts r.t with
    | nil => rw [hq] at hp; simp at hp
    | cons z zs =>
      have hx : (⟨r.c, r.q, r.f, z⟩ : Atm) ∈ ats (rns N P row) := run_in hr _ (by rw [RunD.ats, hq]; simp [atG])
      rw [h2] at hx
      obtain ⟨n, hn, e⟩ := List.mem_map.1 hx
      have := hf n hn
      injection e with e1 e2 e3 e4
      omega
  refine ⟨h1, h2, ?_, ?_, fun r hr => ?_⟩
  · rw [← h2, aT, ats]
    congr 1
    apply List.map_congr_left
    intro r hr
    have := hr1 r hr
    rw [atR, if_pos]
    simp only [fOk, Bool.and_eq_true, decide_eq_true_eq]
    omega
  · have h9 : ∀ l : List RunD, (∀ r ∈ l, r.Ok) → l.length ≤ (ats l).length := by
      intro l
      induction l with
      | nil => intro _; simp
      | cons r l ih =>
        intro h
        have := ih fun x hx => h x (by simp [hx])
        have hp := Go.Proofs.YtjimolafoihnpaaDoor.pts_pos (h r (by simp))
        rw [ats_cons, List.length_append, RunD.ats, Go.Proofs.YtjimolafoihnpaaDoor.atG_len, List.length_cons]
        omega
    have := h9 _ h1.all
    rw [h2, List.length_map] at this
    exact this
  · have ho := h1.all r hr
    have hs := size_cpl ho
    have hle : (r.ats).length ≤ (ats (rns N P row)).length := by
      have : r.ats.Sublist (ats (rns N P row)) := by
        rw [ats]
        exact List.sublist_flatten_of_mem (List.mem_map.2 ⟨r, hr, rfl⟩)
      exact this.length_le
    rw [h2, List.length_map] at hle
    have := ats_len r (by unfold RunD.Ok at ho; omega)
    omega

/-! ### Edits -/
structure Ed (L : List (List RunD)) (s : List AtK) (l0 l : List RunD) (i : Nat) : Prop where
  good : ∀ x ∈ L, Good x
  last : l ∈ L
  one : s.Nodup
  sub : ∀ x ∈ L, (keys x).Sublist s
  all : ∀ k ∈ s, ∃ y ∈ aTs L, y.key = k
  same : ∀ x ∈ aTs L, ∀ y ∈ aTs L, x.key = y.key → x.z = y.z
  org : ∀ x ∈ aTs L, x ∈ ats l0 ∨ (x.c = 8 ∧ 90000 ≤ x.q ∧ x.q < 90000 + (i : Int))
theorem aTs_one (l : List RunD) : aTs [l] = aT l := by simp [aTs]
theorem Ed.start {l : List RunD} (h : Good l) : Ed [l] (keys l) l l 0 := by
  have hn := (good_kl h).1
  rw [← aT_good h] at hn
  refine ⟨fun x hx => by simp at hx; exact hx ▸ h, by simp, hn, fun x hx => by simp at hx; subst hx; exact List.Sublist.refl _, fun k hk => ?_, fun x hx y hy e => ?_, fun x hx => ?_⟩
  · obtain ⟨y, hy, e⟩ := List.mem_map.1 hk
    exact ⟨y, by rw [aTs_one]; exact hy, e⟩
  · rw [aTs_one] at hx hy
    exact (ag_self hn).1 x hx y hy e
  · rw [aTs_one, aT_good h] at hx
    exact .inl hx
theorem Ed.skip {L : List (List RunD)} {s : List AtK} {l0 l : List RunD} {i : Nat} (h : Ed L s l0 l i) : Ed L s l0 l (i + 1) := by
  refine { h with org := fun x hx => ?_ }
  rcases h.org x hx with g | ⟨g1, g2, g3⟩
  · exact .inl g
  · exact .inr ⟨g1, g2, by omega⟩
theorem aTs_snoc (L : List (List RunD)) (l : List RunD) {x : Atm} : x ∈ aTs (L ++ [l]) ↔ x ∈ aTs L ∨ x ∈ aT l := by
  simp [aTs]
theorem Ed.step {L : List (List RunD)} {s : List AtK} {l0 l : List RunD} {i : Nat} {ds : List OpD} {q : Int} (h : Ed L s l0 l i) (hq : q = 90000 + (i : Int)) (hi : ∀ o ∈ ds, o.In) (h0 : dcE l ds 8 q = 0) (hnew : ∀ r ∈ l0, ¬ (r.c = 8 ∧ r.q = q)) : ∃ s', Ed (L ++ [dcL l ds 8 q]) s' l0 (dcL l ds 8 q) (i + 1) := by
  obtain ⟨f1, f2, -⟩ := dc_facts hi h0
  have hok := stR_ok hi
  generalize dcL l ds 8 q = N at *
  have hg : Good l := h.good l h.last
  have hfr : ∀ x ∈ aTs L, ¬ (x.c = 8 ∧ x.q = q) := fun x hx ⟨e1, e2⟩ => by
    rcases h.org x hx with g | ⟨-, -, g3⟩
    · simp only [ats, List.mem_flatten, List.mem_map] at g
      obtain ⟨_, ⟨r, hr, rfl⟩, hx2⟩ := g
      obtain ⟨g1, g2, -⟩ := Go.Proofs.YtjimolafoihnpaaDoor.atG_mem _ _ _ _ _ hx2
      exact hnew r hr ⟨by omega, by omega⟩
    · omega
  have hal : ∀ x ∈ ats l, x ∈ aTs L := fun x hx => aTs_mem.2 ⟨l, h.last, by rw [aT_good hg]; exact hx⟩
  have hmem : ∀ x ∈ aT N, x ∈ ats l ∨ (x.c = 8 ∧ x.q = q) := fun x hx => by
    rw [aT_good f2, f1] at hx
    rcases apA_mem 8 q _ _ _ hok x hx with g | ⟨g1, g2, -⟩
    · exact .inl g
    · exact .inr ⟨g1, g2⟩
  have hn : (keys N).Nodup := by rw [keys, aT_good f2]; exact (good_kl f2).1
  obtain ⟨t, t1, t2, t3, t4⟩ := weave (keys N) s h.one hn (by
    rw [keys, aT_good f2, f1, List.filter_map]
    refine ((apA_old 8 q _ (fun x e1 e2 => ?_) _ _ _).map Atm.key).trans ((by rw [keys, aT_good hg]; exact List.Sublist.refl _ : ((ats l).map Atm.key).Sublist (keys l)).trans (h.sub l h.last))
    simp only [Function.comp, decide_eq_false_iff_not]
    intro hk
    obtain ⟨y, hy, e⟩ := h.all _ hk
    simp only [Atm.key, Prod.mk.injEq] at e
    exact hfr y hy ⟨by omega, by omega⟩)
  refine ⟨t, fun x hx => ?_, by simp, t1, fun x hx => ?_, fun k hk => ?_, fun x hx y hy e => ?_, fun x hx => ?_⟩
  · rcases List.mem_append.1 hx with g | g
    · exact h.good x g
    · obtain rfl := List.mem_singleton.1 g
      exact f2
  · rcases List.mem_append.1 hx with g | g
    · exact (h.sub x g).trans t2
    · obtain rfl := List.mem_singleton.1 g
      exact t3
  · rcases t4 k hk with g | g
    · obtain ⟨y, hy, e⟩ := h.all k g
      exact ⟨y, (aTs_snoc _ _).2 (.inl hy), e⟩
    · obtain ⟨y, hy, e⟩ := List.mem_map.1 g
      exact ⟨y, (aTs_snoc _ _).2 (.inr hy), e⟩
  · have hkey : ∀ x y : Atm, x ∈ aTs L → (y.c = 8 ∧ y.q = q) → x.key = y.key → False := fun x y hx hy e => by
      simp only [Atm.key, Prod.mk.injEq] at e
      exact hfr x hx ⟨by omega, by omega⟩
    have hin : ∀ x, x ∈ aTs (L ++ [N]) → x ∈ aTs L ∨ (x ∈ aT N ∧ x.c = 8 ∧ x.q = q) := fun x hx => by
      rcases (aTs_snoc _ _).1 hx with g | g
      · exact .inl g
      · rcases hmem x g with g2 | g2
        · exact .inl (hal x g2)
        · exact .inr ⟨g, g2⟩
    rcases hin x hx with g | ⟨g, g2⟩
    · rcases hin y hy with k | ⟨k, k2⟩
      · exact h.same x g y k e
      · exact (hkey x y g k2 e).elim
    · rcases hin y hy with k | ⟨k, k2⟩
      · exact (hkey y x k g2 e.symm).elim
      · exact (ag_self hn).1 x g y k e
  · rcases (aTs_snoc _ _).1 hx with g | g
    · rcases h.org x g with k | ⟨k1, k2, k3⟩
      · exact .inl k
      · exact .inr ⟨k1, k2, by omega⟩
    · rcases hmem x g with k | ⟨k1, k2⟩
      · rcases h.org x (hal x k) with k | ⟨k1, k2, k3⟩
        · exact .inl k
        · exact .inr ⟨k1, k2, by omega⟩
      · exact .inr ⟨k1, by omega, by omega⟩
theorem Ed.ok {L : List (List RunD)} {s : List AtK} {l0 l : List RunD} {i : Nat} (h : Ed L s l0 l i) : OkL L := ⟨h.same, s, h.one, h.sub⟩
end Go.Proofs.YtjimolafoihnpaaDoor.tc
