/-
  One commit more: what is above whom then; links that were appended. No walk.
-/
import Derived.Test.YtdpkcmagegiadaaDgL
namespace Go.Proofs.Ytdpkcmagegiadaa
open Go.Maps Go.WideShapes Go.RowKit Go.ChangeShapes Go.ChangeAt Go.PlainAid

section
variable {L : List Lk} {a b : Int}
/-- A commit more, on two. -/
def more (L : List Lk) (a b : Int) : List Lk := L ++ [⟨lastN L + 1, [a, b]⟩]
theorem more_good (hg : Good L) (ha : a ∈ nums L) (hb : b ∈ nums L) (hne : a ≠ b) (h3 : lastN L < 300) : Good (more L a b) := by
  intro i hi
  unfold more at hi ⊢
  rw [List.length_append, List.length_singleton] at hi
  by_cases h : i < L.length
  · rw [List.take_append_of_le_length (by omega), List.getElem_append_left h]
    exact hg i h
  · obtain rfl : i = L.length := by omega
    rw [List.take_append_of_le_length (Nat.le_refl _), List.take_length, List.getElem_append_right (Nat.le_refl _)]
    simp only [Nat.sub_self, List.getElem_cons_zero]
    refine ⟨by show lastN L < lastN L + 1; omega, by show lastN L + 1 ≤ 300; omega, by simp, fun p hp => ?_, by simp [hne]⟩
    simp at hp
    rcases hp with rfl | rfl
    · exact ha
    · exact hb
theorem nums_more : nums (more L a b) = nums L ++ [lastN L + 1] := nums_snoc _ _
theorem pa_mono {x p : Int} (h : Pa L x p) : Pa (more L a b) x p := by
  obtain ⟨k, hk, e, hp⟩ := h
  exact ⟨k, by simp [more, hk], e, hp⟩
theorem pa_old {x p : Int} (h : Pa (more L a b) x p) (hx : x ≤ lastN L) : Pa L x p := by
  obtain ⟨k, hk, e, hp⟩ := h
  unfold more at hk
  rcases List.mem_append.1 hk with hk | hk
  · exact ⟨k, hk, e, hp⟩
  · simp at hk
    subst hk
    simp only at e
    omega
theorem up_mono {n x : Int} (h : Up L n x) : Up (more L a b) n x := by
  induction h with
  | refl => exact .refl _
  | step _ hp ih => exact .step ih (pa_mono hp)
theorem up_old (hg : Good (more L a b)) {n x : Int} (hn : n ≤ lastN L) (h : Up (more L a b) n x) : Up L n x := by
  induction h with
  | refl => exact .refl _
  | step hu hp ih => exact .step ih (pa_old hp (Int.le_trans (hu.le (good_asc hg)) hn))
theorem up_new (hg : Good L) (hm : Good (more L a b)) (ha : a ∈ nums L) (hb : b ∈ nums L) {x : Int} (h : Up (more L a b) (lastN L + 1) x) : x = lastN L + 1 ∨ Up L a x ∨ Up L b x := by
  have hA := good_asc hg
  have bd := (good_bd hg).2.2.1
  induction h with
  | refl => exact .inl rfl
  | step hu hp ih =>
    right
    rcases ih with rfl | h | h
    · obtain ⟨k, hk, e, hp⟩ := hp
      unfold more at hk
      rcases List.mem_append.1 hk with hk | hk
      · have := bd k.num (List.mem_map.2 ⟨k, hk, rfl⟩)
        omega
      · simp at hk
        subst hk
        simp at hp
        rcases hp with rfl | rfl
        · exact .inl (.refl _)
        · exact .inr (.refl _)
    · exact .inl (.step h (pa_old hp (Int.le_trans (h.le hA) (bd a ha))))
    · exact .inr (.step h (pa_old hp (Int.le_trans (h.le hA) (bd b hb))))
theorem pa_new (p : Int) (hp : p = a ∨ p = b) : Pa (more L a b) (lastN L + 1) p := ⟨⟨lastN L + 1, [a, b]⟩, by simp [more], rfl, by simp; exact hp⟩

theorem more_up (hg : Good L) (hm : Good (more L a b)) {n : Int} (hn : n ∈ nums L) : upR (more L a b) n = upR L n := by
  have bd := (good_bd hg).2.2.1
  have hn' : n ∈ nums (more L a b) := by rw [nums_more]; simp [hn]
  rw [up_ok hg hn, up_ok hm hn']
  congr 1
  unfold ris
  rw [nums_more, List.filter_append]
  have h1 : [lastN L + 1].filter (inS (upM (more L a b) n)) = [] := by
    rw [List.filter_eq_nil_iff]
    intro x hx hc
    simp at hx
    subst hx
    have := ((up_iff hm hn' _).1 hc).le (good_asc hm)
    have := bd n hn
    omega
  rw [h1, List.append_nil]
  refine List.filter_congr fun x _ => ?_
  rw [Bool.eq_iff_iff, up_iff hm hn', up_iff hg hn]
  exact ⟨up_old hm (bd n hn), up_mono⟩
theorem more_all (hg : Good L) (hm : Good (more L a b)) (ha : a ∈ nums L) (hb : b ∈ nums L) :
    upR (more L a b) (lastN L + 1) = ((nums L).filter (fun x => (upR L a).1.contains x || (upR L b).1.contains x) ++ [lastN L + 1], 0) := by
  have bd := (good_bd hg).2.2.1
  have hn' : lastN L + 1 ∈ nums (more L a b) := by rw [nums_more]; simp
  rw [up_ok hm hn']
  congr 1
  unfold ris
  rw [nums_more, List.filter_append]
  have h1 : [lastN L + 1].filter (inS (upM (more L a b) (lastN L + 1))) = [lastN L + 1] := by
    rw [List.filter_cons, if_pos ((up_iff hm hn' _).2 (.refl _))]
    rfl
  rw [h1]
  congr 1
  refine List.filter_congr fun x hx => ?_
  rw [Bool.eq_iff_iff, up_iff hm hn']
  simp only [Bool.or_eq_true, List.contains_eq_mem, decide_eq_true_eq, mem_up hg ha, mem_up hg hb]
  constructor
  · intro h
    rcases up_new hg hm ha hb h with rfl | h
    · have := bd _ hx; omega
    · exact h
  · rintro (h | h)
    · exact (Up.step (.refl _) (pa_new a (.inl rfl))).trans (up_mono h)
    · exact (Up.step (.refl _) (pa_new b (.inr rfl))).trans (up_mono h)
theorem more_tip (hm : Good (more L a b)) {p : Int} (hp : p = a ∨ p = b) : (tipR (more L a b)).contains p = false := by
  rw [Bool.eq_false_iff, Ne, List.contains_eq_mem, decide_eq_true_eq]
  unfold tipR
  rw [goodB_true hm, if_pos rfl, mem_ris, chl_in (good_asc hm)]
  rintro ⟨_, h⟩
  simp only [Bool.and_eq_true, Bool.not_eq_true', Bool.eq_false_iff] at h
  refine h.2 (List.any_eq_true.2 ⟨⟨lastN L + 1, [a, b]⟩, by simp [more], ?_⟩)
  rw [inS_num hm, nums_more]
  simp
  exact hp
/-- How many of the first k are above one of two. -/
def cntU (L : List Lk) (X Y : List Int) (k : Nat) : Nat := ((nums (L.take k)).filter fun x => X.contains x || Y.contains x).length
theorem cntU_succ {X Y : List Int} {k : Nat} (h : k < L.length) : cntU L X Y (k + 1) = cntU L X Y k + (if X.contains L[k].num || Y.contains L[k].num then 1 else 0) := by
  unfold cntU
  rw [List.take_succ_eq_append_getElem h, nums_snoc, List.filter_append, List.length_append]
  congr 1
  rw [List.filter_cons]
  split <;> simp_all
theorem cntU_le (X Y : List Int) (k : Nat) : cntU L X Y k ≤ L.length := by
  unfold cntU nums
  refine Nat.le_trans (List.length_filter_le _ _) ?_
  rw [List.length_map, List.length_take]
  omega
end

/-- Links as values. -/
def lcells (l : List (Int × Value)) : List Value := (l.map fun k => [Value.int .i64 k.1, k.2]).flatten
theorem lcells_append (x y : List (Int × Value)) : lcells (x ++ y) = lcells x ++ lcells y := by simp [lcells]
theorem lcells_one (k : Int × Value) : lcells [k] = [Value.int .i64 k.1, k.2] := by simp [lcells]
theorem lcells_length (l : List (Int × Value)) : (lcells l).length = l.length * 2 := by
  induction l with
  | nil => simp [lcells]
  | cons a l ih =>
    have e : lcells (a :: l) = [Value.int .i64 a.1, a.2] ++ lcells l := by simp [lcells]
    rw [e, List.length_append, ih]; simp; omega
theorem lcells_at (l : List (Int × Value)) (i : Nat) (k : Int × Value) (h : l[i]? = some k) : (lcells l)[i * 2]? = some (.int .i64 k.1) ∧ (lcells l)[i * 2 + 1]? = some k.2 := by
  have hi := (List.getElem?_eq_some_iff.1 h).1
  have e0 : l = l.take i ++ ([k] ++ l.drop (i + 1)) := by
    have h1 : l[i] = k := (List.getElem?_eq_some_iff.1 h).2
    rw [← h1]
    simp
  have e1 : lcells l = lcells (l.take i) ++ ([Value.int .i64 k.1, k.2] ++ lcells (l.drop (i + 1))) := by
    rw [← lcells_one, ← lcells_append, ← lcells_append, ← e0]
  have e2 : (lcells (l.take i)).length = i * 2 := by rw [lcells_length, List.length_take]; congr 1; omega
  rw [e1]
  refine ⟨?_, ?_⟩ <;> rw [List.getElem?_append_right (by omega), e2] <;> simp
theorem rdl_own {W : World} {B : Nat} {v : Value} {L : List Lk} {l : List (Int × Value)} (h : W.ownsRow B 36 2 v l.length (lcells l)) (hl : l.length = L.length)
    (hs : ∀ i (hi : i < L.length), ∃ pv, l[i]? = some (L[i].num, pv) ∧ RdI W pv L[i].ps) : RdL W v L := by
  rcases h.2 with ⟨rfl, h0⟩ | ⟨g, cap, cur, rfl, hb, hg, hn, _, hc, ht⟩
  · have : L = [] := List.eq_nil_of_length_eq_zero (by omega)
    subst this
    exact ⟨none, 0, rfl, ⟨Nat.le_refl _, fun _ => rfl⟩, fun i o h => by simp at h⟩
  · refine ⟨_, cap, by rw [hl], ⟨by omega, fun h => by cases h⟩, fun i k hk => ?_⟩
    have hi := (List.getElem?_eq_some_iff.1 hk).1
    have e : L[i] = k := (List.getElem?_eq_some_iff.1 hk).2
    obtain ⟨pv, h1, h2⟩ := hs i hi
    rw [e] at h1 h2
    obtain ⟨c0, c1⟩ := lcells_at l i _ h1
    have hadd : ∀ j, (⟨g, 0, none⟩ : Addr).add j = ⟨g, 0 + j, none⟩ := fun j => by unfold Addr.add; split <;> simp_all
    have g0 := h.cells (g := g) rfl _ _ c0
    have g1 := h.cells (g := g) rfl _ _ c1
    rw [hadd] at g0 g1
    exact ⟨g, 0, pv, rfl, (h.lt g rfl).2, g0, by rw [Nat.add_assoc]; exact g1, h2⟩
/-- Links that lie in a row, as values. -/
theorem src_of {W : World} {ao : Option Addr} {cp : Nat} {L : List Lk} (h : RdL W (.slice ao L.length cp) L) : ∃ l : List (Int × Value), l.length = L.length ∧ (∀ i (hi : i < L.length), ∃ pv, l[i]? = some (L[i].num, pv) ∧ RdI W pv L[i].ps) ∧ (∀ u ∈ lcells l, u.oneCell' = true) ∧
    ∀ b off, ao = some ⟨b, off, none⟩ → ∀ j u, (lcells l)[j]? = some u → W.cell? ((⟨b, off, none⟩ : Addr).add j) = some u := by
  obtain ⟨_, p, hp⟩ := lies_of h
  have hlen : ((List.range L.length).map fun i => ((L[i]?.getD ⟨0, []⟩).num, Value.slice (p i).1 (L[i]?.getD ⟨0, []⟩).ps.length (p i).2)).length = L.length := by simp
  have hat : ∀ i (hi : i < L.length), ((List.range L.length).map fun i => ((L[i]?.getD ⟨0, []⟩).num, Value.slice (p i).1 (L[i]?.getD ⟨0, []⟩).ps.length (p i).2))[i]? = some (L[i].num, Value.slice (p i).1 L[i].ps.length (p i).2) := by
    intro i hi
    simp [hi]
  refine ⟨_, hlen, fun i hi => ⟨_, hat i hi, ?_⟩, ?_, ?_⟩
  · obtain ⟨b, off, e1, e2, e3, e4, e5⟩ := hp.lie i hi
    exact e5
  · intro u hu
    simp only [lcells, List.mem_flatten, List.mem_map] at hu
    obtain ⟨s, ⟨k, ⟨i, _, rfl⟩, rfl⟩, hu⟩ := hu
    simp at hu
    rcases hu with rfl | rfl <;> rfl
  · intro b off hb j u hj
    have hjl := (List.getElem?_eq_some_iff.1 hj).1
    rw [lcells_length, hlen] at hjl
    have hi : j / 2 < L.length := by omega
    obtain ⟨c0, c1⟩ := lcells_at _ _ _ (hat (j / 2) hi)
    obtain ⟨b', off', e1, e2, e3, e4, e5⟩ := hp.lie (j / 2) hi
    rw [hb] at e1
    simp at e1
    obtain ⟨rfl, rfl⟩ := e1
    have hadd : (⟨b, off, none⟩ : Addr).add j = ⟨b, off + j, none⟩ := by unfold Addr.add; split <;> simp_all
    rw [hadd]
    by_cases hm : j % 2 = 0
    · have e : j / 2 * 2 = j := by omega
      rw [e] at c0 e3
      rw [hj] at c0
      cases c0
      exact e3
    · have e : j / 2 * 2 + 1 = j := by omega
      have e' : off + j / 2 * 2 + 1 = off + j := by omega
      rw [e] at c1
      rw [e'] at e4
      rw [hj] at c1
      cases c1
      exact e4
theorem last_at {L : List Lk} (h : 0 < L.length) : lastN L = (L[L.length - 1]'(by omega)).num := by
  unfold lastN
  rw [List.getLast?_eq_getElem?, List.getElem?_eq_getElem (by omega)]
  rfl
theorem Try.infoLk : (Try.prog.info? 36).map (fun i => (i.zero, i.size, i.bytes)) = some (some (.agg #[.int .i64 0, .slice none 0 0]), 2, 32) := by kernel_rfl
end Go.Proofs.Ytdpkcmagegiadaa
