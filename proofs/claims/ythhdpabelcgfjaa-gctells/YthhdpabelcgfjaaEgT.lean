/-
  Who is above whom: what the marks are. No walk.
-/
import Derived.Test.YthhdpabelcgfjaaEgG
namespace Go.Proofs.Ythhdpabelcgfjaa.dg
open Go.Maps Go.WideShapes Go.RowKit

theorem inS_range {f : Nat → Bool} {x : Int} (h : inS f x = true) : 0 ≤ x ∧ x < 512 := by
  simp [inS] at h
  exact h.1
theorem inS_putL {f : Nat → Bool} {l : List Int} {x : Int} (h : 0 ≤ x ∧ x < 512) : inS (putL f l) x = (inS f x || l.contains x) := by
  obtain ⟨n, rfl⟩ := Int.eq_ofNat_of_zero_le h.1
  have hn : n < 512 := by omega
  rw [inS_nat hn, inS_nat hn]
  rfl
theorem inS_dropL {f : Nat → Bool} {l : List Int} {x : Int} : inS (dropL f l) x = (inS f x && !l.contains x) := by
  by_cases h : 0 ≤ x ∧ x < 512
  · obtain ⟨n, rfl⟩ := Int.eq_ofNat_of_zero_le h.1
    have hn : n < 512 := by omega
    rw [inS_nat hn, inS_nat hn]
    rfl
  · have h1 : inS (dropL f l) x = false := by rw [Bool.eq_false_iff]; exact fun e => h (inS_range e)
    have h2 : inS f x = false := by rw [Bool.eq_false_iff]; exact fun e => h (inS_range e)
    rw [h1, h2]
    rfl
theorem inS_and {f g : Nat → Bool} {x : Int} : inS (fun i => f i && g i) x = (inS f x && inS g x) := by
  unfold inS
  cases decide (0 ≤ x) <;> cases decide (x < 512) <;> simp

/-- Numbers rise, and parents are lower. -/
structure Asc (L : List Lk) : Prop where
  up : L.Pairwise fun a b => a.num < b.num
  dn : ∀ k ∈ L, ∀ p ∈ k.ps, 0 ≤ p ∧ p < k.num ∧ p < 512
  rg : ∀ k ∈ L, 0 ≤ k.num ∧ k.num < 512
theorem Asc.tail {k : Lk} {L : List Lk} (h : Asc (k :: L)) : Asc L := ⟨(List.pairwise_cons.1 h.up).2, fun x hx => h.dn x (by simp [hx]), fun x hx => h.rg x (by simp [hx])⟩
theorem Asc.head {k : Lk} {L : List Lk} (h : Asc (k :: L)) : ∀ x ∈ L, k.num < x.num := (List.pairwise_cons.1 h.up).1
theorem good_asc {L : List Lk} (h : Good L) : Asc L := by
  refine ⟨?_, fun k hk p hp => ?_, fun k hk => ?_⟩
  · rw [List.pairwise_iff_getElem]
    intro i j hi hj hij
    have h1 := (good_bd (good_take h j)).2.2.1 L[i].num (List.mem_map.2 ⟨L[i], List.mem_take_iff_getElem.2 ⟨i, by omega, rfl⟩, rfl⟩)
    have h2 := (h j hj).lo
    omega
  · obtain ⟨i, hi, rfl⟩ := List.getElem_of_mem hk
    have h1 := (h i hi).mem p hp
    have h2 := (good_bd (good_take h i)).1 p h1
    have h3 := (good_bd (good_take h i)).2.2.1 p h1
    have h4 := (h i hi).lo
    omega
  · have := (good_bd h).1 k.num (List.mem_map.2 ⟨k, hk, rfl⟩)
    omega
theorem good_mem {L : List Lk} (h : Good L) : ∀ k ∈ L, ∀ p ∈ k.ps, p ∈ nums L := by
  intro k hk p hp
  obtain ⟨i, hi, rfl⟩ := List.getElem_of_mem hk
  have h1 := (h i hi).mem p hp
  unfold nums at *
  obtain ⟨y, hy, rfl⟩ := List.mem_map.1 h1
  exact List.mem_map.2 ⟨y, List.mem_of_mem_take hy, rfl⟩

/-- p is a parent of x. -/
def Pa (L : List Lk) (x p : Int) : Prop := ∃ k ∈ L, k.num = x ∧ p ∈ k.ps
inductive Up (L : List Lk) : Int → Int → Prop
  | refl (n : Int) : Up L n n
  | step {n x p : Int} : Up L n x → Pa L x p → Up L n p
theorem Up.trans {L : List Lk} {a b c : Int} (h : Up L a b) (k : Up L b c) : Up L a c := by
  induction k with
  | refl => exact h
  | step _ hp ih => exact .step ih hp
theorem Up.le {L : List Lk} (hA : Asc L) {a b : Int} (h : Up L a b) : b ≤ a := by
  induction h with
  | refl => omega
  | step _ hp ih =>
    obtain ⟨k, hk, rfl, hp⟩ := hp
    have := hA.dn k hk _ hp
    omega
theorem Up.mem {L : List Lk} (hg : Good L) {a b : Int} (h : Up L a b) (ha : a ∈ nums L) : b ∈ nums L := by
  induction h with
  | refl => exact ha
  | step _ hp _ =>
    obtain ⟨k, hk, rfl, hp⟩ := hp
    exact good_mem hg k hk _ hp
/-- A last step. -/
theorem Up.last {L : List Lk} {a b : Int} (h : Up L a b) (hne : a ≠ b) : ∃ y, Up L a y ∧ Pa L y b := by
  cases h with
  | refl => exact absurd rfl hne
  | step h1 hp => exact ⟨_, h1, hp⟩

theorem step_sub {m : Nat → Bool} {k : Lk} {x : Int} (h : inS m x = true) : inS (stepU m k) x = true := by
  unfold stepU
  split
  · rw [inS_putL (inS_range h), h]; rfl
  · exact h
theorem fold_sub {m : Nat → Bool} {S : List Lk} {x : Int} (h : inS m x = true) : inS (S.foldr (fun k m => stepU m k) m) x = true := by
  induction S with
  | nil => exact h
  | cons k S ih => exact step_sub ih
theorem fold_up {L S : List Lk} (hS : ∀ k ∈ S, k ∈ L) {n : Int} {m : Nat → Bool} (hm : ∀ x, inS m x = true → x = n) : ∀ x, inS (S.foldr (fun k m => stepU m k) m) x = true → Up L n x := by
  induction S with
  | nil => intro x hx; rw [hm x hx]; exact .refl n
  | cons k S ih =>
    intro x hx
    have ih' := ih (fun y hy => hS y (by simp [hy]))
    rw [List.foldr_cons] at hx
    unfold stepU at hx
    split at hx
    · rename_i hk
      rw [inS_putL (inS_range hx)] at hx
      simp at hx
      rcases hx with hx | hx
      · exact ih' x hx
      · exact .step (ih' _ hk) ⟨k, hS k (by simp), rfl, hx⟩
    · exact ih' x hx
theorem fold_closed {S : List Lk} (hA : Asc S) (m : Nat → Bool) : ∀ k ∈ S, inS (S.foldr (fun k m => stepU m k) m) k.num = true → ∀ p ∈ k.ps, inS (S.foldr (fun k m => stepU m k) m) p = true := by
  induction S with
  | nil => intro k hk; simp at hk
  | cons k0 S ih =>
    intro k hk hin p hp
    rw [List.foldr_cons] at hin ⊢
    have hr := hA.rg k hk
    rcases List.mem_cons.1 hk with rfl | hk'
    · unfold stepU at hin ⊢
      split at hin
      · rename_i h1
        have hd := hA.dn k (by simp) p hp
        rw [if_pos h1, inS_putL ⟨hd.1, hd.2.2⟩]
        simp [hp]
      · rename_i h1
        exact absurd hin h1
    · have hlt := hA.head k hk'
      have h1 : inS (S.foldr (fun k m => stepU m k) m) k.num = true := by
        unfold stepU at hin
        split at hin
        · rw [inS_putL (by omega)] at hin
          simp at hin
          rcases hin with hin | hin
          · exact hin
          · have := hA.dn k0 (by simp) _ hin
            omega
        · exact hin
      exact step_sub (ih hA.tail k hk' h1 p hp)
theorem single_in {n x : Int} (h : inS (putL (fun _ => false) [n]) x = true) : x = n := by
  rw [inS_putL (inS_range h)] at h
  simp [inS] at h
  exact h
theorem up_iff {L : List Lk} (hg : Good L) {n : Int} (hn : n ∈ nums L) (x : Int) : inS (upM L n) x = true ↔ Up L n x := by
  constructor
  · exact fold_up (fun _ h => h) (fun _ h => single_in h) x
  · intro h
    induction h with
    | refl =>
      have := (good_bd hg).1 n hn
      refine fold_sub ?_
      rw [inS_putL (by omega)]
      simp
    | step _ hp ih =>
      obtain ⟨k, hk, rfl, hp⟩ := hp
      exact fold_closed (good_asc hg) _ k hk ih _ hp

theorem chl_in {S : List Lk} (hA : Asc S) (M : Nat → Bool) (x : Int) : inS (chl S M) x = (inS M x && !S.any fun k => inS M k.num && k.ps.contains x) := by
  induction S generalizing M with
  | nil => simp [chl]
  | cons k S ih =>
    have e : chl (k :: S) M = chl S (if inS M k.num then dropL M k.ps else M) := rfl
    rw [e, ih hA.tail]
    by_cases hk : inS M k.num = true
    · rw [if_pos hk, inS_dropL]
      have e2 : (S.any fun j => inS (dropL M k.ps) j.num && j.ps.contains x) = S.any fun j => inS M j.num && j.ps.contains x := by
        rw [Bool.eq_iff_iff, List.any_eq_true, List.any_eq_true]
        have hj : ∀ j ∈ S, inS (dropL M k.ps) j.num = inS M j.num := by
          intro j hj
          rw [inS_dropL]
          have h1 := hA.head j hj
          have h2 : j.num ∉ k.ps := fun hp => by have := hA.dn k (by simp) _ hp; omega
          simp [List.contains_eq_mem, h2]
        constructor
        · rintro ⟨j, hj1, hj2⟩; exact ⟨j, hj1, by rw [hj j hj1] at hj2; exact hj2⟩
        · rintro ⟨j, hj1, hj2⟩; exact ⟨j, hj1, by rw [hj j hj1]; exact hj2⟩
      rw [e2, List.any_cons, hk]
      cases inS M x <;> cases k.ps.contains x <;> simp
    · rw [if_neg hk, List.any_cons]
      have hk' : inS M k.num = false := by simpa using hk
      rw [hk']
      simp

theorem mem_ris {L : List Lk} {m : Nat → Bool} {x : Int} : x ∈ ris L m ↔ x ∈ nums L ∧ inS m x = true := by simp [ris]
theorem nums_asc {L : List Lk} (h : Good L) : (nums L).Pairwise (· < ·) := by
  unfold nums
  rw [List.pairwise_map]
  exact (good_asc h).up
theorem filter_one {l : List Int} (hl : l.Pairwise (· < ·)) {a : Int} (ha : a ∈ l) (p : Int → Bool) (hp : ∀ x ∈ l, p x = true ↔ x = a) : l.filter p = [a] := by
  induction l with
  | nil => simp at ha
  | cons b l ih =>
    obtain ⟨h1, h2⟩ := List.pairwise_cons.1 hl
    rcases List.mem_cons.1 ha with rfl | ha'
    · rw [List.filter_cons, if_pos ((hp a (by simp)).2 rfl)]
      have : l.filter p = [] := by
        rw [List.filter_eq_nil_iff]
        intro x hx hpx
        have := (hp x (by simp [hx])).1 hpx
        have := h1 x hx
        omega
      rw [this]
    · have hb : ¬ p b = true := fun e => by
        have := (hp b (by simp)).1 e
        have := h1 a ha'
        omega
      rw [List.filter_cons, if_neg hb]
      exact ih h2 ha' (fun x hx => hp x (by simp [hx]))

/-- What Common gives. -/
theorem com_iff {L : List Lk} (hg : Good L) {a b : Int} (ha : a ∈ nums L) (hb : b ∈ nums L) (x : Int) :
    inS (chl L (comM L a b)) x = true ↔ (Up L a x ∧ Up L b x) ∧ ∀ y, Up L a y → Up L b y → ¬ Pa L y x := by
  rw [chl_in (good_asc hg)]
  unfold comM
  simp only [inS_and, Bool.and_eq_true, Bool.not_eq_true', up_iff hg ha, up_iff hg hb]
  refine and_congr Iff.rfl ?_
  rw [Bool.eq_false_iff]
  constructor
  · rintro h y h1 h2 ⟨k, hk, rfl, hp⟩
    refine h (List.any_eq_true.2 ⟨k, hk, ?_⟩)
    rw [(up_iff hg ha _).2 h1, (up_iff hg hb _).2 h2]
    simp [hp]
  · rintro h hc
    obtain ⟨k, hk, h3⟩ := List.any_eq_true.1 hc
    simp only [Bool.and_eq_true, up_iff hg ha, up_iff hg hb] at h3
    exact h _ h3.1.1 h3.1.2 ⟨k, hk, rfl, by simpa [List.contains_eq_mem] using h3.2⟩

theorem co_comm (L : List Lk) (a b : Int) : coR L a b = coR L b a := by
  have : comM L a b = comM L b a := by
    funext i
    unfold comM
    rw [Bool.and_comm]
  unfold coR
  rw [this, Bool.and_comm]
theorem co_above {L : List Lk} (hg : Good L) {a b : Int} (ha : a ∈ nums L) (hb : b ∈ nums L) (h : a ∈ ris L (upM L b)) : ris L (chl L (comM L a b)) = [a] := by
  have hba := (up_iff hg hb a).1 (mem_ris.1 h).2
  have hA := good_asc hg
  unfold ris
  refine filter_one (nums_asc hg) ha _ (fun x _ => ?_)
  rw [com_iff hg ha hb]
  constructor
  · rintro ⟨⟨h1, _⟩, h2⟩
    refine Classical.byContradiction fun hne => ?_
    obtain ⟨y, hy, hp⟩ := h1.last (fun e => hne e.symm)
    exact h2 y hy (hba.trans hy) hp
  · rintro rfl
    refine ⟨⟨.refl _, hba⟩, ?_⟩
    rintro y hy _ ⟨k, hk, rfl, hp⟩
    have := hy.le hA
    have := hA.dn k hk _ hp
    omega

theorem ris_300 {L : List Lk} (hg : Good L) (m : Nat → Bool) : (ris L m).length ≤ 300 := by
  unfold ris nums
  have h1 := good_300 hg
  have h2 := List.length_filter_le (inS m) (L.map (·.num))
  rw [List.length_map] at h2
  omega
theorem co_len (L : List Lk) (a b : Int) : (coR L a b).1.length ≤ 300 := by
  unfold coR
  split
  · rename_i hg
    split
    · exact ris_300 ((goodB_iff L).1 hg) _
    · simp
  · simp
theorem up_len (L : List Lk) (a : Int) : (upR L a).1.length ≤ 300 := by
  unfold upR
  split
  · rename_i hg
    split
    · exact ris_300 ((goodB_iff L).1 hg) _
    · simp
  · simp
theorem tip_len (L : List Lk) : (tipR L).length ≤ 300 := by
  unfold tipR
  split
  · rename_i hg
    exact ris_300 ((goodB_iff L).1 hg) _
  · simp
theorem co_zero {L : List Lk} {a b : Int} (h : (coR L a b).2 = 0) : Good L ∧ a ∈ nums L ∧ b ∈ nums L ∧ (coR L a b).1 = ris L (chl L (comM L a b)) := by
  unfold coR at h ⊢
  split at h
  · rename_i hg
    split at h
    · rename_i hc
      simp only [Bool.and_eq_true, List.contains_eq_mem, decide_eq_true_eq] at hc
      refine ⟨(goodB_iff L).1 hg, hc.1, hc.2, ?_⟩
      rw [if_pos hg, if_pos (by simp [List.contains_eq_mem, hc])]
    · cases h
  · cases h
theorem up_ok {L : List Lk} {a : Int} (hg : Good L) (ha : a ∈ nums L) : upR L a = (ris L (upM L a), 0) := by
  unfold upR
  rw [goodB_true hg, if_pos rfl, if_pos (by simp [List.contains_eq_mem, ha])]
theorem mem_up {L : List Lk} {a : Int} (hg : Good L) (ha : a ∈ nums L) {x : Int} : x ∈ (upR L a).1 ↔ Up L a x := by
  rw [up_ok hg ha]
  show x ∈ ris L (upM L a) ↔ _
  rw [mem_ris, up_iff hg ha]
  exact ⟨fun h => h.2, fun h => ⟨h.mem hg ha, h⟩⟩
end Go.Proofs.Ythhdpabelcgfjaa.dg
