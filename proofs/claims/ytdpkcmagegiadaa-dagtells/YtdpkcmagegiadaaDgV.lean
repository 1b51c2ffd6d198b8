/-
  The reference's rows of marks, as functions of the numbers. No walk.
-/
import Derived.Test.YtdpkcmagegiadaaDgQ
namespace Go.Proofs.Ytdpkcmagegiadaa
open Go.Maps Go.WideShapes Go.RowKit

/-- A row of marks. -/
def mrow (L : List Lk) (f : Int → Bool) : List Bool := (nums L).map f
theorem mrow_len (L : List Lk) (f : Int → Bool) : (mrow L f).length = L.length := by simp [mrow, nums]
theorem mrow_at {L : List Lk} {f : Int → Bool} {i : Nat} (h : i < L.length) : (mrow L f)[i]'(by rw [mrow_len]; exact h) = f L[i].num := by simp [mrow, nums]
theorem mrow_congr {L : List Lk} {f g : Int → Bool} (h : ∀ k ∈ L, f k.num = g k.num) : mrow L f = mrow L g := by
  unfold mrow nums
  rw [List.map_map, List.map_map]
  exact List.map_congr_left fun k hk => h k hk
def upd (f : Int → Bool) (n : Int) (b : Bool) : Int → Bool := fun x => if x = n then b else f x
theorem mrow_set {L : List Lk} (hg : Good L) {f : Int → Bool} {i : Nat} (hi : i < L.length) (b : Bool) : (mrow L f).set i b = mrow L (upd f L[i].num b) := by
  apply List.ext_getElem
  · rw [List.length_set, mrow_len, mrow_len]
  · intro j h1 h2
    rw [mrow_len] at h2
    rw [mrow_at h2, List.getElem_set]
    unfold upd
    by_cases e : i = j
    · subst e
      rw [if_pos rfl, if_pos rfl]
    · rw [if_neg e, mrow_at h2, if_neg]
      intro e2
      have hA := (good_asc hg).up
      rw [List.pairwise_iff_getElem] at hA
      rcases Nat.lt_or_gt_of_ne e with h | h
      · have := hA i j hi h2 h; omega
      · have := hA j i h2 hi h; omega
theorem mrow_false (L : List Lk) : mrow L (fun _ => false) = List.replicate L.length false := by
  unfold mrow nums
  rw [List.map_map]
  simp [Function.comp_def, List.map_const']

/-- With numbers more. -/
def addF (f : Int → Bool) (l : List Int) : Int → Bool := fun x => f x || l.contains x
theorem addF_snoc (f : Int → Bool) (l : List Int) (p : Int) : upd (addF f l) p true = addF f (l ++ [p]) := by
  funext x
  unfold upd addF
  by_cases e : x = p
  · subst e; simp
  · rw [if_neg e]; simp [List.contains_eq_mem, e]
theorem addF_nil (f : Int → Bool) : addF f [] = f := by funext x; simp [addF]
def subF (f : Int → Bool) (l : List Int) : Int → Bool := fun x => f x && !l.contains x
theorem subF_snoc (f : Int → Bool) (l : List Int) (p : Int) : upd (subF f l) p false = subF f (l ++ [p]) := by
  funext x
  unfold upd subF
  by_cases e : x = p
  · subst e; simp
  · rw [if_neg e]; simp [List.contains_eq_mem, e]
theorem subF_nil (f : Int → Bool) : subF f [] = f := by funext x; simp [subF]

/-- What the reference has marked behind links. -/
def rmS : List Lk → Int → Int → Bool
  | [], _ => fun _ => false
  | k :: S, n => addF (upd (rmS S n) k.num (rmS S n k.num || k.num == n)) (if (rmS S n k.num || k.num == n) then k.ps else [])
theorem rm_up {S : List Lk} (hA : Asc S) {n : Int} {x : Int} (hx : 0 ≤ x ∧ x < 512) : inS (S.foldr (fun k m => stepU m k) (putL (fun _ => false) [n])) x = (rmS S n x || x == n) := by
  induction S generalizing x with
  | nil =>
    rw [List.foldr_nil, inS_putL hx]
    simp [rmS, inS]
    rw [Bool.eq_iff_iff]
    simp
  | cons k S ih =>
    have hk := hA.rg k (by simp)
    have ihx := ih hA.tail hx
    have ihk := ih hA.tail (x := k.num) (by omega)
    rw [List.foldr_cons]
    generalize S.foldr (fun k m => stepU m k) (putL (fun _ => false) [n]) = M at *
    unfold stepU
    rw [ihk]
    simp only [rmS, addF, upd]
    cases hb : (rmS S n k.num || k.num == n) with
    | true =>
      simp only [if_true]
      rw [inS_putL hx, ihx]
      by_cases e : x = k.num
      · subst e
        rw [hb]
        simp
      · rw [if_neg e]
        cases rmS S n x <;> cases k.ps.contains x <;> cases (x == n) <;> rfl
    | false =>
      simp only [Bool.false_eq_true, if_false]
      rw [ihx]
      by_cases e : x = k.num
      · subst e
        rw [if_pos rfl, hb]
        have h2 : (k.num == n) = false := by
          rw [Bool.or_eq_false_iff] at hb
          exact hb.2
        rw [h2]
        simp
      · rw [if_neg e]
        simp
theorem rm_self {S : List Lk} {n : Int} (h : n ∈ nums S) : rmS S n n = true := by
  induction S with
  | nil => simp [nums] at h
  | cons k S ih =>
    simp only [rmS, addF, upd]
    by_cases e : n = k.num
    · subst e
      simp
    · have : n ∈ nums S := by
        simp [nums] at h ⊢
        rcases h with h | h
        · exact absurd h e
        · exact h
      rw [if_neg e, ih this]
      simp
theorem rm_row {L : List Lk} (hg : Good L) {n : Int} (hn : n ∈ nums L) : mrow L (rmS L n) = mrow L (inS (upM L n)) := by
  refine mrow_congr fun k hk => ?_
  have hb := (good_bd hg).1
  have h1 := hb k.num (List.mem_map.2 ⟨k, hk, rfl⟩)
  unfold upM
  rw [rm_up (good_asc hg) (by omega)]
  by_cases e : k.num = n
  · rw [e, rm_self hn]; simp
  · simp [e]

/-- The numbers of marked places are those that are marked. -/
theorem pick_row {L : List Lk} (f : Int → Bool) : pick L (mrow L f) = (nums L).filter f := by
  have key : ∀ k, k ≤ L.length → pickN L (mrow L f) k = (nums (L.take k)).filter f := by
    intro k
    induction k with
    | zero => intro _; rfl
    | succ k ih =>
      intro hk
      rw [pickN_succ (by omega) (by rw [mrow_len]; omega), ih (by omega), mrow_at (by omega), List.take_succ_eq_append_getElem (by omega), nums_snoc, List.filter_append]
      congr 1
      rw [List.filter_cons]
      cases f (L[k]'(by omega)).num <;> rfl
  have := key L.length (Nat.le_refl _)
  rw [List.take_length] at this
  exact this

/-- What the reference's Common has marked behind the first i. -/
def cmF (L : List Lk) (X Y : Int → Bool) (i : Nat) : Int → Bool := fun x => (X x && Y x) && !((L.take i).any fun k => (X k.num && Y k.num) && (decide (x ≠ k.num) && inS (upM L k.num) x))
theorem cmF_zero (L : List Lk) (X Y : Int → Bool) : cmF L X Y 0 = fun x => X x && Y x := by funext x; simp [cmF]
theorem cmF_succ {L : List Lk} {X Y : Int → Bool} {i : Nat} (hi : i < L.length) (x : Int) : cmF L X Y (i + 1) x = (cmF L X Y i x && !((X L[i].num && Y L[i].num) && (decide (x ≠ L[i].num) && inS (upM L L[i].num) x))) := by
  unfold cmF
  rw [List.take_succ_eq_append_getElem hi, List.any_append, List.any_cons, List.any_nil, Bool.or_false, Bool.not_or]
  simp only [Bool.and_assoc]
theorem cm_row {L : List Lk} (hg : Good L) {a b : Int} (ha : a ∈ nums L) (hb : b ∈ nums L) : mrow L (cmF L (inS (upM L a)) (inS (upM L b)) L.length) = mrow L (inS (chl L (comM L a b))) := by
  refine mrow_congr fun k hk => ?_
  have hkn : k.num ∈ nums L := List.mem_map.2 ⟨k, hk, rfl⟩
  rw [Bool.eq_iff_iff, com_iff hg ha hb]
  unfold cmF
  rw [List.take_length]
  simp only [Bool.and_eq_true, up_iff hg ha, up_iff hg hb, Bool.not_eq_true', Bool.eq_false_iff]
  refine and_congr Iff.rfl ?_
  constructor
  · rintro h y h1 h2 hp
    have hy : y ∈ nums L := h1.mem hg ha
    obtain ⟨j, hj, rfl⟩ := List.mem_map.1 hy
    refine h (List.any_eq_true.2 ⟨j, hj, ?_⟩)
    have hlt : k.num < j.num := by
      obtain ⟨q, hq, e, hp⟩ := hp
      have := (good_asc hg).dn q hq _ hp
      omega
    rw [(up_iff hg ha _).2 h1, (up_iff hg hb _).2 h2, (up_iff hg hy _).2 (.step (.refl _) hp)]
    simp
    omega
  · intro h hc
    obtain ⟨j, hj, h3⟩ := List.any_eq_true.1 hc
    have hjn : j.num ∈ nums L := List.mem_map.2 ⟨j, hj, rfl⟩
    simp only [Bool.and_eq_true, up_iff hg ha, up_iff hg hb, decide_eq_true_eq, up_iff hg hjn] at h3
    obtain ⟨⟨h4, h5⟩, h6, h7⟩ := h3
    obtain ⟨y, hy, hp⟩ := h7.last (fun e => h6 e.symm)
    exact h y (h4.trans hy) (h5.trans hy) hp

/-- What the reference's Tips has marked behind the first i. -/
def tpF (L : List Lk) (i : Nat) : Int → Bool := fun x => (nums (L.take i)).contains x && !((L.take i).any fun k => k.ps.contains x)
theorem tpF_zero (L : List Lk) : tpF L 0 = fun _ => false := by funext x; simp [tpF, nums]
theorem tpF_new {L : List Lk} (hg : Good L) {i : Nat} (hi : i < L.length) : mrow L (upd (tpF L i) L[i].num true) = mrow L (fun x => (nums (L.take (i + 1))).contains x && !((L.take i).any fun k => k.ps.contains x)) := by
  refine mrow_congr fun k hk => ?_
  unfold upd tpF
  rw [List.take_succ_eq_append_getElem hi, nums_snoc]
  by_cases e : k.num = L[i].num
  · rw [if_pos e, e]
    have h : ((L.take i).any fun k => k.ps.contains L[i].num) = false := by
      rw [Bool.eq_false_iff]
      intro hc
      obtain ⟨j, hj, hp⟩ := List.any_eq_true.1 hc
      obtain ⟨q, hq, rfl⟩ := List.getElem_of_mem hj
      rw [List.length_take] at hq
      have hA := good_asc hg
      have h1 := List.pairwise_iff_getElem.1 hA.up q i (by omega) hi (by omega)
      rw [List.getElem_take] at hp
      have h2 := hA.dn L[q] (by simp) L[i].num (by simpa [List.contains_eq_mem] using hp)
      omega
    rw [h]
    simp
  · rw [if_neg e]
    congr 1
    rw [Bool.eq_iff_iff]
    simp [List.contains_eq_mem, e]
theorem tpF_succ {L : List Lk} {i : Nat} (hi : i < L.length) : subF (fun x => (nums (L.take (i + 1))).contains x && !((L.take i).any fun k => k.ps.contains x)) L[i].ps = tpF L (i + 1) := by
  funext x
  unfold subF tpF
  rw [List.take_succ_eq_append_getElem hi, List.any_append, List.any_cons, List.any_nil, Bool.or_false, Bool.not_or, Bool.and_assoc]
theorem tp_row {L : List Lk} (hg : Good L) : mrow L (tpF L L.length) = mrow L (inS (chl L (numS L))) := by
  refine mrow_congr fun k hk => ?_
  have hkn : k.num ∈ nums L := List.mem_map.2 ⟨k, hk, rfl⟩
  rw [chl_in (good_asc hg)]
  unfold tpF
  rw [List.take_length, inS_num hg]
  congr 2
  rw [Bool.eq_iff_iff, List.any_eq_true, List.any_eq_true]
  have hj : ∀ j ∈ L, inS (numS L) j.num = true := fun j hj => by
    rw [inS_num hg]
    have : j.num ∈ nums L := List.mem_map.2 ⟨j, hj, rfl⟩
    simpa [List.contains_eq_mem] using this
  constructor
  · rintro ⟨j, h1, h2⟩; exact ⟨j, h1, by rw [hj j h1, h2]; rfl⟩
  · rintro ⟨j, h1, h2⟩; exact ⟨j, h1, by rw [hj j h1] at h2; simpa using h2⟩
end Go.Proofs.Ytdpkcmagegiadaa
