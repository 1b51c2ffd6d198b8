/-
  Links in the world; what a graph is. The contracts of numbers, rising and childless.
-/
import Derived.Test.YthhdpabelcgfjaaEgA
namespace Go.Proofs.Ythhdpabelcgfjaa.dg
open Go.Maps Go.WideShapes Go.RowKit Go.ChangeShapes Go.ChangeAt Go.PlainAid

/-- A commit. -/
structure Lk where
  num : Int
  ps : List Int
structure Lk.Ok (k : Lk) : Prop where
  n0 : -9223372036854775808 ≤ k.num
  n1 : k.num ≤ 9223372036854775807
  pl : k.ps.length ≤ maxLen
  pb : ∀ p ∈ k.ps, -9223372036854775808 ≤ p ∧ p ≤ 9223372036854775807

/-- At v lie links. -/
def RdL (W : World) (v : Value) (L : List Lk) : Prop :=
  ∃ ao cp, v = .slice ao L.length cp ∧ (L.length ≤ cp ∧ (ao = none → cp = 0)) ∧ ∀ (i : Nat) (k : Lk), L[i]? = some k → ∃ b off pv, ao = some ⟨b, off, none⟩ ∧ b < W.heap.size ∧ W.cell? ⟨b, off + i * 2, none⟩ = some (.int .i64 k.num) ∧ W.cell? ⟨b, off + i * 2 + 1, none⟩ = some pv ∧ RdI W pv k.ps
theorem RdL.below {W W' : World} {v : Value} {L : List Lk} (h : RdL W v L) (hb : Below W.heap.size W W') : RdL W' v L := by
  obtain ⟨ao, cp, h1, h0, h2⟩ := h
  refine ⟨ao, cp, h1, h0, fun i k hk => ?_⟩
  obtain ⟨b, off, pv, e1, e2, e3, e4, e5⟩ := h2 i k hk
  exact ⟨b, off, pv, e1, Nat.lt_of_lt_of_le e2 hb.size, (hb.cell (p := ⟨b, off + i * 2, none⟩) e2).trans e3, (hb.cell (p := ⟨b, off + i * 2 + 1, none⟩) e2).trans e4, e5.below hb⟩
theorem RdL.map {W W' : World} {v : Value} {L : List Lk} {g : Nat} {f : Nat → Bool} (h : RdL W v L) (hs : IsSet W g f) (ho : Only [g] W W') : RdL W' v L := by
  obtain ⟨ao, cp, h1, h0, h2⟩ := h
  refine ⟨ao, cp, h1, h0, fun i k hk => ?_⟩
  obtain ⟨b, off, pv, e1, e2, e3, e4, e5⟩ := h2 i k hk
  have hne := map_ne hs e3
  exact ⟨b, off, pv, e1, Nat.lt_of_lt_of_le e2 ho.size, only_cell ho e2 (by simp [hne]) e3, only_cell ho e2 (by simp [hne]) e4, e5.map hs ho⟩

/-- Their numbers. -/
def nums (L : List Lk) : List Int := L.map (·.num)
/-- .. as a set. -/
def numS (L : List Lk) : Nat → Bool := fun i => (nums L).contains (i : Int)
/-- The last one's number. -/
def lastN (L : List Lk) : Int := (L.getLast?.map (·.num)).getD 0
/-- A link fits behind links. -/
structure Fits (P : List Lk) (k : Lk) : Prop where
  lo : lastN P < k.num
  hi : k.num ≤ 300
  two : k.ps.length ≤ 2
  mem : ∀ p ∈ k.ps, p ∈ nums P
  nd : k.ps.Nodup
/-- Links are a graph. -/
def Good (L : List Lk) : Prop := ∀ i (h : i < L.length), Fits (L.take i) L[i]

theorem nums_snoc (P : List Lk) (k : Lk) : nums (P ++ [k]) = nums P ++ [k.num] := by simp [nums]
theorem lastN_snoc (P : List Lk) (k : Lk) : lastN (P ++ [k]) = k.num := by simp [lastN]
theorem good_nil : Good [] := fun i h => by simp at h
theorem good_take {L : List Lk} (h : Good L) (n : Nat) : Good (L.take n) := by
  intro i hi
  have hi2 : i < L.length := by rw [List.length_take] at hi; omega
  have hin : i < n := by rw [List.length_take] at hi; omega
  have := h i hi2
  rw [List.take_take, Nat.min_eq_left (by omega), List.getElem_take]
  exact this
theorem good_snoc {L : List Lk} {n : Nat} (h : Good (L.take n)) (hn : n < L.length) (hf : Fits (L.take n) L[n]) : Good (L.take (n + 1)) := by
  intro i hi
  have hi2 : i < n + 1 := by rw [List.length_take] at hi; omega
  rw [List.take_take, Nat.min_eq_left (by omega), List.getElem_take]
  by_cases e : i = n
  · subst e; exact hf
  · have := h i (by rw [List.length_take]; omega)
    rw [List.take_take, Nat.min_eq_left (by omega), List.getElem_take] at this
    exact this
theorem good_bd {L : List Lk} (h : Good L) : (∀ x ∈ nums L, 1 ≤ x ∧ x ≤ 300) ∧ 0 ≤ lastN L ∧ (∀ x ∈ nums L, x ≤ lastN L) ∧ lastN L ≤ 300 := by
  have key : ∀ n, n ≤ L.length → (∀ x ∈ nums (L.take n), 1 ≤ x ∧ x ≤ 300) ∧ 0 ≤ lastN (L.take n) ∧ (∀ x ∈ nums (L.take n), x ≤ lastN (L.take n)) ∧ lastN (L.take n) ≤ 300 := by
    intro n
    induction n with
    | zero => intro _; simp [nums, lastN]
    | succ n ih =>
      intro hn
      obtain ⟨h1, h2, h3, h4⟩ := ih (by omega)
      have hf := h n (by omega)
      rw [List.take_succ_eq_append_getElem (by omega), nums_snoc, lastN_snoc]
      have hlo := hf.lo
      have hhi := hf.hi
      refine ⟨fun x hx => ?_, by omega, fun x hx => ?_, hhi⟩
      · rcases List.mem_append.1 hx with hx | hx
        · exact h1 x hx
        · simp at hx; omega
      · rcases List.mem_append.1 hx with hx | hx
        · have := h3 x hx; omega
        · simp at hx; omega
  have := key L.length (Nat.le_refl _)
  rwa [List.take_length] at this
theorem good_len {L : List Lk} (h : Good L) : (L.length : Int) ≤ lastN L := by
  have key : ∀ n, n ≤ L.length → (n : Int) ≤ lastN (L.take n) := by
    intro n
    induction n with
    | zero => intro _; simp [lastN]
    | succ n ih =>
      intro hn
      have h1 := ih (by omega)
      have hf := (h n (by omega)).lo
      rw [List.take_succ_eq_append_getElem (by omega), lastN_snoc]
      omega
  have := key L.length (Nat.le_refl _)
  rwa [List.take_length] at this

theorem numS_snoc (P : List Lk) (k : Lk) : putL (numS P) [k.num] = numS (P ++ [k]) := by
  funext i
  unfold putL numS
  rw [nums_snoc]
  simp [List.contains_eq_mem]
theorem inS_nums {P : List Lk} (h : ∀ x ∈ nums P, 1 ≤ x ∧ x ≤ 300) (k : Int) : inS (numS P) k = (nums P).contains k := by
  unfold inS numS
  by_cases h0 : 0 ≤ k
  · by_cases h1 : k < 512
    · rw [Int.toNat_of_nonneg h0]; simp [h0, h1]
    · have : k ∉ nums P := fun hk => by have := h k hk; omega
      simp [h1, List.contains_eq_mem, this]
  · have : k ∉ nums P := fun hk => by have := h k hk; omega
    simp [h0, List.contains_eq_mem, this]

theorem cnt_set {f : Nat → Bool} {k : Nat} (hf : f k = false) : ∀ N, ((List.range N).filter (setF f k true)).length = ((List.range N).filter f).length + (if k < N then 1 else 0)
  | 0 => by simp
  | N + 1 => by
    rw [List.range_succ, List.filter_append, List.filter_append, List.length_append, List.length_append, cnt_set hf N]
    by_cases e : N = k
    · subst e
      simp [setF, hf]
    · have e2 : setF f k true N = f N := by unfold setF; rw [if_neg e]
      have e3 : [N].filter (setF f k true) = [N].filter f := by simp [List.filter_cons, e2]
      rw [e3]
      by_cases h : k < N
      · rw [if_pos h, if_pos (by omega)]; omega
      · rw [if_neg h, if_neg (by omega)]; omega
theorem cnt_good {L : List Lk} (h : Good L) : ((List.range 512).filter (numS L)).length = L.length := by
  have key : ∀ n, n ≤ L.length → ((List.range 512).filter (numS (L.take n))).length = n := by
    intro n
    induction n with
    | zero =>
      intro _
      have : ∀ l : List Nat, l.filter (numS (L.take 0)) = [] := fun l => by
        rw [List.filter_eq_nil_iff]
        intro i _
        simp [numS, nums]
      rw [this]; rfl
    | succ n ih =>
      intro hn
      have h1 := ih (by omega)
      have hg := good_bd (good_take h n)
      have hf := h n (by omega)
      have hlo := hf.lo
      have hhi := hf.hi
      obtain ⟨x, hx⟩ := Int.eq_ofNat_of_zero_le (show 0 ≤ L[n].num by omega)
      have hnot : numS (L.take n) x = false := by
        unfold numS
        rw [Bool.eq_false_iff]
        intro hc
        have := hg.2.2.1 x (by simpa [List.contains_eq_mem] using hc)
        omega
      rw [List.take_succ_eq_append_getElem (by omega), ← numS_snoc, hx]
      have e := putL_snoc (numS (L.take n)) [] x
      rw [putL_nil, List.nil_append] at e
      rw [← e, cnt_set hnot, h1, if_pos (by omega)]
  have := key L.length (Nat.le_refl _)
  rwa [List.take_length] at this
theorem size_good {L : List Lk} (h : Good L) : Maps.size (SD (numS L)) = L.length := by rw [size_SD, cnt_good h]

theorem nodup_two {l : List Int} (h2 : l.length ≤ 2) (h : ∀ i (hi : i < l.length), 0 < i → l[i] ≠ l[i - 1]) : l.Nodup := by
  match l, h2 with
  | [], _ => simp
  | [a], _ => simp
  | [a, b], _ =>
    have := h 1 (by simp) (by omega)
    simp at this ⊢
    exact fun e => this e.symm
theorem nodup_adj {l : List Int} (h : l.Nodup) (i : Nat) (hi : i < l.length) (h0 : 0 < i) : l[i] ≠ l[i - 1] := by
  intro e
  exact List.pairwise_iff_getElem.1 h (i - 1) i (by omega) hi (by omega) e.symm

/-- What is marked, in the order of links. -/
def ris (L : List Lk) (m : Nat → Bool) : List Int := (nums L).filter (inS m)
theorem ris_take {L : List Lk} {m : Nat → Bool} {n : Nat} (h : n < L.length) : ris (L.take (n + 1)) m = ris (L.take n) m ++ (if inS m L[n].num then [L[n].num] else []) := by
  rw [List.take_succ_eq_append_getElem h]
  unfold ris
  rw [nums_snoc, List.filter_append]
  congr 1
  cases e : inS m L[n].num <;> simp [e]

/-- Numbers as cells. -/
def icells (l : List Int) : List Value := l.map fun x => .int .i64 x
theorem Try.infoI : (Try.prog.info? 3).map (fun i => (i.zero, i.size, i.bytes)) = some (some (.int .i64 0), 1, 8) := by kernel_rfl
theorem rdi_own {W : World} {B : Nat} {v : Value} {l : List Int} (h : W.ownsRow B 3 1 v l.length (icells l)) : RdI W v l := by
  rcases h.2 with ⟨rfl, h0⟩ | ⟨g, cap, cur, rfl, hb, hg, hn, _, hc, ht⟩
  · have : l = [] := List.eq_nil_of_length_eq_zero h0
    subst this
    exact RdI.nil W
  · refine ⟨_, cap, rfl, fun i o ho => ⟨g, 0, rfl, (h.lt g rfl).2, ?_⟩⟩
    have hadd : ∀ j, (⟨g, 0, none⟩ : Addr).add j = ⟨g, 0 + j, none⟩ := fun j => by unfold Addr.add; split <;> simp_all
    have g0 := h.cells (g := g) rfl i (.int .i64 o) (by simp [icells, ho])
    rw [hadd] at g0
    exact g0
theorem own_belowG {w w' : World} {base e z n : Nat} {v : Value} {L : List Value} (h : w.ownsRow base e z v n L) (hb : Below w.heap.size w w') : w'.ownsRow base e z v n L :=
  h.kept (row := none) ⟨hb.os, hb.tape, hb.output, hb.size, fun k hk _ => hb.block k hk⟩ (by cases v.ownBlock <;> simp)
theorem one_one (x : Value) (h : x.oneCell' = true) : ∀ u ∈ [x], u.oneCell' = true := by intro u hu; simp at hu; subst hu; exact h
theorem one_new (wr : World) (x : Value) (e : Nat) : ∀ j u, [x][j]? = some u → (wr.alloc (.cells #[x] e)).cell? ((⟨wr.heap.size, 0, none⟩ : Addr).add j) = some u := by
  intro j u hj
  match j, hj with
  | 0, hj => simp at hj; subst hj; simp [Addr.add]
end Go.Proofs.Ythhdpabelcgfjaa.dg
