/-
  A normal delta, place by place, as a word; what transforming makes of words. No walk.
-/
import Derived.Test.YtphbjbigjpfjfabOtX
import Derived.Test.YtphbjbigjpfjfabOtO
namespace Go.Proofs.Ytphbjbigjpfjfab
open Go.RowKit Go.PlainAid

/-! ### Places and words -/

def kU (k : Int) : List U := if k = 1 then [.K] else if k = 3 then [.R] else []
def spU (s : Spot) : List U := (pts s.put).map .I ++ kU s.k
def spW (l : List Spot) : List U := (l.map spU).flatten
theorem spW_cons (s : Spot) (l : List Spot) : spW (s :: l) = spU s ++ spW l := by simp [spW]
theorem spW_append (a b : List Spot) : spW (a ++ b) = spW a ++ spW b := by simp [spW]
theorem pts_nil : pts ⟨#[]⟩ = [] := by rw [pts, cpl_nil]; rfl

/-- Nothing put in is behind something put in; b: something was put in right ahead. -/
def alt : Bool → List St → Prop
  | _, [] => True
  | b, .ins _ :: l => b = false ∧ alt true l
  | _, .keep _ :: l => alt false l
  | _, .rem _ :: l => alt false l
theorem spW_reps (k : Int) : ∀ (n : Nat) (p : ByteArray), spW (reps p k (n + 1)) = (pts p).map .I ++ (List.replicate (n + 1) (kU k)).flatten
  | 0, p => by simp [reps, spW, spU]
  | n + 1, p => by
    rw [reps, spW_cons, spW_reps k n, pts_nil, spU]
    simp only [List.map_nil, List.nil_append, List.append_assoc]
    rw [List.replicate_succ (n := n + 1), List.flatten_cons]
theorem flat_K (n : Nat) : (List.replicate n (kU 1)).flatten = List.replicate n .K := by
  induction n with
  | zero => rfl
  | succ n ih => rw [List.replicate_succ, List.flatten_cons, ih, List.replicate_succ]; rfl
theorem flat_R (n : Nat) : (List.replicate n (kU 3)).flatten = List.replicate n .R := by
  induction n with
  | zero => rfl
  | succ n ih => rw [List.replicate_succ, List.flatten_cons, ih, List.replicate_succ]; rfl
/-- The places of a delta in which nothing is put in twice have its word. -/
theorem spots_word : ∀ (ds : List St) (p : ByteArray) (b : Bool), alt b ds → (b = false → pts p = []) → (∀ s ∈ ds, s.Ok) → spW (spots ds p) = (pts p).map .I ++ uw ds
  | [], p, b, _, _, _ => by simp [spots, spW, spU, kU, uw]
  | .ins t :: ds, p, b, h, hp, ho => by
    rw [spots, spots_word ds t true h.2 (by simp) (fun s hs => ho s (by simp [hs])), hp h.1, uw_cons]
    rfl
  | .keep n :: ds, p, b, h, hp, ho => by
    have h1 := (ho (.keep n) (by simp)).1
    obtain ⟨m, rfl⟩ : ∃ m, n = m + 1 := ⟨n - 1, by omega⟩
    rw [spots, spW_append, spots_word ds ⟨#[]⟩ false h (fun _ => pts_nil) (fun s hs => ho s (by simp [hs])), spW_reps, flat_K, pts_nil, uw_cons]
    simp [St.u]
  | .rem n :: ds, p, b, h, hp, ho => by
    have h1 := (ho (.rem n) (by simp)).1
    obtain ⟨m, rfl⟩ : ∃ m, n = m + 1 := ⟨n - 1, by omega⟩
    rw [spots, spW_append, spots_word ds ⟨#[]⟩ false h (fun _ => pts_nil) (fun s hs => ho s (by simp [hs])), spW_reps, flat_R, pts_nil, uw_cons]
    simp [St.u]

/-! ### Normal forms put in nothing twice -/

def altP : Bool → List PS → Prop
  | _, [] => True
  | b, .ins _ :: l => b = false ∧ altP true l
  | _, .keep _ :: l => altP false l
  | _, .rem _ :: l => altP false l
theorem alt_of : ∀ (l : List PS) (b : Bool), altP b l → alt b (l.map PS.st)
  | [], _, _ => trivial
  | .ins _ :: l, _, h => ⟨h.1, alt_of l true h.2⟩
  | .keep _ :: l, _, h => alt_of l false h
  | .rem _ :: l, _, h => alt_of l false h
theorem altP_keep : ∀ (l r : List PS) (n : Nat) (b : Bool), altP b l → altP false r → altP b (l ++ .keep n :: r)
  | [], _, _, _, _, h => h
  | .ins _ :: l, r, n, _, h, k => ⟨h.1, altP_keep l r n true h.2 k⟩
  | .keep _ :: l, r, n, _, h, k => altP_keep l r n false h k
  | .rem _ :: l, r, n, _, h, k => altP_keep l r n false h k
def flushQ (p : List Int) (g : Nat) : List PS := (if 0 < p.length then [.ins p] else []) ++ (if 0 < g then [.rem g] else [])
theorem altP_q (p : List Int) (g : Nat) : altP false (flushQ p g) := by
  unfold flushQ
  by_cases h1 : 0 < p.length <;> by_cases h2 : 0 < g <;> simp [h1, h2, altP]
theorem altP_flush {D : List PS} {k : Nat} (p : List Int) (g : Nat) (h : altP false D) (h2 : D = [] ∨ 0 < k) : altP false (D ++ flushP k p g) := by
  have e : flushP k p g = (if 0 < k then [PS.keep k] else []) ++ flushQ p g := rfl
  rw [e]
  by_cases hk : 0 < k
  · rw [if_pos hk]
    exact altP_keep D _ k false h (altP_q p g)
  · rw [if_neg hk]
    rcases h2 with rfl | h2
    · exact altP_q p g
    · exact absurd h2 hk
theorem altP_ju : ∀ (w : List U) (σ : JU), altP false σ.D → (σ.D = [] ∨ 0 < σ.kept) → altP false (ju σ w).out
  | [], σ, h1, h2 => altP_flush _ _ h1 h2
  | .K :: w, σ, h1, h2 => by
    rw [ju_cons, JU.add]
    split
    · exact altP_ju w _ (altP_flush _ _ h1 h2) (.inr (by simp))
    · exact altP_ju w _ h1 (.inr (by simp))
  | .R :: w, σ, h1, h2 => by rw [ju_cons]; exact altP_ju w _ h1 h2
  | .I z :: w, σ, h1, h2 => by rw [ju_cons]; exact altP_ju w _ h1 h2
theorem alt_nf (w : List U) : alt false ((nfU w).map PS.st) := alt_of _ _ (altP_ju w _ trivial (.inl rfl))

/-- The places of a delta's normal form. -/
def nS (A : List OpD) : List Spot := spots (stR (jn (stR A))) ⟨#[]⟩
theorem stR_jn {A : List OpD} (iA : ∀ o ∈ A, o.In) : stR (jn (stR A)) = (nfU (uw (stR A))).map PS.st ∧ (∀ s ∈ nfU (uw (stR A)), s.Ok) := by
  have ho := stR_ok iA
  have bd := stR_bd A
  have hn := nf_ok (ptsU_uw ho)
  have he := nf_eqv (uw (stR A))
  have hb : baseU (pw (nfU (uw (stR A)))) = bsum (stR A) := by rw [he.1, base_uw]
  have ht : targU (pw (nfU (uw (stR A)))) = tsum (stR A) := by rw [he.targ, targ_uw]
  obtain ⟨_, c2⟩ := chk_ps hn (by omega) (by omega)
  rw [← jn_eq ho] at c2
  exact ⟨c2, hn⟩
/-- Their word, and what stands there. -/
theorem nS_word {A : List OpD} (iA : ∀ o ∈ A, o.In) : spW (nS A) = uw (stR (jn (stR A))) := by
  have bd := stR_bd A
  have jA := jn_in (stR_ok iA) bd.1 bd.2
  rw [nS, spots_word _ _ false (by rw [(stR_jn iA).1]; exact alt_nf _) (fun _ => pts_nil) (stR_ok jA.2), pts_nil]
  rfl
theorem nS_ok {A : List OpD} (iA : ∀ o ∈ A, o.In) : ∀ s ∈ nS A, s.Ok ∧ PutOk s.put := by
  have bd := stR_bd A
  have jA := jn_in (stR_ok iA) bd.1 bd.2
  have n5 := (normal_facts (stR_ok iA) bd.1 bd.2).2.2.2.2
  exact spots_ok _ _ putOk_nil (fun s hs => ⟨stR_ok jA.2 s hs, by have := c_le hs; omega⟩)

/-! ### Kinds -/

/-- Ks of the base, one behind the other, and the end. -/
def Kd : List Spot → Prop
  | [] => False
  | [s] => s.k = 0
  | s :: t :: l => (s.k = 1 ∨ s.k = 3) ∧ Kd (t :: l)
theorem kd_cons {s : Spot} {l : List Spot} (hs : s.k = 1 ∨ s.k = 3) (h : Kd l) : Kd (s :: l) := by
  cases l with
  | nil => exact h.elim
  | cons t l => exact ⟨hs, h⟩
theorem kd_reps {k : Int} (hk : k = 1 ∨ k = 3) : ∀ (n : Nat) (p : ByteArray) (l : List Spot), Kd l → Kd (reps p k n ++ l)
  | 0, _, _, h => h
  | n + 1, _, l, h => kd_cons hk (kd_reps hk n _ l h)
theorem kd_spots : ∀ (ds : List St) (p : ByteArray), Kd (spots ds p)
  | [], _ => rfl
  | .ins t :: ds, _ => kd_spots ds t
  | .keep n :: ds, p => kd_reps (.inl rfl) n p _ (kd_spots ds _)
  | .rem n :: ds, p => kd_reps (.inr rfl) n p _ (kd_spots ds _)
/-- Two rows of places of one base. -/
inductive Al2 : List Spot → List Spot → Prop where
  | last {x y : Spot} (hx : x.k = 0) (hy : y.k = 0) : Al2 [x] [y]
  | more {x y : Spot} {a b : List Spot} (hx : x.k = 1 ∨ x.k = 3) (hy : y.k = 1 ∨ y.k = 3) (h : Al2 a b) : Al2 (x :: a) (y :: b)
theorem al2_of : ∀ (a b : List Spot), Kd a → Kd b → a.length = b.length → Al2 a b
  | [], _, h, _, _ => h.elim
  | _ :: _, [], _, h, _ => h.elim
  | [x], [y], hx, hy, _ => .last hx hy
  | [x], y :: z :: b, _, _, h => by simp at h
  | x :: z :: a, [y], _, _, h => by simp at h
  | x :: z :: a, y :: t :: b, hx, hy, h => .more hx.1 hy.1 (al2_of (z :: a) (t :: b) hx.2 hy.2 (by simpa using h))
theorem Al2.symm {a b : List Spot} (h : Al2 a b) : Al2 b a := by
  induction h with
  | last hx hy => exact .last hy hx
  | more hx hy _ ih => exact .more hy hx ih

/-! ### What transforming makes -/

def outU (first : Bool) (x y : Spot) : List U := (if first then (pts x.put).map .I ++ List.replicate (pts y.put).length .K else List.replicate (pts y.put).length .K ++ (pts x.put).map .I) ++ (if y.k = 1 then kU x.k else [])
def tfU (first : Bool) (SA SB : List Spot) : List U := (List.zipWith (outU first) SA SB).flatten
theorem tfU_cons (f : Bool) (x y : Spot) (a b : List Spot) : tfU f (x :: a) (y :: b) = outU f x y ++ tfU f a b := by simp [tfU]

theorem mkU_Ks (n i : Nat) : mkU i (List.replicate n .K) = (List.range' i n).map .inl := by
  induction n generalizing i with
  | zero => rfl
  | succ n ih => rw [List.replicate_succ, mkU, ih, List.range'_succ, List.map_cons]
theorem base_kU (k : Int) (h : k = 1 ∨ k = 3) : baseU (kU k) = 1 := by rcases h with rfl | rfl <;> rfl
theorem base_spU {s : Spot} (h : s.k = 1 ∨ s.k = 3) : baseU (spU s) = 1 := by rw [spU, baseU_append, baseU_I, base_kU _ h]
theorem base_end {s : Spot} (h : s.k = 0) : baseU (spU s) = 0 := by rw [spU, baseU_append, baseU_I, h]; rfl
/-- The marks of one place. -/
def mkP (i : Nat) (s : Spot) : List (Nat ⊕ Int) := (pts s.put).map .inr ++ (if s.k = 1 then [.inl i] else [])
theorem mkU_spU (i : Nat) (s : Spot) : mkU i (spU s) = mkP i s := by
  rw [spU, mkU_append, mkU_I, baseU_I, mkP]
  congr 1
  unfold kU
  split
  · rfl
  · split <;> rfl
theorem base_outU (f : Bool) (x y : Spot) (hy : y.k = 0 ∨ x.k = 1 ∨ x.k = 3) (i : Nat) : baseU (outU f x y) = (mkP i y).length := by
  rw [outU, baseU_append]
  have h1 : baseU (if f then (pts x.put).map .I ++ List.replicate (pts y.put).length .K else List.replicate (pts y.put).length .K ++ (pts x.put).map .I) = (pts y.put).length := by
    cases f <;> simp only [if_true, Bool.false_eq_true, if_false, baseU_append, baseU_I, baseU_K] <;> omega
  rw [h1, mkP, List.length_append, List.length_map]
  congr 1
  by_cases hk : y.k = 1
  · rw [if_pos hk, if_pos hk]
    rcases hy with h | h
    · omega
    · rw [base_kU _ h]; rfl
  · rw [if_neg hk, if_neg hk]; rfl

theorem sub_at {M : List (Nat ⊕ Int)} {j : Nat} {L R : List (Nat ⊕ Int)} (h : M.drop j = L ++ R) : ((List.range' j L.length).map Sum.inl).map (sub M) = L := by
  apply List.ext_getElem
  · simp
  · intro t h1 h2
    have e : M[j + t]? = some L[t] := by
      have := List.getElem?_drop (xs := M) (i := j) (j := t)
      rw [← this, h, List.getElem?_append_left h2, List.getElem?_eq_getElem h2]
    simp [sub, e]
theorem map_inr_sub (M : List (Nat ⊕ Int)) (l : List Int) : (l.map (Sum.inr (α := Nat))).map (sub M) = l.map Sum.inr := by
  rw [List.map_map]
  exact List.map_congr_left (fun _ _ => rfl)

/-- The marks of both. -/
def mgO (f : Bool) : Nat → List Spot → List Spot → List (Nat ⊕ Int)
  | i, x :: a, y :: b => ((if f then pts x.put ++ pts y.put else pts y.put ++ pts x.put).map .inr ++ (if x.k = 1 ∧ y.k = 1 then [.inl i] else [])) ++ mgO f (i + 1) a b
  | _, _, _ => []
theorem mgO_symm : ∀ (f : Bool) (a b : List Spot) (i : Nat), mgO (!f) i b a = mgO f i a b
  | f, x :: a, y :: b, i => by
    rw [mgO, mgO, mgO_symm f a b]
    congr 2
    · cases f <;> rfl
    · by_cases h1 : x.k = 1 <;> by_cases h2 : y.k = 1 <;> simp [h1, h2]
  | f, [], _, i => by simp [mgO]
  | f, _ :: _, [], i => by simp [mgO]

theorem out_marks {f : Bool} {x y : Spot} {M R : List (Nat ⊕ Int)} {i j : Nat} (h : M.drop j = mkP i y ++ R) (hx : x.k = 1 ∨ x.k = 3 ∨ (x.k = 0 ∧ y.k = 0)) :
    (mkU j (outU f x y)).map (sub M) = (if f then pts x.put ++ pts y.put else pts y.put ++ pts x.put).map .inr ++ (if x.k = 1 ∧ y.k = 1 then [.inl i] else []) := by
  have hP : M.drop j = (pts y.put).map .inr ++ ((if y.k = 1 then [.inl i] else []) ++ R) := by rw [h, mkP, List.append_assoc]
  have s1 : ((List.range' j (pts y.put).length).map Sum.inl).map (sub M) = (pts y.put).map .inr := by
    have := sub_at hP
    rwa [List.length_map] at this
  have hd : M.drop (j + (pts y.put).length) = (if y.k = 1 then [.inl i] else []) ++ R := by
    rw [← List.drop_drop, hP, List.drop_left' (by simp)]
  have e1 : (mkU j (if f then (pts x.put).map .I ++ List.replicate (pts y.put).length .K else List.replicate (pts y.put).length .K ++ (pts x.put).map .I)).map (sub M) = (if f then pts x.put ++ pts y.put else pts y.put ++ pts x.put).map .inr := by
    cases f
    · simp only [Bool.false_eq_true, if_false]
      rw [mkU_append, mkU_Ks, mkU_I, List.map_append, s1, map_inr_sub, List.map_append]
    · simp only [if_true]
      rw [mkU_append, mkU_Ks, mkU_I, baseU_I, Nat.add_zero, List.map_append, s1, map_inr_sub, List.map_append]
  have hb : baseU (if f then (pts x.put).map .I ++ List.replicate (pts y.put).length .K else List.replicate (pts y.put).length .K ++ (pts x.put).map .I) = (pts y.put).length := by
    cases f <;> simp only [if_true, Bool.false_eq_true, if_false, baseU_append, baseU_I, baseU_K] <;> omega
  rw [outU, mkU_append, List.map_append, e1, hb]
  congr 1
  by_cases hy : y.k = 1
  · rw [if_pos hy] at hd ⊢
    rcases hx with hx | hx | hx
    · rw [hx, if_pos ⟨rfl, hy⟩]
      have := sub_at (L := [.inl i]) hd
      simpa [kU, mkU] using this
    · rw [hx]
      simp [kU, mkU]
    · omega
  · rw [if_neg hy, if_neg (fun h => hy h.2)]
    rfl
/-- The marks of a behind b, with b's put in, are the marks of both. -/
theorem tf_marks (f : Bool) : ∀ {a b : List Spot}, Al2 a b → ∀ (M : List (Nat ⊕ Int)) (i j : Nat), M.drop j = mkU i (spW b) → (mkU j (tfU f a b)).map (sub M) = mgO f i a b := by
  intro a b h
  induction h with
  | last hx hy =>
    rename_i x y
    intro M i j hM
    rw [spW_cons, mkU_append, mkU_spU] at hM
    rw [tfU_cons, mkU_append, List.map_append, out_marks hM (.inr (.inr ⟨hx, hy⟩)), mgO]
    simp [tfU, mgO, mkU]
  | more hx hy h ih =>
    rename_i x y a b
    intro M i j hM
    rw [spW_cons, mkU_append, mkU_spU, base_spU hy] at hM
    rw [tfU_cons, mkU_append, List.map_append, out_marks hM (by omega), mgO]
    congr 1
    refine ih M (i + 1) _ ?_
    rw [base_outU f x y (.inr hx) i, ← List.drop_drop, hM, List.drop_left' rfl]
theorem tf_base (f : Bool) {a b : List Spot} (h : Al2 a b) : baseU (tfU f a b) = tgtU (spW b) := by
  rw [← tgt_marks _ 0]
  induction h with
  | last hx hy =>
    rename_i x y
    rw [tfU_cons, spW_cons, baseU_append, mkU_append, List.length_append, mkU_spU, base_outU f x y (.inl hy) 0]
    simp [tfU, spW, baseU, mkU]
  | more hx hy h ih =>
    rename_i x y a b
    rw [tfU_cons, spW_cons, baseU_append, mkU_append, List.length_append, mkU_spU, base_outU f x y (.inr hx) 0, ih, mkU_len _ (0 + baseU (spU y)) 0]
theorem al_base {a b : List Spot} (h : Al2 a b) : baseU (spW a) = baseU (spW b) := by
  induction h with
  | last hx hy => rw [spW_cons, spW_cons, baseU_append, baseU_append, base_end hx, base_end hy]
  | more hx hy _ ih => rw [spW_cons, spW_cons, baseU_append, baseU_append, base_spU hx, base_spU hy, ih]
/-- Each behind the other: the same marks, the same base. -/
theorem meet_words (f : Bool) {a b : List Spot} (h : Al2 a b) : Eqv (cmp (spW a) (tfU (!f) b a)) (cmp (spW b) (tfU f a b)) := by
  have b1 := tf_base (!f) h.symm
  have b2 := tf_base f h
  refine ⟨?_, fun i => ?_⟩
  · rw [cmp_base _ _ b1.symm, cmp_base _ _ b2.symm, al_base h]
  · rw [cmp_marks _ _ i b1.symm, cmp_marks _ _ i b2.symm, tf_marks (!f) h.symm (mkU i (spW a)) i 0 rfl, tf_marks f h (mkU i (spW b)) i 0 rfl, mgO_symm]
end Go.Proofs.Ytphbjbigjpfjfab
