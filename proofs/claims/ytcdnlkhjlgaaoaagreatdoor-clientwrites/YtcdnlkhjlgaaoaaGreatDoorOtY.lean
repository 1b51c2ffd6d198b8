/-
  A normal delta, place by place, as a word; what transforming makes of words. No walk.
-/
import Derived.Test.YtcdnlkhjlgaaoaaGreatDoorOtX
import Derived.Test.YtcdnlkhjlgaaoaaGreatDoorOtM
namespace Go.Proofs.YtcdnlkhjlgaaoaaGreatDoor
open Go.RowKit Go.PlainAid

/-! ### Places and words -/

def kU (k : Int) : List U := if k = 1 then [.K] else if k = 3 then [.R] else []
def spU (s : Spot) : List U := (pts s.put).map .I ++ kU s.k
def spW (l : List Spot) : List U := (l.map spU).flatten
theorem spW_cons (s : Spot) (l : List Spot) : spW (s :: l) = spU s ++ spW l := by simp [spW]
theorem spW_append (a b : List Spot) : spW (a ++ b) = spW a ++ spW b := by simp [spW]
theorem ptsNil : pts ⟨#[]⟩ = [] := by rw [pts, cpl_nil]; rfl

/-- Nothing put in is behind something put in; b: something was put in right ahead. -/
def alt : Bool → List St → Prop
  | _, [] => True
  | b, .ins _ :: l => b = false ∧ alt true l
  | _, .keep _ :: l => alt false l
  | _, .rem _ :: l => alt false l
theorem spW_reps (k : Int) : ∀ (n : Nat) (p : ByteArray), spW (reps p k (n + 1)) = (pts p).map .I ++ (List.replicate (n + 1) (kU k)).flatten
  | 0, p => by simp [reps, spW, spU]
  | n + 1, p => by
    rw [reps, spW_cons, spW_reps k n, ptsNil, spU]
    simp only [List.map_nil, List.nil_append, List.append_assoc]
    rw [List.replicate_succ (n := n + 1), List.flatten_cons]
theorem flat_K (n : Nat) : (List.replicate n (kU 1)).flatten = List.replicate n .K := by
  induction n with
  | zero => rfl
  | succ n ih => rw [List.replicate_succ, List.flatten_cons, ih, List.replicate_succ]; rfl
theorem flat_R (n : Nat) : (List.replicate n (kU 3)).flatten = List.replicate n .R := by
  induction n with
  | zero => rfl
  | succ n ih => rw [List.replicate_succ, List.flatten_cons, ih, List.replicate_succ]; rfl
/-- The places of a delta in which nothing is put in twice have its word. -/
theorem spots_word : ∀ (ds : List St) (p : ByteArray) (b : Bool), alt b ds → (b = false → pts p = []) → (∀ s ∈ ds, s.Ok) → spW (spots ds p) = (pts p).map .I ++ uw ds
  | [], p, b, _, _, _ => by simp [spots, spW, spU, kU, uw]
  | .ins t :: ds, p, b, h, hp, ho => by
    rw [spots, spots_word ds t true h.2 (by simp) (fun s hs => ho s (by simp [hs])), hp h.1, uw_cons]
    rfl
  | .keep n :: ds, p, b, h, hp, ho => by
    have h1 := (ho (.keep n) (by simp)).1
    obtain ⟨m, rfl⟩ : ∃ m, n = m + 1 := ⟨n - 1, by omega⟩
    rw [spots, spW_append, spots_word ds ⟨#[]⟩ false h (fun _ => ptsNil) (fun s hs => ho s (by simp [hs])), spW_reps, flat_K, ptsNil, uw_cons]
    simp [St.u]
  | .rem n :: ds, p, b, h, hp, ho => by
    have h1 := (ho (.rem n) (by simp)).1
    obtain ⟨m, rfl⟩ : ∃ m, n = m + 1 := ⟨n - 1, by omega⟩
    rw [spots, spW_append, spots_word ds ⟨#[]⟩ false h (fun _ => ptsNil) (fun s hs => ho s (by simp [hs])), spW_reps, flat_R, ptsNil, uw_cons]
    simp [St.u]

/-! ### Normal forms put in nothing twice -/

def altP : Bool → List PS → Prop
  | _, [] => True
  | b, .ins _ :: l => b = false ∧ altP true l
  | _, .keep _ :: l => altP false l
  | _, .rem _ :: l => altP false l
theorem alt_of : ∀ (l : List PS) (b : Bool), altP b l → alt b (l.map PS.st)
  | [], _, _ => trivial
  | .ins _ :: l, _, h => ⟨h.1, alt_of l true h.2⟩
  | .keep _ :: l, _, h => alt_of l false h
  | .rem _ :: l, _, h => alt_of l false h
theorem altP_keep : ∀ (l r : List PS) (n : Nat) (b : Bool), altP b l → altP false r → altP b (l ++ .keep n :: r)
  | [], _, _, _, _, h => h
  | .ins _ :: l, r, n, _, h, k => ⟨h.1, altP_keep l r n true h.2 k⟩
  | .keep _ :: l, r, n, _, h, k => altP_keep l r n false h k
  | .rem _ :: l, r, n, _, h, k => altP_keep l r n false h k
def flushQ (p : List Int) (g : Nat) : List PS := (if 0 < p.length then [.ins p] else []) ++ (if 0 < g then [.rem g] else [])
theorem altP_q (p : List Int) (g : Nat) : altP false (flushQ p g) := by
  unfold flushQ
  by_cases h1 : 0 < p.length <;> by_cases h2 : 0 < g <;> simp [h1, h2, altP]
theorem altP_flush {D : List PS} {k : Nat} (p : List Int) (g : Nat) (h : altP false D) (h2 : D = [] ∨ 0 < k) : altP false (D ++ flushP k p g) := by
  have e : flushP k p g = (if 0 < k then [PS.keep k] else []) ++ flushQ p g := rfl
  rw [e]
  by_cases hk : 0 < k
  · rw [if_pos hk]
    exact altP_keep D _ k false h (altP_q p g)
  · rw [if_neg hk]
    rcases h2 with rfl | h2
    · exact altP_q p g
    · exact absurd h2 hk
theorem altP_ju : ∀ (w : List U) (σ : JU), altP false σ.D → (σ.D = [] ∨ 0 < σ.kept) → altP false (ju σ w).out
  | [], σ, h1, h2 => altP_flush _ _ h1 h2
  | .K :: w, σ, h1, h2 => by
    rw [ju_cons, JU.add]
    split
    · exact altP_ju w _ (altP_flush _ _ h1 h2) (.inr (by simp))
    · exact altP_ju w _ h1 (.inr (by simp))
  | .R :: w, σ, h1, h2 => by rw [ju_cons]; exact altP_ju w _ h1 h2
  | .I z :: w, σ, h1, h2 => by rw [ju_cons]; exact altP_ju w _ h1 h2
theorem alt_nf (w : List U) : alt false ((nfU w).map PS.st) := alt_of _ _ (altP_ju w _ trivial (.inl rfl))

/-- The places of a delta's normal form. -/
def nS (A : List OpD) : List Spot := spots (stR (jn (stR A))) ⟨#[]⟩
theorem stR_jn {A : List OpD} (iA : ∀ o ∈ A, o.In) : stR (jn (stR A)) = (nfU (uw (stR A))).map PS.st ∧ (∀ s ∈ nfU (uw (stR A)), s.Ok) := by
  have ho := stR_ok iA
  have bd := stR_bd A
  have hn := nf_ok (ptsU_uw ho)
  have he := nf_eqv (uw (stR A))
  have hb : baseU (pw (nfU (uw (stR A)))) = bsum (stR A) := by rw [he.1, base_uw]
  have ht : targU (pw (nfU (uw (stR A)))) = tsum (stR A) := by rw [he.targ, targ_uw]
  obtain ⟨_, c2⟩ := chk_ps hn (by omega) (by omega)
  rw [← jn_eq ho] at c2
  exact ⟨c2, hn⟩
/-- Their word, and what stands there. -/
theorem nS_word {A : List OpD} (iA : ∀ o ∈ A, o.In) : spW (nS A) = uw (stR (jn (stR A))) := by
  have bd := stR_bd A
  have jA := jn_in (stR_ok iA) bd.1 bd.2
  rw [nS, spots_word _ _ false (by rw [(stR_jn iA).1]; exact alt_nf _) (fun _ => ptsNil) (stR_ok jA.2), ptsNil]
  rfl
theorem nS_ok {A : List OpD} (iA : ∀ o ∈ A, o.In) : ∀ s ∈ nS A, s.Ok ∧ PutOk s.put := by
  have bd := stR_bd A
  have jA := jn_in (stR_ok iA) bd.1 bd.2
  have n5 := (normal_facts (stR_ok iA) bd.1 bd.2).2.2.2.2
  exact spots_ok _ _ putOk_nil (fun s hs => ⟨stR_ok jA.2 s hs, by have := c_le hs; omega⟩)

/-! ### Kinds -/

/-- Ks of the base, one behind the other, and the end. -/
def Kd : List Spot → Prop
  | [] => False
  | [s] => s.k = 0
  | s :: t :: l => (s.k = 1 ∨ s.k = 3) ∧ Kd (t :: l)
theorem kd_cons {s : Spot} {l : List Spot} (hs : s.k = 1 ∨ s.k = 3) (h : Kd l) : Kd (s :: l) := by
  cases l with
  | nil => exact h.elim
  | cons t l => exact ⟨hs, h⟩
theorem kd_reps {k : Int} (hk : k = 1 ∨ k = 3) : ∀ (n : Nat) (p : ByteArray) (l : List Spot), Kd l → Kd (reps p k n ++ l)
  | 0, _, _, h => h
  | n + 1, _, l, h => kd_cons hk (kd_reps hk n _ l h)
theorem kd_spots : ∀ (ds : List St) (p : ByteArray), Kd (spots ds p)
  | [], _ => rfl
  | .ins t :: ds, _ => kd_spots ds t
  | .keep n :: ds, p => kd_reps (.inl rfl) n p _ (kd_spots ds _)
  | .rem n :: ds, p => kd_reps (.inr rfl) n p _ (kd_spots ds _)
/-- Two rows of places of one base. -/
inductive Al2 : List Spot → List Spot → Prop where
  | last {x y : Spot} (hx : x.k = 0) (hy : y.k = 0) : Al2 [x] [y]
  | more {x y : Spot} {a b : List Spot} (hx : x.k = 1 ∨ x.k = 3) (hy : y.k = 1 ∨ y.k = 3) (h : Al2 a b) : Al2 (x :: a) (y :: b)
theorem al2_of : ∀ (a b : List Spot), Kd a → Kd b → a.length = b.length → Al2 a b
  | [], _, h, _, _ => h.elim
  | _ :: _, [], _, h, _ => h.elim
  | [x], [y], hx, hy, _ => .last hx hy
  | [x], y :: z :: b, _, _, h => by simp at h
  | x :: z :: a, [y], _, _, h => by simp at h
  | x :: z :: a, y :: t :: b, hx, hy, h => .more hx.1 hy.1 (al2_of (z :: a) (t :: b) hx.2 hy.2 (by simpa using h))
theorem Al2.symm {a b : List Spot} (h : Al2 a b) : Al2 b a := by
  induction h with
  | last hx hy => exact .last hy hx
  | more hx hy _ ih => exact .more hy hx ih

/-! ### What transforming makes -/

def outU (first : Bool) (x y : Spot) : List U := (if first then (pts x.put).map .I ++ List.replicate (pts y.put).length .K else List.replicate (pts y.put).length .K ++ (pts x.put).map .I) ++ (if y.k = 1 then kU x.k else [])
def tfU (first : Bool) (SA SB : List Spot) : List U := (List.zipWith (outU first) SA SB).flatten
theorem tfU_cons (f : Bool) (x y : Spot) (a b : List Spot) : tfU f (x :: a) (y :: b) = outU f x y ++ tfU f a b := by simp [tfU]

theorem mkU_Ks (n i : Nat) : mkU i (List.replicate n .K) = (List.range' i n).map .inl := by
  induction n generalizing i with
  | zero => rfl
  | succ n ih => rw [List.replicate_succ, mkU, ih, List.range'_succ, List.map_cons]
theorem base_kU (k : Int) (h : k = 1 ∨ k = 3) : baseU (kU k) = 1 := by rcases h with rfl | rfl <;> rfl
theorem base_spU {s : Spot} (h : s.k = 1 ∨ s.k = 3) : baseU (spU s) = 1 := by rw [spU, baseU_append, baseU_I, base_kU _ h]
theorem base_end {s : Spot} (h : s.k = 0) : baseU (spU s) = 0 := by rw [spU, baseU_append, baseU_I, h]; rfl
/-- The marks of one place. -/
def mkP (i : Nat) (s : Spot) : List (Nat ⊕ Int) := (pts s.put).map .inr ++ (if s.k = 1 then [.inl i] else [])
theorem mkU_spU (i : Nat) (s : Spot) : mkU i (spU s) = mkP i s := by
  rw [spU, mkU_append, mkU_I, baseU_I, mkP]
  congr 1
  unfold kU
  split
  · rfl
  · split <;> rfl
theorem base_outU (f : Bool) (x y : Spot) (hy : y.k = 0 ∨ x.k = 1 ∨ x.k = 3) (i : Nat) : baseU (outU f x y) = (mkP i y).length := by
  rw [outU, baseU_append]
  have h1 : baseU (if f then (pts x.put).map .I ++ List.replicate (pts y.put).length .K else List.replicate (pts y.put).length .K ++ (pts x.put).map .I) = (pts y.put).length := by
    cases f <;> simp only [if_true, Bool.false_eq_true, if_false, baseU_append, baseU_I, baseU_K] <;> omega
  rw [h1, mkP, List.length_append, List.length_map]
  congr 1
  by_cases hk : y.k = 1
  · rw [if_pos hk, if_pos hk]
    rcases hy with h | h
    · omega
    · rw [base_kU _ h]; rfl
  · rw [if_neg hk, if_neg hk]; rfl

theorem sub_at {M : List (Nat ⊕ Int)} {j : Nat} {L R : List (Nat ⊕ Int)} (h : M.drop j = L ++ R) : ((List.range' j L.length).map Sum.inl).map (sub M) = L := by
  apply List.ext_getElem
  · simp
  · intro t h1 h2
    have e : M[j + t]? = some L[t] := by
      have := List.getElem?_drop (xs := M) (i := j) (j := t)
      rw [← this, h, List.getElem?_append_left h2, List.getElem?_eq_getElem h2]
    simp [sub, e]
theorem map_inr_sub (M : List (Nat ⊕ Int)) (l : List Int) : (l.map (Sum.inr (α := Nat))).map (sub M) = l.map Sum.inr := by
  rw [List.map_map]
  exact List.map_congr_left (fun _ _ => rfl)

/-- The marks of both. -/
def mgO (f : Bool) : Nat → List Spot → List Spot → List (Nat ⊕ Int)
  | i, x :: a, y :: b => ((if f then pts x.put ++ pts y.put else pts y.put ++ pts x.put).map .inr ++ (if x.k = 1 ∧ y.k = 1 then [.inl i] else [])) ++ mgO f (i + 1) a b
  | _, _, _ => []
theorem mgO_symm : ∀ (f : Bool) (a b : List Spot) (i : Nat), mgO (!f) i b a = mgO f i a b
  | f, x :: a, y :: b, i => by
    rw [mgO, mgO, mgO_symm f a b]
    congr 2
    · cases f <;> rfl
    · by_cases h1 : x.k = 1 <;> by_cases h2 : y.k = 1 <;> simp [h1, h2]
  | f, [], _, i => by simp [mgO]
  | f, _ :: _, [], i => by simp [mgO]

theorem out_marks {f : Bool} {x y : Spot} {M R : List (Nat ⊕ Int)} {i j : Nat} (h : M.drop j = mkP i y ++ R) (hx : x.k = 1 ∨ x.k = 3 ∨ (x.k = 0 ∧ y.k = 0)) :
    (mkU j (outU f x y)).map (sub M) = (if f then pts x.put ++ pts y.put else pts y.put ++ pts x.put).map .inr ++ (if x.k = 1 ∧ y.k = 1 then [.inl i] else []) := by
  have hP : M.drop j = (pts y.put).map .inr ++ ((if y.k = 1 then [.inl i] else []) ++ R) := by rw [h, mkP, List.append_assoc]
  have s1 : ((List.range' j (pts y.put).length).map Sum.inl).map (sub M) = (pts y.put).map .inr := by
    have := sub_at hP
    rwa [List.length_map] at this
  have hd : M.drop (j + (pts y.put).length) = (if y.k = 1 then [.inl i] else []) ++ R := by
    rw [← List.drop_drop, hP, List.drop_left' (by simp)]
  have e1 : (mkU j (if f then (pts x.put).map .I ++ List.replicate (pts y.put).length .K else List.replicate (pts y.put).length .K ++ (pts x.put).map .I)).map (sub M) = (if f then pts x.put ++ pts y.put else pts y.put ++ pts x.put).map .inr := by
    cases f
    · simp only [Bool.false_eq_true, if_false]
      rw [mkU_append, mkU_Ks, mkU_I, List.map_append, s1, map_inr_sub, List.map_append]
    · simp only [if_true]
      rw [mkU_append, mkU_Ks, mkU_I, baseU_I, Nat.add_zero, List.map_append, s1, map_inr_sub, List.map_append]
  have hb : baseU (if f then (pts x.put).map .I ++ List.replicate (pts y.put).length .K else List.replicate (pts y.put).length .K ++ (pts x.put).map .I) = (pts y.put).length := by
    cases f <;> simp only [if_true, Bool.false_eq_true, if_false, baseU_append, baseU_I, baseU_K] <;> omega
  rw [outU, mkU_append, List.map_append, e1, hb]
  congr 1
  by_cases hy : y.k = 1
  · rw [if_pos hy] at hd ⊢
    rcases hx with hx | hx | hx
    · rw [hx, if_pos ⟨rfl, hy⟩]
      have := sub_at (L := [.inl i]) hd
      simpa [kU, mkU] using this
    · rw [hx]
      simp [kU, mkU]
    · omega
  · rw [if_neg hy, if_neg (fun h => hy h.2)]
    rfl
/-- The marks of a behind b, with b's put in, are the marks of both. -/
theorem tf_marks (f : Bool) : ∀ {a b : List Spot}, Al2 a b → ∀ (M : List (Nat ⊕ Int)) (i j : Nat), M.drop j = mkU i (spW b) → (mkU j (tfU f a b)).map (sub M) = mgO f i a b := by
  intro a b h
  induction h with
  | last hx hy =>
    rename_i x y
    intro M i j hM
    rw [spW_cons, mkU_append, mkU_spU] at hM
    rw [tfU_cons, mkU_append, List.map_append, out_marks hM (.inr (.inr ⟨hx, hy⟩)), mgO]
    simp [tfU, mgO, mkU]
  | more hx hy h ih =>
    rename_i x y a b
    intro M i j hM
    rw [spW_cons, mkU_append, mkU_spU, base_spU hy] at hM
    rw [tfU_cons, mkU_append, List.map_append, out_marks hM (by omega), mgO]
    congr 1
    refine ih M (i + 1) _ ?_
    rw [base_outU f x y (.inr hx) i, ← List.drop_drop, hM, List.drop_left' rfl]
theorem tf_base (f : Bool) {a b : List Spot} (h : Al2 a b) : baseU (tfU f a b) = tgtU (spW b) := by
  rw [← tgt_marks _ 0]
  induction h with
  | last hx hy =>
    rename_i x y
    rw [tfU_cons, spW_cons, baseU_append, mkU_append, List.length_append, mkU_spU, base_outU f x y (.inl hy) 0]
    simp [tfU, spW, baseU, mkU]
  | more hx hy h ih =>
    rename_i x y a b
    rw [tfU_cons, spW_cons, baseU_append, mkU_append, List.length_append, mkU_spU, base_outU f x y (.inr hx) 0, ih, mkU_len _ (0 + baseU (spU y)) 0]
theorem al_base {a b : List Spot} (h : Al2 a b) : baseU (spW a) = baseU (spW b) := by
  induction h with
  | last hx hy => rw [spW_cons, spW_cons, baseU_append, baseU_append, base_end hx, base_end hy]
  | more hx hy _ ih => rw [spW_cons, spW_cons, baseU_append, baseU_append, base_spU hx, base_spU hy, ih]
/-- Each behind the other: the same marks, the same base. -/
theorem meet_words (f : Bool) {a b : List Spot} (h : Al2 a b) : Eqv (cmp (spW a) (tfU (!f) b a)) (cmp (spW b) (tfU f a b)) := by
  have b1 := tf_base (!f) h.symm
  have b2 := tf_base f h
  refine ⟨?_, fun i => ?_⟩
  · rw [cmp_base _ _ b1.symm, cmp_base _ _ b2.symm, al_base h]
  · rw [cmp_marks _ _ i b1.symm, cmp_marks _ _ i b2.symm, tf_marks (!f) h.symm (mkU i (spW a)) i 0 rfl, tf_marks f h (mkU i (spW b)) i 0 rfl, mgO_symm]
end Go.Proofs.YtcdnlkhjlgaaoaaGreatDoor

/-
  Two deltas, each behind the other, come to the same. No walk.
-/
namespace Go.Proofs.YtcdnlkhjlgaaoaaGreatDoor
open Go.RowKit Go.PlainAid

def PS.nz (s : PS) : Bool := decide (0 < s.z)
def kP (k : Int) : PS := if k = 1 then .keep 1 else .rem 1
def outP (first : Bool) (x y : Spot) : List PS := ((if first then [.ins (pts x.put), .keep (pts y.put).length] else [.keep (pts y.put).length, .ins (pts x.put)]).filter PS.nz) ++ (if y.k = 1 then [kP x.k] else [])
def tfP (first : Bool) (SA SB : List Spot) : List PS := (List.zipWith (outP first) SA SB).flatten
theorem tfP_cons (f : Bool) (x y : Spot) (a b : List Spot) : tfP f (x :: a) (y :: b) = outP f x y ++ tfP f a b := by simp [tfP]

theorem put_enc {t : ByteArray} (h : 0 ≤ cpl t) : mk (enc (pts t)) = t := (whole_eq (cpl_valid h)).1
theorem size_pts {t : ByteArray} (h : 0 ≤ cpl t) : t.size = 0 ↔ (pts t).length = 0 := by
  have e := put_enc h
  constructor
  · intro h0
    rw [empty_eq h0, ptsNil]; rfl
  · intro h0
    rw [← e, List.eq_nil_of_length_eq_zero h0]; rfl
theorem op_ins {t : ByteArray} (h : 0 ≤ cpl t) : (PS.ins (pts t)).op = ⟨2, 0, t⟩ := by
  show (⟨2, 0, mk (enc (pts t))⟩ : OpD) = _
  rw [put_enc h]
theorem op_keep {t : ByteArray} (h : 0 ≤ cpl t) : (PS.keep (pts t).length).op = ⟨1, cpl t, ⟨#[]⟩⟩ := by
  show (⟨1, ((pts t).length : Nat), ⟨#[]⟩⟩ : OpD) = _
  rw [pts_len h]
theorem nz_op (p : List Int) (hp : ∀ z ∈ p, szI z ≠ 0) : OpD.does (PS.ins p).op = PS.nz (.ins p) := by
  have e : (PS.ins p).op = ⟨2, 0, mk (enc p)⟩ := rfl
  rw [e]
  simp only [OpD.does, PS.nz, PS.z, Int.lt_irrefl, decide_false, Bool.false_or]
  have h2 := size_pts (t := mk (enc p)) (by rw [(cpl_enc hp).1]; omega)
  rw [(cpl_enc hp).2] at h2
  by_cases c : p.length = 0
  · simp [h2.2 c, c]
  · have : ¬ (mk (enc p)).size = 0 := fun h => c (h2.1 h)
    have h3 : decide ((mk (enc p)).size ≠ 0) = true := decide_eq_true this
    have h4 : decide (0 < p.length) = true := decide_eq_true (by omega)
    rw [h3]
    exact h4.symm
theorem nz_keep (n : Nat) : OpD.does (PS.keep n).op = PS.nz (.keep n) := by
  have e : (PS.keep n).op = ⟨1, n, ⟨#[]⟩⟩ := rfl
  rw [e]
  have h0 : (⟨#[]⟩ : ByteArray).size = 0 := rfl
  by_cases hn : 0 < n
  · have h1 : (0 : Int) < (n : Int) := by omega
    simp [OpD.does, PS.nz, PS.z, h0, hn]
  · have h1 : n = 0 := by omega
    subst h1
    simp [OpD.does, PS.nz, PS.z, h0]
theorem outP_op {f : Bool} {x y : Spot} (hx : PutOk x.put) (hy : PutOk y.put) (hk : y.k = 1 → x.k = 1 ∨ x.k = 3) : (outP f x y).map PS.op = outO f x y := by
  unfold outP outO
  rw [List.map_append]
  congr 1
  · have e : (if f then [mineO x, thrsO y] else [thrsO y, mineO x]) = (if f then [PS.ins (pts x.put), .keep (pts y.put).length] else [.keep (pts y.put).length, .ins (pts x.put)]).map PS.op := by
      cases f <;> simp [mineO, thrsO, op_ins hx.1, op_keep hy.1]
    rw [e, List.filter_map]
    congr 1
    refine (List.filter_congr (fun s hs => ?_)).symm
    have h1 := nz_op (pts x.put) (pts_ok hx.1)
    have h2 := nz_keep (pts y.put).length
    cases f <;> simp at hs <;> rcases hs with rfl | rfl <;> assumption
  · by_cases h : y.k = 1
    · rw [if_pos h, if_pos h]
      rcases hk h with h1 | h1
      · simp [kP, h1]; rfl
      · simp [kP, h1]; rfl
    · rw [if_neg h, if_neg h]; rfl
theorem pw_nz : ∀ l : List PS, pw (l.filter PS.nz) = pw l
  | [] => rfl
  | s :: l => by
    rw [List.filter_cons]
    by_cases h : PS.nz s = true
    · rw [if_pos h, pw_cons, pw_cons, pw_nz l]
    · rw [if_neg h, pw_cons, pw_nz l]
      have h0 : s.z = 0 := by simpa [PS.nz] using h
      have : s.u = [] := by
        cases s with
        | keep n => simp only [PS.z] at h0; subst h0; rfl
        | rem n => simp only [PS.z] at h0; subst h0; rfl
        | ins p => simp only [PS.z] at h0; rw [List.eq_nil_of_length_eq_zero h0]; rfl
      rw [this, List.nil_append]
theorem outP_word {f : Bool} {x y : Spot} (hk : y.k = 1 → x.k = 1 ∨ x.k = 3) : pw (outP f x y) = outU f x y := by
  unfold outP outU
  rw [pw_append, pw_nz]
  congr 1
  · cases f <;> simp [pw, PS.u]
  · by_cases h : y.k = 1
    · rw [if_pos h, if_pos h]
      rcases hk h with h1 | h1
      · simp [kP, h1, kU, pw, PS.u]
      · simp [kP, h1, kU, pw, PS.u]
    · rw [if_neg h, if_neg h]; rfl
theorem outP_ok {f : Bool} {x y : Spot} (hx : PutOk x.put) : ∀ s ∈ outP f x y, s.Ok := by
  intro s hs
  unfold outP at hs
  rcases List.mem_append.1 hs with hs | hs
  · obtain ⟨h1, h2⟩ := List.mem_filter.1 hs
    have hz : 0 < s.z := by simpa [PS.nz] using h2
    have hm : s = .ins (pts x.put) ∨ s = .keep (pts y.put).length := by
      cases f <;> simp at h1 <;> rcases h1 with h1 | h1 <;> simp [h1]
    rcases hm with rfl | rfl
    · exact ⟨hz, pts_ok hx.1⟩
    · exact hz
  · split at hs
    · simp at hs
      subst hs
      unfold kP
      split
      · show 0 < 1; omega
      · show 0 < 1; omega
    · simp at hs
theorem al_k {x y : Spot} (hx : x.k = 1 ∨ x.k = 3) : y.k = 1 → x.k = 1 ∨ x.k = 3 := fun _ => hx
theorem tfP_facts (f : Bool) {a b : List Spot} (h : Al2 a b) (ha : ∀ s ∈ a, PutOk s.put) (hb : ∀ s ∈ b, PutOk s.put) : (tfP f a b).map PS.op = tfO f a b ∧ pw (tfP f a b) = tfU f a b ∧ ∀ s ∈ tfP f a b, s.Ok := by
  induction h with
  | last hx hy =>
    rename_i x y
    have hk : y.k = 1 → x.k = 1 ∨ x.k = 3 := fun h => by omega
    have e1 := outP_op (f := f) (ha x (by simp)) (hb y (by simp)) hk
    have e2 := outP_word (f := f) hk
    have e3 := outP_ok (f := f) (y := y) (ha x (by simp))
    refine ⟨?_, ?_, ?_⟩
    · simp only [tfP, tfO, List.zipWith_cons_cons, List.zipWith_nil_left, List.flatten_cons, List.flatten_nil, List.append_nil]; exact e1
    · simp only [tfP, tfU, List.zipWith_cons_cons, List.zipWith_nil_left, List.flatten_cons, List.flatten_nil, List.append_nil]; exact e2
    · simp only [tfP, List.zipWith_cons_cons, List.zipWith_nil_left, List.flatten_cons, List.flatten_nil, List.append_nil]; exact e3
  | more hx hy h ih =>
    rename_i x y a b
    obtain ⟨i1, i2, i3⟩ := ih (fun s hs => ha s (by simp [hs])) (fun s hs => hb s (by simp [hs]))
    have e1 := outP_op (f := f) (ha x (by simp)) (hb y (by simp)) (al_k (y := y) hx)
    have e2 := outP_word (f := f) (al_k (y := y) hx)
    have e3 := outP_ok (f := f) (y := y) (ha x (by simp))
    have eO : tfO f (x :: a) (y :: b) = outO f x y ++ tfO f a b := by simp [tfO]
    refine ⟨?_, ?_, ?_⟩
    · rw [tfP_cons, eO, List.map_append, e1, i1]
    · rw [tfP_cons, tfU_cons, pw_append, e2, i2]
    · rw [tfP_cons]
      intro s hs
      rcases List.mem_append.1 hs with hs | hs
      · exact e3 s hs
      · exact i3 s hs

/-- Check of point steps, whatever their base and target. -/
theorem chk_psG {l : List PS} (h : ∀ s ∈ l, s.Ok) (hz : ∀ s ∈ l, s.z ≤ 1000) (hl : l.length ≤ 3000) :
    chk (l.map PS.op) = (if 1000 < baseU (pw l) ∨ 1000 < targU (pw l) then 91 else 0) ∧ (chk (l.map PS.op) = 0 → stR (l.map PS.op) = l.map PS.st) := by
  have hs : ∀ s ∈ l, stOf s.op = some s.st := fun s hs => stOf_op (h s hs) (hz s hs)
  have e : stl (l.map PS.op) = l.map PS.st := by
    rw [stl, List.filterMap_map]
    clear hz hl h
    induction l with
    | nil => rfl
    | cons s l ih =>
      rw [List.filterMap_cons]
      simp only [Function.comp]
      rw [hs s (by simp), List.map_cons, ih (fun x hx => hs x (by simp [hx]))]
  have hany : (l.map PS.op).any (fun o => (stOf o).isNone) = false := by
    rw [List.any_eq_false]
    intro o ho
    obtain ⟨s, hs', rfl⟩ := List.mem_map.1 ho
    rw [hs s hs']; simp
  have hb : bsum (l.map PS.st) = baseU (pw l) := by rw [← base_uw, uw_st h]
  have ht : tsum (l.map PS.st) = targU (pw l) := by rw [← targ_uw, uw_st h]
  refine ⟨?_, fun hc => by rw [chk_yes _ hc, e]⟩
  rw [chk, if_neg (by rw [List.length_map]; omega), hany, if_neg (by simp), e, hb, ht]
theorem tgt_kU (k : Int) : tgtU (kU k) ≤ 1 := by
  unfold kU
  split
  · exact Nat.le_refl _
  · split
    · exact Nat.zero_le _
    · exact Nat.zero_le _
theorem tgtU_append (a b : List U) : tgtU (a ++ b) = tgtU a + tgtU b := by rw [← tgt_marks _ 0, mkU_append, List.length_append, tgt_marks, tgt_marks]
theorem tgt_Is (p : List Int) : tgtU (p.map .I) = p.length := by
  induction p with
  | nil => rfl
  | cons z p ih => rw [List.map_cons, tgtU, ih]; rfl
theorem tgt_Ks (n : Nat) : tgtU (List.replicate n .K) = n := by
  induction n with
  | zero => rfl
  | succ n ih => rw [List.replicate_succ, tgtU, ih]
theorem out_tgt (f : Bool) (x y : Spot) : tgtU (outU f x y) ≤ tgtU (spU x) + tgtU (spU y) := by
  rw [outU, tgtU_append, spU, spU, tgtU_append, tgtU_append, tgt_Is, tgt_Is]
  have h1 : tgtU (if f then (pts x.put).map .I ++ List.replicate (pts y.put).length .K else List.replicate (pts y.put).length .K ++ (pts x.put).map .I) = (pts x.put).length + (pts y.put).length := by
    cases f <;> simp only [if_true, Bool.false_eq_true, if_false, tgtU_append, tgt_Is, tgt_Ks] <;> omega
  rw [h1]
  by_cases h : y.k = 1
  · rw [if_pos h]; omega
  · rw [if_neg h]; simp [tgtU]; omega
theorem tf_tgt (f : Bool) {a b : List Spot} (h : Al2 a b) : tgtU (tfU f a b) ≤ tgtU (spW a) + tgtU (spW b) := by
  induction h with
  | last hx hy =>
    rename_i x y
    have := out_tgt f x y
    simp only [tfU, spW, List.zipWith_cons_cons, List.zipWith_nil_left, List.flatten_cons, List.flatten_nil, List.append_nil, List.map_cons, List.map_nil]
    exact this
  | more hx hy h ih =>
    rename_i x y a b
    have := out_tgt f x y
    rw [tfU_cons, spW_cons, spW_cons, tgtU_append, tgtU_append, tgtU_append]
    omega

/-- What Transform makes, as a word. -/
theorem tr_facts (f : Bool) {A B : List OpD} (iA : ∀ o ∈ A, o.In) (iB : ∀ o ∈ B, o.In) (hb : bsum (stR A) = bsum (stR B)) :
    Al2 (nS A) (nS B) ∧ chk (trW f A B) = (if 1000 < tgtU (tfU f (nS A) (nS B)) then 91 else 0) ∧ (chk (trW f A B) = 0 → uw (stR (trW f A B)) = tfU f (nS A) (nS B)) ∧ (∀ o ∈ trW f A B, o.In) := by
  have bdA := stR_bd A
  have bdB := stR_bd B
  obtain ⟨_, _, _, a4, a5⟩ := normal_facts (stR_ok iA) bdA.1 bdA.2
  obtain ⟨_, _, _, b4, b5⟩ := normal_facts (stR_ok iB) bdB.1 bdB.2
  have hA := nS_ok iA
  have hB := nS_ok iB
  have hal : Al2 (nS A) (nS B) := al2_of _ _ (kd_spots _ _) (kd_spots _ _) (by rw [nS, nS, spots_len, spots_len, a4, b4, hb])
  obtain ⟨f1, f2, f3⟩ := tfP_facts f hal (fun s hs => (hA s hs).2) (fun s hs => (hB s hs).2)
  have tA : tgtU (spW (nS A)) = tsum (stR A) := by rw [nS_word iA, tgt_uw, a5]
  have tB : tgtU (spW (nS B)) = tsum (stR B) := by rw [nS_word iB, tgt_uw, b5]
  have hbase := tf_base f hal
  have htgt := tf_tgt f hal
  have hT : targU (tfU f (nS A) (nS B)) = tgtU (tfU f (nS A) (nS B)) := by rw [targU, tgt_targ]
  have hlz := len_z f3
  rw [f2, hT] at hlz
  have hz : ∀ s ∈ tfP f (nS A) (nS B), s.z ≤ 1000 := by
    intro s hs
    have hm : ∀ (a b : List Spot), Al2 a b → ∀ s ∈ tfP f a b, s.z ≤ tgtU (spW a) + 1 ∧ s.z ≤ tgtU (spW a) ∨ s.z ≤ tgtU (spW b) ∨ s.z ≤ 1 := by
      intro a b h
      induction h with
      | last hx hy =>
        rename_i x y
        intro s hs
        simp only [tfP, List.zipWith_cons_cons, List.zipWith_nil_left, List.flatten_cons, List.flatten_nil, List.append_nil] at hs
        have ex : tgtU (spU x) = (pts x.put).length + tgtU (kU x.k) := by rw [spU, tgtU_append, tgt_Is]
        have ey : tgtU (spU y) = (pts y.put).length + tgtU (kU y.k) := by rw [spU, tgtU_append, tgt_Is]
        simp only [spW, List.map_cons, List.map_nil, List.flatten_cons, List.flatten_nil, List.append_nil]
        unfold outP at hs
        rcases List.mem_append.1 hs with hs | hs
        · have h1 := (List.mem_filter.1 hs).1
          have hm : s = .ins (pts x.put) ∨ s = .keep (pts y.put).length := by cases f <;> simp at h1 <;> rcases h1 with h1 | h1 <;> simp [h1]
          rcases hm with rfl | rfl
          · left; simp only [PS.z]; omega
          · right; left; simp only [PS.z]; omega
        · right; right
          split at hs
          · simp at hs; subst hs; unfold kP; split <;> (simp only [PS.z]; omega)
          · simp at hs
      | more hx hy h ih =>
        rename_i x y a b
        intro s hs
        rw [tfP_cons] at hs
        rw [spW_cons, spW_cons, tgtU_append, tgtU_append]
        have ex : tgtU (spU x) = (pts x.put).length + tgtU (kU x.k) := by rw [spU, tgtU_append, tgt_Is]
        have ey : tgtU (spU y) = (pts y.put).length + tgtU (kU y.k) := by rw [spU, tgtU_append, tgt_Is]
        rcases List.mem_append.1 hs with hs | hs
        · unfold outP at hs
          rcases List.mem_append.1 hs with hs | hs
          · have h1 := (List.mem_filter.1 hs).1
            have hm : s = .ins (pts x.put) ∨ s = .keep (pts y.put).length := by cases f <;> simp at h1 <;> rcases h1 with h1 | h1 <;> simp [h1]
            rcases hm with rfl | rfl
            · left; simp only [PS.z]; omega
            · right; left; simp only [PS.z]; omega
          · right; right
            split at hs
            · simp at hs; subst hs; unfold kP; split <;> (simp only [PS.z]; omega)
            · simp at hs
        · have := ih s hs
          omega
    have := hm _ _ hal s hs
    omega
  have hG := chk_psG f3 hz (by omega)
  rw [f1, f2, hT] at hG
  have e : trW f A B = tfO f (nS A) (nS B) := rfl
  refine ⟨hal, ?_, fun hc => ?_, ?_⟩
  · rw [e, hG.1]
    congr 1
    simp only [eq_iff_iff]
    omega
  · rw [e] at hc ⊢
    rw [hG.2 hc, uw_st f3, f2]
  · rw [e]
    exact tfO_in f _ _ (fun s hs => (hA s hs).2)

theorem tr_zero {f : Bool} {A B : List OpD} (h : (trR f A B).2 = 0) : chk A = 0 ∧ chk B = 0 ∧ bsum (stR A) = bsum (stR B) ∧ chk (trW f A B) = 0 ∧ (trR f A B).1 = jn (stR (trW f A B)) := by
  rw [trR] at h ⊢
  split at h
  · rename_i c1
    split at h
    · rename_i c2
      split at h
      · rename_i c3
        rw [if_pos c1, if_pos c2, if_pos c3]
        exact ⟨c1, c2, c3, h, rfl⟩
      · simp at h
    · rename_i c2; exact absurd h c2
  · rename_i c1; exact absurd h c1
/-- What Transform gave, as one of a pair. -/
theorem tr_good {f : Bool} {A B : List OpD} (iA : ∀ o ∈ A, o.In) (iB : ∀ o ∈ B, o.In) (h : (trR f A B).2 = 0) :
    (∀ o ∈ (trR f A B).1, o.In) ∧ chk (trR f A B).1 = 0 ∧ jn (stR (trR f A B).1) = (trR f A B).1 ∧ Eqv (uw (stR (trR f A B).1)) (tfU f (nS A) (nS B)) ∧ bsum (stR (trR f A B).1) = tsum (stR B) := by
  obtain ⟨c1, c2, c3, c4, c5⟩ := tr_zero h
  obtain ⟨hal, t1, t2, t3⟩ := tr_facts f iA iB c3
  have hok := stR_ok t3
  have bd := stR_bd (trW f A B)
  obtain ⟨n1, n2, n3, n4, n5⟩ := normal_facts hok bd.1 bd.2
  have bdB := stR_bd B
  have b5 := (normal_facts (stR_ok iB) bdB.1 bdB.2).2.2.2.2
  rw [c5]
  refine ⟨(jn_in hok bd.1 bd.2).2, n1, n2, ?_, ?_⟩
  · rw [t2 c4] at n3
    exact n3
  · rw [n4, ← base_uw, t2 c4, tf_base f hal, nS_word iB, tgt_uw, b5]

theorem hu_ok (D : List U) : ∀ s ∈ stR (D.map uop), s.Ok := stR_ok (fun o ho => by obtain ⟨u, _, rfl⟩ := List.mem_map.1 ho; exact uop_in u)
theorem meets {f : Bool} {A B : List OpD} (iA : ∀ o ∈ A, o.In) (iB : ∀ o ∈ B, o.In) (h1 : (trR f A B).2 = 0) (h2 : (trR (!f) B A).2 = 0) :
    (coR A (trR (!f) B A).1).2 = 0 ∧ (coR B (trR f A B).1).2 = 0 ∧ (coR A (trR (!f) B A).1).1 = (coR B (trR f A B).1).1 := by
  obtain ⟨a1, a2, a3, a4, a5⟩ := tr_zero h1
  obtain ⟨x0, x1, x2, x3, x4⟩ := tr_good iA iB h1
  obtain ⟨y0, y1, y2, y3, y4⟩ := tr_good iB iA h2
  have hal := (tr_facts f iA iB a3).1
  have l := coR_ok iA y0 a1 y1 y4.symm
  have r := coR_ok iB x0 a2 x1 x4.symm
  refine ⟨l.1, r.1, ?_⟩
  rw [l.2.1, r.2.1]
  refine jn_eqv (hu_ok _) (hu_ok _) ?_
  rw [l.2.2.1, r.2.2.1]
  have bdA := stR_bd A
  have bdB := stR_bd B
  have e1 : Eqv (cpW A (trR (!f) B A).1) (cmp (spW (nS A)) (tfU (!f) (nS B) (nS A))) := by
    rw [cpW, y2, nS_word iA]
    exact cmp_eqv ⟨rfl, fun _ => rfl⟩ y3 (by rw [tgt_uw, base_uw, y4, (normal_facts (stR_ok iA) bdA.1 bdA.2).2.2.2.2])
  have e2 : Eqv (cpW B (trR f A B).1) (cmp (spW (nS B)) (tfU f (nS A) (nS B))) := by
    rw [cpW, x2, nS_word iB]
    exact cmp_eqv ⟨rfl, fun _ => rfl⟩ x3 (by rw [tgt_uw, base_uw, x4, (normal_facts (stR_ok iB) bdB.1 bdB.2).2.2.2.2])
  have e3 := meet_words f hal
  exact ⟨e1.1.trans (e3.1.trans e2.1.symm), fun i => (e1.2 i).trans ((e3.2 i).trans (e2.2 i).symm)⟩
end Go.Proofs.YtcdnlkhjlgaaoaaGreatDoor
