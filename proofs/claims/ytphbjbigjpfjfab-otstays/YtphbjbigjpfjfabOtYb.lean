/-
  Two deltas, each behind the other, come to the same. No walk.
-/
import Derived.Test.YtphbjbigjpfjfabOtY
namespace Go.Proofs.Ytphbjbigjpfjfab
open Go.RowKit Go.PlainAid

def PS.nz (s : PS) : Bool := decide (0 < s.z)
def kP (k : Int) : PS := if k = 1 then .keep 1 else .rem 1
def outP (first : Bool) (x y : Spot) : List PS := ((if first then [.ins (pts x.put), .keep (pts y.put).length] else [.keep (pts y.put).length, .ins (pts x.put)]).filter PS.nz) ++ (if y.k = 1 then [kP x.k] else [])
def tfP (first : Bool) (SA SB : List Spot) : List PS := (List.zipWith (outP first) SA SB).flatten
theorem tfP_cons (f : Bool) (x y : Spot) (a b : List Spot) : tfP f (x :: a) (y :: b) = outP f x y ++ tfP f a b := by simp [tfP]

theorem put_enc {t : ByteArray} (h : 0 ≤ cpl t) : mk (enc (pts t)) = t := (whole_eq (cpl_valid h)).1
theorem size_pts {t : ByteArray} (h : 0 ≤ cpl t) : t.size = 0 ↔ (pts t).length = 0 := by
  have e := put_enc h
  constructor
  · intro h0
    rw [empty_eq h0, pts_nil]; rfl
  · intro h0
    rw [← e, List.eq_nil_of_length_eq_zero h0]; rfl
theorem op_ins {t : ByteArray} (h : 0 ≤ cpl t) : (PS.ins (pts t)).op = ⟨2, 0, t⟩ := by
  show (⟨2, 0, mk (enc (pts t))⟩ : OpD) = _
  rw [put_enc h]
theorem op_keep {t : ByteArray} (h : 0 ≤ cpl t) : (PS.keep (pts t).length).op = ⟨1, cpl t, ⟨#[]⟩⟩ := by
  show (⟨1, ((pts t).length : Nat), ⟨#[]⟩⟩ : OpD) = _
  rw [pts_len h]
theorem nz_op (p : List Int) (hp : ∀ z ∈ p, szI z ≠ 0) : OpD.does (PS.ins p).op = PS.nz (.ins p) := by
  have e : (PS.ins p).op = ⟨2, 0, mk (enc p)⟩ := rfl
  rw [e]
  simp only [OpD.does, PS.nz, PS.z, Int.lt_irrefl, decide_false, Bool.false_or]
  have h2 := size_pts (t := mk (enc p)) (by rw [(cpl_enc hp).1]; omega)
  rw [(cpl_enc hp).2] at h2
  by_cases c : p.length = 0
  · simp [h2.2 c, c]
  · have : ¬ (mk (enc p)).size = 0 := fun h => c (h2.1 h)
    have h3 : decide ((mk (enc p)).size ≠ 0) = true := decide_eq_true this
    have h4 : decide (0 < p.length) = true := decide_eq_true (by omega)
    rw [h3]
    exact h4.symm
theorem nz_keep (n : Nat) : OpD.does (PS.keep n).op = PS.nz (.keep n) := by
  have e : (PS.keep n).op = ⟨1, n, ⟨#[]⟩⟩ := rfl
  rw [e]
  have h0 : (⟨#[]⟩ : ByteArray).size = 0 := rfl
  by_cases hn : 0 < n
  · have h1 : (0 : Int) < (n : Int) := by omega
    simp [OpD.does, PS.nz, PS.z, h0, hn]
  · have h1 : n = 0 := by omega
    subst h1
    simp [OpD.does, PS.nz, PS.z, h0]
theorem outP_op {f : Bool} {x y : Spot} (hx : PutOk x.put) (hy : PutOk y.put) (hk : y.k = 1 → x.k = 1 ∨ x.k = 3) : (outP f x y).map PS.op = outO f x y := by
  unfold outP outO
  rw [List.map_append]
  congr 1
  · have e : (if f then [mineO x, thrsO y] else [thrsO y, mineO x]) = (if f then [PS.ins (pts x.put), .keep (pts y.put).length] else [.keep (pts y.put).length, .ins (pts x.put)]).map PS.op := by
      cases f <;> simp [mineO, thrsO, op_ins hx.1, op_keep hy.1]
    rw [e, List.filter_map]
    congr 1
    refine (List.filter_congr (fun s hs => ?_)).symm
    have h1 := nz_op (pts x.put) (pts_ok hx.1)
    have h2 := nz_keep (pts y.put).length
    cases f <;> simp at hs <;> rcases hs with rfl | rfl <;> assumption
  · by_cases h : y.k = 1
    · rw [if_pos h, if_pos h]
      rcases hk h with h1 | h1
      · simp [kP, h1]; rfl
      · simp [kP, h1]; rfl
    · rw [if_neg h, if_neg h]; rfl
theorem pw_nz : ∀ l : List PS, pw (l.filter PS.nz) = pw l
  | [] => rfl
  | s :: l => by
    rw [List.filter_cons]
    by_cases h : PS.nz s = true
    · rw [if_pos h, pw_cons, pw_cons, pw_nz l]
    · rw [if_neg h, pw_cons, pw_nz l]
      have h0 : s.z = 0 := by simpa [PS.nz] using h
      have : s.u = [] := by
        cases s with
        | keep n => simp only [PS.z] at h0; subst h0; rfl
        | rem n => simp only [PS.z] at h0; subst h0; rfl
        | ins p => simp only [PS.z] at h0; rw [List.eq_nil_of_length_eq_zero h0]; rfl
      rw [this, List.nil_append]
theorem outP_word {f : Bool} {x y : Spot} (hk : y.k = 1 → x.k = 1 ∨ x.k = 3) : pw (outP f x y) = outU f x y := by
  unfold outP outU
  rw [pw_append, pw_nz]
  congr 1
  · cases f <;> simp [pw, PS.u]
  · by_cases h : y.k = 1
    · rw [if_pos h, if_pos h]
      rcases hk h with h1 | h1
      · simp [kP, h1, kU, pw, PS.u]
      · simp [kP, h1, kU, pw, PS.u]
    · rw [if_neg h, if_neg h]; rfl
theorem outP_ok {f : Bool} {x y : Spot} (hx : PutOk x.put) : ∀ s ∈ outP f x y, s.Ok := by
  intro s hs
  unfold outP at hs
  rcases List.mem_append.1 hs with hs | hs
  · obtain ⟨h1, h2⟩ := List.mem_filter.1 hs
    have hz : 0 < s.z := by simpa [PS.nz] using h2
    have hm : s = .ins (pts x.put) ∨ s = .keep (pts y.put).length := by
      cases f <;> simp at h1 <;> rcases h1 with h1 | h1 <;> simp [h1]
    rcases hm with rfl | rfl
    · exact ⟨hz, pts_ok hx.1⟩
    · exact hz
  · split at hs
    · simp at hs
      subst hs
      unfold kP
      split
      · show 0 < 1; omega
      · show 0 < 1; omega
    · simp at hs
theorem al_k {x y : Spot} (hx : x.k = 1 ∨ x.k = 3) : y.k = 1 → x.k = 1 ∨ x.k = 3 := fun _ => hx
theorem tfP_facts (f : Bool) {a b : List Spot} (h : Al2 a b) (ha : ∀ s ∈ a, PutOk s.put) (hb : ∀ s ∈ b, PutOk s.put) : (tfP f a b).map PS.op = tfO f a b ∧ pw (tfP f a b) = tfU f a b ∧ ∀ s ∈ tfP f a b, s.Ok := by
  induction h with
  | last hx hy =>
    rename_i x y
    have hk : y.k = 1 → x.k = 1 ∨ x.k = 3 := fun h => by omega
    have e1 := outP_op (f := f) (ha x (by simp)) (hb y (by simp)) hk
    have e2 := outP_word (f := f) hk
    have e3 := outP_ok (f := f) (y := y) (ha x (by simp))
    refine ⟨?_, ?_, ?_⟩
    · simp only [tfP, tfO, List.zipWith_cons_cons, List.zipWith_nil_left, List.flatten_cons, List.flatten_nil, List.append_nil]; exact e1
    · simp only [tfP, tfU, List.zipWith_cons_cons, List.zipWith_nil_left, List.flatten_cons, List.flatten_nil, List.append_nil]; exact e2
    · simp only [tfP, List.zipWith_cons_cons, List.zipWith_nil_left, List.flatten_cons, List.flatten_nil, List.append_nil]; exact e3
  | more hx hy h ih =>
    rename_i x y a b
    obtain ⟨i1, i2, i3⟩ := ih (fun s hs => ha s (by simp [hs])) (fun s hs => hb s (by simp [hs]))
    have e1 := outP_op (f := f) (ha x (by simp)) (hb y (by simp)) (al_k (y := y) hx)
    have e2 := outP_word (f := f) (al_k (y := y) hx)
    have e3 := outP_ok (f := f) (y := y) (ha x (by simp))
    have eO : tfO f (x :: a) (y :: b) = outO f x y ++ tfO f a b := by simp [tfO]
    refine ⟨?_, ?_, ?_⟩
    · rw [tfP_cons, eO, List.map_append, e1, i1]
    · rw [tfP_cons, tfU_cons, pw_append, e2, i2]
    · rw [tfP_cons]
      intro s hs
      rcases List.mem_append.1 hs with hs | hs
      · exact e3 s hs
      · exact i3 s hs

/-- Check of point steps, whatever their base and target. -/
theorem chk_psG {l : List PS} (h : ∀ s ∈ l, s.Ok) (hz : ∀ s ∈ l, s.z ≤ 1000) (hl : l.length ≤ 3000) :
    chk (l.map PS.op) = (if 1000 < baseU (pw l) ∨ 1000 < targU (pw l) then 91 else 0) ∧ (chk (l.map PS.op) = 0 → stR (l.map PS.op) = l.map PS.st) := by
  have hs : ∀ s ∈ l, stOf s.op = some s.st := fun s hs => stOf_op (h s hs) (hz s hs)
  have e : stl (l.map PS.op) = l.map PS.st := by
    rw [stl, List.filterMap_map]
    clear hz hl h
    induction l with
    | nil => rfl
    | cons s l ih =>
      rw [List.filterMap_cons]
      simp only [Function.comp]
      rw [hs s (by simp), List.map_cons, ih (fun x hx => hs x (by simp [hx]))]
  have hany : (l.map PS.op).any (fun o => (stOf o).isNone) = false := by
    rw [List.any_eq_false]
    intro o ho
    obtain ⟨s, hs', rfl⟩ := List.mem_map.1 ho
    rw [hs s hs']; simp
  have hb : bsum (l.map PS.st) = baseU (pw l) := by rw [← base_uw, uw_st h]
  have ht : tsum (l.map PS.st) = targU (pw l) := by rw [← targ_uw, uw_st h]
  refine ⟨?_, fun hc => by rw [chk_yes _ hc, e]⟩
  rw [chk, if_neg (by rw [List.length_map]; omega), hany, if_neg (by simp), e, hb, ht]
theorem tgt_kU (k : Int) : tgtU (kU k) ≤ 1 := by
  unfold kU
  split
  · exact Nat.le_refl _
  · split
    · exact Nat.zero_le _
    · exact Nat.zero_le _
theorem tgtU_append (a b : List U) : tgtU (a ++ b) = tgtU a + tgtU b := by rw [← tgt_marks _ 0, mkU_append, List.length_append, tgt_marks, tgt_marks]
theorem tgt_Is (p : List Int) : tgtU (p.map .I) = p.length := by
  induction p with
  | nil => rfl
  | cons z p ih => rw [List.map_cons, tgtU, ih]; rfl
theorem tgt_Ks (n : Nat) : tgtU (List.replicate n .K) = n := by
  induction n with
  | zero => rfl
  | succ n ih => rw [List.replicate_succ, tgtU, ih]
theorem out_tgt (f : Bool) (x y : Spot) : tgtU (outU f x y) ≤ tgtU (spU x) + tgtU (spU y) := by
  rw [outU, tgtU_append, spU, spU, tgtU_append, tgtU_append, tgt_Is, tgt_Is]
  have h1 : tgtU (if f then (pts x.put).map .I ++ List.replicate (pts y.put).length .K else List.replicate (pts y.put).length .K ++ (pts x.put).map .I) = (pts x.put).length + (pts y.put).length := by
    cases f <;> simp only [if_true, Bool.false_eq_true, if_false, tgtU_append, tgt_Is, tgt_Ks] <;> omega
  rw [h1]
  by_cases h : y.k = 1
  · rw [if_pos h]; omega
  · rw [if_neg h]; simp [tgtU]; omega
theorem tf_tgt (f : Bool) {a b : List Spot} (h : Al2 a b) : tgtU (tfU f a b) ≤ tgtU (spW a) + tgtU (spW b) := by
  induction h with
  | last hx hy =>
    rename_i x y
    have := out_tgt f x y
    simp only [tfU, spW, List.zipWith_cons_cons, List.zipWith_nil_left, List.flatten_cons, List.flatten_nil, List.append_nil, List.map_cons, List.map_nil]
    exact this
  | more hx hy h ih =>
    rename_i x y a b
    have := out_tgt f x y
    rw [tfU_cons, spW_cons, spW_cons, tgtU_append, tgtU_append, tgtU_append]
    omega

/-- What Transform makes, as a word. -/
theorem tr_facts (f : Bool) {A B : List OpD} (iA : ∀ o ∈ A, o.In) (iB : ∀ o ∈ B, o.In) (hb : bsum (stR A) = bsum (stR B)) :
    Al2 (nS A) (nS B) ∧ chk (trW f A B) = (if 1000 < tgtU (tfU f (nS A) (nS B)) then 91 else 0) ∧ (chk (trW f A B) = 0 → uw (stR (trW f A B)) = tfU f (nS A) (nS B)) ∧ (∀ o ∈ trW f A B, o.In) := by
  have bdA := stR_bd A
  have bdB := stR_bd B
  obtain ⟨_, _, _, a4, a5⟩ := normal_facts (stR_ok iA) bdA.1 bdA.2
  obtain ⟨_, _, _, b4, b5⟩ := normal_facts (stR_ok iB) bdB.1 bdB.2
  have hA := nS_ok iA
  have hB := nS_ok iB
  have hal : Al2 (nS A) (nS B) := al2_of _ _ (kd_spots _ _) (kd_spots _ _) (by rw [nS, nS, spots_len, spots_len, a4, b4, hb])
  obtain ⟨f1, f2, f3⟩ := tfP_facts f hal (fun s hs => (hA s hs).2) (fun s hs => (hB s hs).2)
  have tA : tgtU (spW (nS A)) = tsum (stR A) := by rw [nS_word iA, tgt_uw, a5]
  have tB : tgtU (spW (nS B)) = tsum (stR B) := by rw [nS_word iB, tgt_uw, b5]
  have hbase := tf_base f hal
  have htgt := tf_tgt f hal
  have hT : targU (tfU f (nS A) (nS B)) = tgtU (tfU f (nS A) (nS B)) := by rw [targU, tgt_targ]
  have hlz := len_z f3
  rw [f2, hT] at hlz
  have hz : ∀ s ∈ tfP f (nS A) (nS B), s.z ≤ 1000 := by
    intro s hs
    have hm : ∀ (a b : List Spot), Al2 a b → ∀ s ∈ tfP f a b, s.z ≤ tgtU (spW a) + 1 ∧ s.z ≤ tgtU (spW a) ∨ s.z ≤ tgtU (spW b) ∨ s.z ≤ 1 := by
      intro a b h
      induction h with
      | last hx hy =>
        rename_i x y
        intro s hs
        simp only [tfP, List.zipWith_cons_cons, List.zipWith_nil_left, List.flatten_cons, List.flatten_nil, List.append_nil] at hs
        have ex : tgtU (spU x) = (pts x.put).length + tgtU (kU x.k) := by rw [spU, tgtU_append, tgt_Is]
        have ey : tgtU (spU y) = (pts y.put).length + tgtU (kU y.k) := by rw [spU, tgtU_append, tgt_Is]
        simp only [spW, List.map_cons, List.map_nil, List.flatten_cons, List.flatten_nil, List.append_nil]
        unfold outP at hs
        rcases List.mem_append.1 hs with hs | hs
        · have h1 := (List.mem_filter.1 hs).1
          have hm : s = .ins (pts x.put) ∨ s = .keep (pts y.put).length := by cases f <;> simp at h1 <;> rcases h1 with h1 | h1 <;> simp [h1]
          rcases hm with rfl | rfl
          · left; simp only [PS.z]; omega
          · right; left; simp only [PS.z]; omega
        · right; right
          split at hs
          · simp at hs; subst hs; unfold kP; split <;> (simp only [PS.z]; omega)
          · simp at hs
      | more hx hy h ih =>
        rename_i x y a b
        intro s hs
        rw [tfP_cons] at hs
        rw [spW_cons, spW_cons, tgtU_append, tgtU_append]
        have ex : tgtU (spU x) = (pts x.put).length + tgtU (kU x.k) := by rw [spU, tgtU_append, tgt_Is]
        have ey : tgtU (spU y) = (pts y.put).length + tgtU (kU y.k) := by rw [spU, tgtU_append, tgt_Is]
        rcases List.mem_append.1 hs with hs | hs
        · unfold outP at hs
          rcases List.mem_append.1 hs with hs | hs
          · have h1 := (List.mem_filter.1 hs).1
            have hm : s = .ins (pts x.put) ∨ s = .keep (pts y.put).length := by cases f <;> simp at h1 <;> rcases h1 with h1 | h1 <;> simp [h1]
            rcases hm with rfl | rfl
            · left; simp only [PS.z]; omega
            · right; left; simp only [PS.z]; omega
          · right; right
            split at hs
            · simp at hs; subst hs; unfold kP; split <;> (simp only [PS.z]; omega)
            · simp at hs
        · have := ih s hs
          omega
    have := hm _ _ hal s hs
    omega
  have hG := chk_psG f3 hz (by omega)
  rw [f1, f2, hT] at hG
  have e : trW f A B = tfO f (nS A) (nS B) := rfl
  refine ⟨hal, ?_, fun hc => ?_, ?_⟩
  · rw [e, hG.1]
    congr 1
    simp only [eq_iff_iff]
    omega
  · rw [e] at hc ⊢
    rw [hG.2 hc, uw_st f3, f2]
  · rw [e]
    exact tfO_in f _ _ (fun s hs => (hA s hs).2)

theorem tr_zero {f : Bool} {A B : List OpD} (h : (trR f A B).2 = 0) : chk A = 0 ∧ chk B = 0 ∧ bsum (stR A) = bsum (stR B) ∧ chk (trW f A B) = 0 ∧ (trR f A B).1 = jn (stR (trW f A B)) := by
  rw [trR] at h ⊢
  split at h
  · rename_i c1
    split at h
    · rename_i c2
      split at h
      · rename_i c3
        rw [if_pos c1, if_pos c2, if_pos c3]
        exact ⟨c1, c2, c3, h, rfl⟩
      · simp at h
    · rename_i c2; exact absurd h c2
  · rename_i c1; exact absurd h c1
/-- What Transform gave, as one of a pair. -/
theorem tr_good {f : Bool} {A B : List OpD} (iA : ∀ o ∈ A, o.In) (iB : ∀ o ∈ B, o.In) (h : (trR f A B).2 = 0) :
    (∀ o ∈ (trR f A B).1, o.In) ∧ chk (trR f A B).1 = 0 ∧ jn (stR (trR f A B).1) = (trR f A B).1 ∧ Eqv (uw (stR (trR f A B).1)) (tfU f (nS A) (nS B)) ∧ bsum (stR (trR f A B).1) = tsum (stR B) := by
  obtain ⟨c1, c2, c3, c4, c5⟩ := tr_zero h
  obtain ⟨hal, t1, t2, t3⟩ := tr_facts f iA iB c3
  have hok := stR_ok t3
  have bd := stR_bd (trW f A B)
  obtain ⟨n1, n2, n3, n4, n5⟩ := normal_facts hok bd.1 bd.2
  have bdB := stR_bd B
  have b5 := (normal_facts (stR_ok iB) bdB.1 bdB.2).2.2.2.2
  rw [c5]
  refine ⟨(jn_in hok bd.1 bd.2).2, n1, n2, ?_, ?_⟩
  · rw [t2 c4] at n3
    exact n3
  · rw [n4, ← base_uw, t2 c4, tf_base f hal, nS_word iB, tgt_uw, b5]

theorem hu_ok (D : List U) : ∀ s ∈ stR (D.map uop), s.Ok := stR_ok (fun o ho => by obtain ⟨u, _, rfl⟩ := List.mem_map.1 ho; exact uop_in u)
theorem meets {f : Bool} {A B : List OpD} (iA : ∀ o ∈ A, o.In) (iB : ∀ o ∈ B, o.In) (h1 : (trR f A B).2 = 0) (h2 : (trR (!f) B A).2 = 0) :
    (coR A (trR (!f) B A).1).2 = 0 ∧ (coR B (trR f A B).1).2 = 0 ∧ (coR A (trR (!f) B A).1).1 = (coR B (trR f A B).1).1 := by
  obtain ⟨a1, a2, a3, a4, a5⟩ := tr_zero h1
  obtain ⟨x0, x1, x2, x3, x4⟩ := tr_good iA iB h1
  obtain ⟨y0, y1, y2, y3, y4⟩ := tr_good iB iA h2
  have hal := (tr_facts f iA iB a3).1
  have l := coR_ok iA y0 a1 y1 y4.symm
  have r := coR_ok iB x0 a2 x1 x4.symm
  refine ⟨l.1, r.1, ?_⟩
  rw [l.2.1, r.2.1]
  refine jn_eqv (hu_ok _) (hu_ok _) ?_
  rw [l.2.2.1, r.2.2.1]
  have bdA := stR_bd A
  have bdB := stR_bd B
  have e1 : Eqv (cpW A (trR (!f) B A).1) (cmp (spW (nS A)) (tfU (!f) (nS B) (nS A))) := by
    rw [cpW, y2, nS_word iA]
    exact cmp_eqv ⟨rfl, fun _ => rfl⟩ y3 (by rw [tgt_uw, base_uw, y4, (normal_facts (stR_ok iA) bdA.1 bdA.2).2.2.2.2])
  have e2 : Eqv (cpW B (trR f A B).1) (cmp (spW (nS B)) (tfU f (nS A) (nS B))) := by
    rw [cpW, x2, nS_word iB]
    exact cmp_eqv ⟨rfl, fun _ => rfl⟩ x3 (by rw [tgt_uw, base_uw, x4, (normal_facts (stR_ok iB) bdB.1 bdB.2).2.2.2.2])
  have e3 := meet_words f hal
  exact ⟨e1.1.trans (e3.1.trans e2.1.symm), fun i => (e1.2 i).trans ((e3.2 i).trans (e2.2 i).symm)⟩
end Go.Proofs.Ytphbjbigjpfjfab
