/-
  Where names stand, document by document; how far two documents agree. No walk.
-/
import Derived.Test.YtjimolafoihnpaaDoorTrG
namespace Go.Proofs.YtjimolafoihnpaaDoor.tc
open Go.Maps Go.ChangeShapes Go.WideShapes Go.ChangeAt Go.RowKit Go.PlainAid

/-- Where a name stands first in a document, and its code point there. -/
def fd : List (Nat × Int) → Nat → Option (Nat × Int)
  | [], _ => none
  | x :: l, n => if x.1 = n then some (0, x.2) else (fd l n).map fun y => (y.1 + 1, y.2)
theorem fd_none : ∀ (l : List (Nat × Int)) (n : Nat), fd l n = none ↔ n ∉ l.map Prod.fst
  | [], n => by simp [fd]
  | x :: l, n => by
    simp only [fd]
    by_cases h : x.1 = n
    · rw [if_pos h]; simp [h]
    · rw [if_neg h, Option.map_eq_none_iff, fd_none l n]
      have h' : ¬ n = x.1 := fun q => h q.symm
      simp only [List.map_cons, List.mem_cons, h', false_or]
theorem fd_at : ∀ (l : List (Nat × Int)) (k : Nat) (x : Nat × Int), (l.map Prod.fst).Nodup → l[k]? = some x → fd l x.1 = some (k, x.2)
  | [], _, _, _, h => by simp at h
  | y :: l, 0, x, _, h => by simp at h; subst h; simp [fd]
  | y :: l, k + 1, x, hd, h => by
    rw [List.map_cons, List.nodup_cons] at hd
    have h2 : l[k]? = some x := by simpa using h
    have hne : ¬ y.1 = x.1 := fun e => hd.1 (by rw [e]; exact List.mem_map.2 ⟨x, List.mem_of_getElem? h2, rfl⟩)
    simp only [fd]
    rw [if_neg hne, fd_at l k x hd.2 h2]
    rfl
/-- The places of one name in one document. -/
theorem ev_fd : ∀ (l : List (Nat × Int)) (i s n : Nat), (l.map Prod.fst).Nodup → (((l.zipIdx s).map fun y => ((y.1.1, (i, y.2, y.1.2)) : Nat × Pl)).filter fun e => e.1 == n).map Prod.snd = match fd l n with | none => [] | some y => [(i, s + y.1, y.2)]
  | [], _, _, _, _ => by simp [fd]
  | x :: l, i, s, n, hd => by
    rw [List.map_cons, List.nodup_cons] at hd
    have ih := ev_fd l i (s + 1) n hd.2
    rw [List.zipIdx_cons, List.map_cons, List.filter_cons]
    by_cases h : x.1 = n
    · have hn : fd l n = none := (fd_none l n).2 (h ▸ hd.1)
      rw [hn] at ih
      simp only [fd, if_pos h]
      simp only at ih
      simp [h, ih]
    · simp only [fd, if_neg h]
      have hb : (x.1 == n) = false := beq_eq_false_iff_ne.2 h
      simp only [hb, Bool.false_eq_true, if_false]
      rw [ih]
      cases fd l n with
      | none => rfl
      | some y => simp only [Option.map_some]; congr 3; omega
theorem evR_fd {row : List (Nat × Int)} (i n : Nat) (hs : sndD row = true) : rst (evR i row) n = match fd row n with | none => [] | some y => [(i, y.1, y.2)] := by
  have h := ev_fd row i 0 n (by simpa [sndD] using hs)
  unfold rst evR
  rw [h]
  cases fd row n with
  | none => rfl
  | some y => simp
/-- All places from a document on. -/
def evG : Nat → List (List (Nat × Int)) → List (Nat × Pl)
  | _, [] => []
  | i, r :: D => (if sndD r then evR i r else []) ++ evG (i + 1) D
theorem evG_eq : ∀ (D : List (List (Nat × Int))) (i : Nat), ((D.zipIdx i).map fun y => if sndD y.1 then evR y.2 y.1 else []).flatten = evG i D
  | [], _ => by simp [evG]
  | r :: D, i => by rw [List.zipIdx_cons, List.map_cons, List.flatten_cons, evG_eq D (i + 1)]; rfl
theorem evD_evG (D : List (List (Nat × Int))) : evD D = evG 0 D := by unfold evD; exact evG_eq D 0
theorem rst_app (a b : List (Nat × Pl)) (n : Nat) : rst (a ++ b) n = rst a n ++ rst b n := by simp [rst]
/-- The places of a name from document i on. -/
def plc (D : List (List (Nat × Int))) (i n : Nat) : List Pl := rst (evG i (D.drop i)) n
theorem plc_step {D : List (List (Nat × Int))} {i : Nat} {row : List (Nat × Int)} (h : D[i]? = some row) (n : Nat) : plc D i n = rst (if sndD row then evR i row else []) n ++ plc D (i + 1) n := by
  have hi : i < D.length := (List.getElem?_eq_some_iff.1 h).1
  unfold plc
  rw [List.drop_eq_getElem_cons hi, evG, rst_app]
  rw [List.getElem?_eq_getElem hi] at h
  cases h
  rfl
theorem evG_mem : ∀ (D : List (List (Nat × Int))) (i n : Nat) (p : Pl), p ∈ rst (evG i D) n ↔ ∃ t r, D[t]? = some r ∧ p.1 = i + t ∧ sndD r = true ∧ fd r n = some (p.2.1, p.2.2)
  | [], i, n, p => by simp [evG, rst]
  | r :: D, i, n, p => by
    rw [evG, rst_app, List.mem_append, evG_mem D (i + 1) n p]
    constructor
    · rintro (h | ⟨t, r', h1, h2, h3, h4⟩)
      · by_cases hs : sndD r = true
        · rw [if_pos hs, evR_fd i n hs] at h
          cases hf : fd r n with
          | none => rw [hf] at h; simp at h
          | some y =>
            rw [hf] at h
            simp only [List.mem_singleton] at h
            subst h
            exact ⟨0, r, by simp, by simp, hs, hf⟩
        · rw [if_neg hs] at h; simp [rst] at h
      · exact ⟨t + 1, r', by simpa using h1, by omega, h3, h4⟩
    · rintro ⟨t, r', h1, h2, h3, h4⟩
      cases t with
      | zero =>
        simp at h1
        subst h1
        left
        rw [if_pos h3, evR_fd i n h3, h4]
        obtain ⟨a, b, c⟩ := p
        simp only at h2 ⊢
        rw [h2]
        simp
      | succ t => exact .inr ⟨t, r', by simpa using h1, by omega, h3, h4⟩
theorem evG_up : ∀ (D : List (List (Nat × Int))) (i n : Nat), (rst (evG i D) n).Pairwise fun p q => p.1 < q.1
  | [], i, n => by simp [evG, rst]
  | r :: D, i, n => by
    rw [evG, rst_app, List.pairwise_append]
    refine ⟨?_, evG_up D (i + 1) n, fun p hp q hq => ?_⟩
    · by_cases hs : sndD r = true
      · rw [if_pos hs, evR_fd i n hs]
        cases fd r n with
        | none => simp
        | some y => simp
      · rw [if_neg hs]; simp [rst]
    · have h1 : p.1 = i := by
        by_cases hs : sndD r = true
        · rw [if_pos hs, evR_fd i n hs] at hp
          cases hf : fd r n with
          | none => rw [hf] at hp; simp at hp
          | some y => rw [hf] at hp; simp only [List.mem_singleton] at hp; rw [hp]
        · rw [if_neg hs] at hp; simp [rst] at hp
      obtain ⟨t, r', -, h2, -⟩ := (evG_mem D (i + 1) n q).1 hq
      omega
theorem plc_mem {D : List (List (Nat × Int))} {i n : Nat} {p : Pl} : p ∈ plc D i n ↔ ∃ r, i ≤ p.1 ∧ D[p.1]? = some r ∧ sndD r = true ∧ fd r n = some (p.2.1, p.2.2) := by
  unfold plc
  rw [evG_mem]
  constructor
  · rintro ⟨t, r, h1, h2, h3, h4⟩
    rw [List.getElem?_drop] at h1
    exact ⟨r, by omega, by rw [h2]; exact h1, h3, h4⟩
  · rintro ⟨r, h1, h2, h3, h4⟩
    exact ⟨p.1 - i, r, by rw [List.getElem?_drop, show i + (p.1 - i) = p.1 by omega]; exact h2, by omega, h3, h4⟩
theorem plc_up (D : List (List (Nat × Int))) (i n : Nat) : (plc D i n).Pairwise fun p q => p.1 < q.1 := evG_up _ _ _
theorem plc_zero (D : List (List (Nat × Int))) (n : Nat) : plc D 0 n = rst (evD D) n := by rw [plc, evD_evG]; rfl
/-- The places of one name: first its own, then those behind. -/
theorem plc_own {D : List (List (Nat × Int))} {i e : Nat} {row : List (Nat × Int)} {x : Nat × Int} (h : D[i]? = some row) (hs : sndD row = true) (hx : row[e]? = some x) : plc D i x.1 = (i, e, x.2) :: plc D (i + 1) x.1 := by
  rw [plc_step h, if_pos hs, evR_fd i x.1 hs, fd_at row e x (by simpa [sndD] using hs) hx]
  rfl
theorem plc_not {D : List (List (Nat × Int))} {i n : Nat} {row : List (Nat × Int)} (h : D[i]? = some row) (hn : n ∉ row.map Prod.fst) : plc D i n = plc D (i + 1) n := by
  rw [plc_step h]
  by_cases hs : sndD row = true
  · rw [if_pos hs, evR_fd i n hs, (fd_none row n).2 hn]; rfl
  · rw [if_neg hs]; rfl

/-! ### How far two documents agree -/
/-- One atom more held against a document: what was met last there; none: they do not agree. -/
def agS (b : List (Nat × Int)) (s : Option Nat) (x : Nat × Int) : Option Nat :=
  s.bind fun last => match fd b x.1 with
    | none => some last
    | some y => if y.2 = x.2 ∧ last ≤ y.1 then some y.1 else none
def agF (b l : List (Nat × Int)) : Option Nat := l.foldl (agS b) (some 0)
theorem agF_nil (b : List (Nat × Int)) : agF b [] = some 0 := rfl
theorem agF_one (b l : List (Nat × Int)) (x : Nat × Int) : agF b (l ++ [x]) = agS b (agF b l) x := by simp [agF]
theorem agF_skip {b l : List (Nat × Int)} {x : Nat × Int} (h : fd b x.1 = none) : agF b (l ++ [x]) = agF b l := by
  rw [agF_one, agS, h]
  cases agF b l <;> rfl
theorem agF_keep {b l : List (Nat × Int)} {x : Nat × Int} (h : agF b l = none) : agF b (l ++ [x]) = none := by
  rw [agF_one, agS, h]
  rfl
theorem agF_met {b l : List (Nat × Int)} {x : Nat × Int} {last : Nat} {y : Nat × Int} (h : agF b l = some last) (hf : fd b x.1 = some y) : agF b (l ++ [x]) = if y.2 = x.2 ∧ last ≤ y.1 then some y.1 else none := by
  rw [agF_one, agS, h, hf]
  rfl
/-- What was met last in a document, as the program has it. -/
def eff (i : Nat) (r : Int × Int) : Int := if r.1 = (i : Int) then r.2 else 0
/-- What next has on its way: of the row's first e atoms all are held against the documents behind, of the e-th those in Q. -/
structure NxI (D : List (List (Nat × Int))) (i : Nat) (row : List (Nat × Int)) (e : Nat) (Q : Nat → Prop) (f : Nat) (La : List (Int × Int)) : Prop where
  len : La.length = D.length
  fle : f ≤ D.length
  bad : f < D.length → i < f ∧ ∃ r, D[f]? = some r ∧ sndD r = true ∧ agF r (row.take (e + 1)) = none
  good : ∀ j r l, i < j → j < f → D[j]? = some r → sndD r = true → La[j]? = some l → (Q j → agF r (row.take (e + 1)) = some (eff i l).toNat ∧ 0 ≤ eff i l) ∧ (¬ Q j → agF r (row.take e) = some (eff i l).toNat ∧ 0 ≤ eff i l)
  old : ∀ (j : Nat) (l : Int × Int), La[j]? = some l → l = (0, 0) ∨ (0 ≤ l.1 ∧ l.1 ≤ (i : Int))
/-- Between two calls. -/
def LaOk (D : List (List (Nat × Int))) (i : Nat) (La : List (Int × Int)) : Prop := La.length = D.length ∧ ∀ (j : Nat) (l : Int × Int), La[j]? = some l → l = (0, 0) ∨ (0 ≤ l.1 ∧ l.1 < (i : Int))
theorem NxI.start {D : List (List (Nat × Int))} {i : Nat} {row : List (Nat × Int)} {La : List (Int × Int)} (h : LaOk D i La) : NxI D i row 0 (fun _ => False) D.length La := by
  refine ⟨h.1, Nat.le_refl _, fun q => absurd q (by omega), fun j r l h1 h2 h3 h4 h5 => ⟨fun q => q.elim, fun _ => ?_⟩, fun j l hl => ?_⟩
  · rw [List.take_zero, agF_nil]
    have : eff i l = 0 := by
      unfold eff
      rcases h.2 j l h5 with rfl | ⟨a, b⟩
      · split <;> rfl
      · rw [if_neg (by omega)]
    rw [this]
    simp
  · rcases h.2 j l hl with q | ⟨a, b⟩
    · exact .inl q
    · exact .inr ⟨a, by omega⟩
/-- An atom's places are through: the next atom. -/
theorem NxI.atom {D : List (List (Nat × Int))} {i e f : Nat} {row : List (Nat × Int)} {La : List (Int × Int)} {Q : Nat → Prop} {x : Nat × Int} (h : NxI D i row e Q f La) (hx : row[e]? = some x) (hQ : ∀ j r, i < j → j < f → D[j]? = some r → sndD r = true → ¬ Q j → fd r x.1 = none) : NxI D i row (e + 1) (fun _ => False) f La := by
  have hlt : e < row.length := (List.getElem?_eq_some_iff.1 hx).1
  have e1 : row.take (e + 1) = row.take e ++ [x] := by
    rw [List.take_succ_eq_append_getElem hlt]
    rw [List.getElem?_eq_getElem hlt] at hx
    cases hx
    rfl
  refine ⟨h.len, h.fle, fun hf => ?_, fun j r l h1 h2 h3 h4 h5 => ⟨fun q => q.elim, fun _ => ?_⟩, h.old⟩
  · obtain ⟨a, r, b, c, d⟩ := h.bad hf
    refine ⟨a, r, b, c, ?_⟩
    by_cases hl2 : e + 1 < row.length
    · rw [List.take_succ_eq_append_getElem hl2]
      exact agF_keep d
    · rw [List.take_of_length_le (by omega)]
      rw [List.take_of_length_le (by omega)] at d
      exact d
  · obtain ⟨g1, g2⟩ := h.good j r l h1 h2 h3 h4 h5
    by_cases hq : Q j
    · exact g1 hq
    · rw [e1, agF_skip (hQ j r h1 h2 h3 h4 hq)]
      exact g2 hq
/-- A place of the atom is held against its document. -/
theorem NxI.place {D : List (List (Nat × Int))} {i e f j : Nat} {row r : List (Nat × Int)} {La : List (Int × Int)} {Q : Nat → Prop} {x y : Nat × Int} {l : Int × Int} (h : NxI D i row e Q f La) (hx : row[e]? = some x) (hij : i < j) (hjf : j < f) (hr : D[j]? = some r) (hs : sndD r = true) (hl : La[j]? = some l) (hf : fd r x.1 = some y) (hnq : ¬ Q j) :
    NxI D i row e (fun q => Q q ∨ q = j) (if y.2 ≠ x.2 ∨ (y.1 : Int) < eff i l then j else f) (La.set j ((i : Int), (y.1 : Int))) := by
  have hlt : e < row.length := (List.getElem?_eq_some_iff.1 hx).1
  have e1 : row.take (e + 1) = row.take e ++ [x] := by
    rw [List.take_succ_eq_append_getElem hlt]
    rw [List.getElem?_eq_getElem hlt] at hx
    cases hx
    rfl
  have hjl : j < La.length := (List.getElem?_eq_some_iff.1 hl).1
  have hjD : j < D.length := (List.getElem?_eq_some_iff.1 hr).1
  obtain ⟨-, g2⟩ := h.good j r l hij hjf hr hs hl
  obtain ⟨g3, g4⟩ := g2 hnq
  have hm := agF_met g3 hf
  rw [← e1] at hm
  have hset : ∀ (q : Nat) (m : Int × Int), (La.set j ((i : Int), (y.1 : Int)))[q]? = some m → (q = j ∧ m = ((i : Int), (y.1 : Int))) ∨ (q ≠ j ∧ La[q]? = some m) := by
    intro q m hq
    by_cases hqj : q = j
    · subst hqj
      rw [List.getElem?_set_self hjl] at hq
      cases hq
      exact .inl ⟨rfl, rfl⟩
    · rw [List.getElem?_set_ne (fun e => hqj e.symm)] at hq
      exact .inr ⟨hqj, hq⟩
  have hold : ∀ (q : Nat) (m : Int × Int), (La.set j ((i : Int), (y.1 : Int)))[q]? = some m → m = (0, 0) ∨ (0 ≤ m.1 ∧ m.1 ≤ (i : Int)) := fun q m hq => by
    rcases hset q m hq with ⟨-, rfl⟩ | ⟨-, h2⟩
    · exact .inr ⟨by simp, by simp⟩
    · exact h.old q m h2
  by_cases hc : y.2 ≠ x.2 ∨ (y.1 : Int) < eff i l
  · rw [if_pos hc]
    refine ⟨by rw [List.length_set]; exact h.len, by omega, fun _ => ⟨hij, r, hr, hs, ?_⟩, fun q r' m h1 h2 h3 h4 h5 => ?_, hold⟩
    · rw [hm, if_neg]
      rintro ⟨a, b⟩
      rcases hc with c | c
      · exact c a
      · omega
    · rcases hset q m h5 with ⟨a, -⟩ | ⟨a, b⟩
      · omega
      · obtain ⟨k1, k2⟩ := h.good q r' m h1 (by omega) h3 h4 b
        exact ⟨fun c => by rcases c with c | c; exact k1 c; exact absurd c a, fun c => k2 (fun d => c (.inl d))⟩
  · rw [if_neg hc]
    have hc1 : y.2 = x.2 := Classical.byContradiction fun q => hc (.inl q)
    have hc2 : ¬ (y.1 : Int) < eff i l := fun q => hc (.inr q)
    refine ⟨by rw [List.length_set]; exact h.len, h.fle, h.bad, fun q r' m h1 h2 h3 h4 h5 => ?_, hold⟩
    rcases hset q m h5 with ⟨a, rfl⟩ | ⟨a, b⟩
    · subst a
      rw [hr] at h3
      cases h3
      refine ⟨fun _ => ⟨?_, by simp [eff]⟩, fun c => absurd (.inr rfl) c⟩
      rw [hm, if_pos ⟨hc1, by omega⟩]
      simp [eff]
    · obtain ⟨k1, k2⟩ := h.good q r' m h1 h2 h3 h4 b
      exact ⟨fun c => by rcases c with c | c; exact k1 c; exact absurd c a, fun c => k2 (fun d => c (.inl d))⟩
end Go.Proofs.YtjimolafoihnpaaDoor.tc

/-
  The program's next: what it changes.
-/
namespace Go.Proofs.YtjimolafoihnpaaDoor.tc
open Go.Maps Go.ChangeShapes Go.WideShapes Go.ChangeAt Go.RowKit Go.PlainAid

section
variable {W W' : World} {B m p q : Nat} {dv : Value} {D : List (List (Nat × Int))} {X : List (List Pl)} {La : List (Int × Int)} {R : List Value}
/-- A slot of rest is cut by its first place. -/
theorem Mt.cut (h : Mt W B m p q dv D X La R) {n g off cp : Nat} {ao : Option Addr} {y : Pl} {ys : List Pl} (hr : R[n]? = some (.slice (some ⟨g, off, none⟩) (ys.length + 1) cp)) (hx : X[n]? = some (y :: ys)) (ha : ys = [] ∨ ao = some ⟨g, off + 3, none⟩) :
    Mt (W.setCell ⟨p, n, none⟩ (.slice ao ys.length (cp - 1))) B m p q dv D (X.set n ys) La (R.set n (.slice ao ys.length (cp - 1))) := by
  have s : ∀ t, 119 ≠ t → Sm t W (W.setCell ⟨p, n, none⟩ (.slice ao ys.length (cp - 1))) := fun t ht => own_set_sm h.top ht n _
  have hn : n < R.length := (List.getElem?_eq_some_iff.1 hr).1
  have hn2 : n < X.length := (List.getElem?_eq_some_iff.1 hx).1
  refine ⟨?_, h.docs.sm (s _ (by decide)) (s _ (by decide)), ?_, fun i r xs h1 h2 => ?_, own_sm h.last (s _ (by decide)), h.hm⟩
  · rw [List.length_set]
    exact s _ (by decide) _ _ h.box
  · rw [List.length_set]
    exact own_stored h.top n _
  · by_cases hi : i = n
    · subst hi
      rw [List.getElem?_set_self hn] at h1
      rw [List.getElem?_set_self hn2] at h2
      cases h1
      cases h2
      have h3 := h.rows i _ _ hr hx
      rw [List.length_cons] at h3
      rcases ha with rfl | rfl
      · exact ⟨_, _, rfl, by simp, .inl rfl⟩
      · have h4 := Ln.tail (z := 3) h3
        rw [flat_drop cP 3 cP_len] at h4
        exact h4.sm (s _ (by decide))
    · rw [List.getElem?_set_ne (fun e => hi e.symm)] at h1 h2
      exact (h.rows i r xs h1 h2).sm (s _ (by decide))
theorem flat_set2 : ∀ (La : List (Int × Int)) (j : Nat) (a b : Int), (((La.map cR).flatten).set (j * 2) (.int .i64 a)).set (j * 2 + 1) (.int .i64 b) = if j < La.length then ((La.set j (a, b)).map cR).flatten else (La.map cR).flatten
  | [], j, a, b => by simp
  | x :: l, 0, a, b => by simp [cR]
  | x :: l, j + 1, a, b => by
    have ih := flat_set2 l j a b
    have e1 : (j + 1) * 2 = j * 2 + 1 + 1 := by omega
    rw [List.map_cons, List.flatten_cons, e1]
    simp only [cR, List.cons_append, List.nil_append, List.set_cons_succ, List.length_cons, Nat.add_lt_add_iff_right]
    rw [ih]
    split
    · simp [cR]
    · rfl
/-- What was met last is put down. -/
theorem Mt.put (h : Mt W B m p q dv D X La R) {j : Nat} (hj : j < D.length) (a b : Int) :
    Mt ((W.setCell ⟨q, j * 2, none⟩ (.int .i64 a)).setCell ⟨q, j * 2 + 1, none⟩ (.int .i64 b)) B m p q dv D X (La.set j (a, b)) R := by
  have k1 := h.last.stored (j * 2) (.int .i64 a)
  have k2 := k1.1.stored (j * 2 + 1) (.int .i64 b)
  have s : ∀ t, 123 ≠ t → Sm t W ((W.setCell ⟨q, j * 2, none⟩ (.int .i64 a)).setCell ⟨q, j * 2 + 1, none⟩ (.int .i64 b)) := fun t ht => (own_set_sm h.last ht _ _).trans (own_set_sm k1.1 ht _ _)
  refine ⟨s _ (by decide) _ _ h.box, h.docs.sm (s _ (by decide)) (s _ (by decide)), own_sm h.top (s _ (by decide)), fun i r xs h1 h2 => (h.rows i r xs h1 h2).sm (s _ (by decide)), ?_, h.hm⟩
  have e := flat_set2 La j a b
  rw [if_pos (by rw [h.len.2]; exact hj)] at e
  rw [← e]
  exact k2.1
theorem Mt.cells (h : Mt W B m p q dv D X La R) : W.cell? ⟨m, 0, none⟩ = some dv ∧ W.cell? ⟨m, 1, none⟩ = some (.slice (some ⟨p, 0, none⟩) X.length X.length) ∧ W.cell? ⟨m, 2, none⟩ = some (.slice (some ⟨q, 0, none⟩) D.length D.length) := by
  have c := fun j => cell_of_row W m j _ _ (0, 0) h.box
  exact ⟨c 0, c 1, c 2⟩
theorem Mt.slot (h : Mt W B m p q dv D X La R) {n : Nat} {r : Value} (hr : R[n]? = some r) : W.cell? ⟨p, n, none⟩ = some r ∧ W.frozen? ⟨p, n, none⟩ = false := by
  have c := h.top.cells (g := p) rfl n _ hr
  rw [addr4, Nat.zero_add] at c
  obtain ⟨cu, hcu⟩ := own_kind h.top (g := p) rfl
  exact ⟨c, frz hcu n⟩
theorem Mt.at (h : Mt W B m p q dv D X La R) {j : Nat} {l : Int × Int} (hl : La[j]? = some l) : W.cell? ⟨q, j * 2, none⟩ = some (.int .i64 l.1) ∧ W.cell? ⟨q, j * 2 + 1, none⟩ = some (.int .i64 l.2) ∧ (∀ o, W.frozen? ⟨q, o, none⟩ = false) := by
  have f0 := flat_at cR 2 cR_len La j _ hl 0 (by decide)
  have f1 := flat_at cR 2 cR_len La j _ hl 1 (by decide)
  have c0 := h.last.cells (g := q) rfl _ _ f0
  have c1 := h.last.cells (g := q) rfl _ _ f1
  rw [addr4, Nat.zero_add] at c0 c1
  obtain ⟨cu, hcu⟩ := own_kind h.last (g := q) rfl
  exact ⟨c0, c1, fun o => frz hcu o⟩
theorem Mt.bounds (h : Mt W B m p q dv D X La R) : B ≤ m ∧ B ≤ p ∧ B ≤ q ∧ m < W.heap.size ∧ p < W.heap.size ∧ q < W.heap.size := by
  have h1 := h.top.lt p rfl
  have h2 := h.last.lt q rfl
  exact ⟨h.hm, h1.1, h2.1, lt_heap h.box, h1.2, h2.2⟩
end
/-- The table of rest while the row's first e atoms are through. -/
def tabN (D : List (List (Nat × Int))) (i : Nat) (row : List (Nat × Int)) (e nn : Nat) : List (List Pl) := (List.range nn).map fun n => if n ∈ (row.take e).map Prod.fst then plc D (i + 1) n else plc D i n
def tabP (D : List (List (Nat × Int))) (i nn : Nat) : List (List Pl) := (List.range nn).map (plc D i)
theorem tabN_len (D : List (List (Nat × Int))) (i : Nat) (row : List (Nat × Int)) (e nn : Nat) : (tabN D i row e nn).length = nn := by simp [tabN]
theorem tabP_len (D : List (List (Nat × Int))) (i nn : Nat) : (tabP D i nn).length = nn := by simp [tabP]
theorem tabN_zero (D : List (List (Nat × Int))) (i : Nat) (row : List (Nat × Int)) (nn : Nat) : tabN D i row 0 nn = tabP D i nn := by simp [tabN, tabP]
theorem tabP_zero (D : List (List (Nat × Int))) (nn : Nat) : tabP D 0 nn = tabR (evD D) nn := by
  unfold tabP tabR
  exact List.map_congr_left fun n _ => plc_zero D n
theorem tabN_at {D : List (List (Nat × Int))} {i : Nat} {row : List (Nat × Int)} {e nn : Nat} {x : Nat × Int} (h : D[i]? = some row) (hs : sndD row = true) (hx : row[e]? = some x) (hn : x.1 < nn) : (tabN D i row e nn)[x.1]? = some ((i, e, x.2) :: plc D (i + 1) x.1) := by
  have hlt : e < row.length := (List.getElem?_eq_some_iff.1 hx).1
  have hnd : (row.map Prod.fst).Nodup := by simpa [sndD] using hs
  have hne : x.1 ∉ (row.take e).map Prod.fst := by
    intro hm
    obtain ⟨y, hy, he⟩ := List.mem_map.1 hm
    obtain ⟨k, hk⟩ := List.getElem?_of_mem hy
    rw [List.getElem?_take] at hk
    split at hk
    · rename_i hke
      have a := fd_at row k y hnd hk
      rw [he, fd_at row e x hnd hx] at a
      injection a with a
      injection a with a
      omega
    · cases hk
  simp only [tabN, List.getElem?_map, List.getElem?_range hn, Option.map_some]
  rw [if_neg hne, plc_own h hs hx]
theorem tabN_step {D : List (List (Nat × Int))} {i : Nat} {row : List (Nat × Int)} {e nn : Nat} {x : Nat × Int} (hx : row[e]? = some x) (hn : x.1 < nn) : (tabN D i row e nn).set x.1 (plc D (i + 1) x.1) = tabN D i row (e + 1) nn := by
  have hlt : e < row.length := (List.getElem?_eq_some_iff.1 hx).1
  have e1 : row.take (e + 1) = row.take e ++ [x] := by
    rw [List.take_succ_eq_append_getElem hlt]
    rw [List.getElem?_eq_getElem hlt] at hx
    cases hx
    rfl
  apply List.ext_getElem?
  intro n
  by_cases hlt2 : n < nn
  · by_cases hnx : x.1 = n
    · subst hnx
      rw [List.getElem?_set_self (by rw [tabN_len]; exact hn)]
      simp only [tabN, List.getElem?_map, List.getElem?_range hlt2, Option.map_some]
      rw [if_pos (by rw [e1]; simp)]
    · rw [List.getElem?_set_ne hnx]
      simp only [tabN, List.getElem?_map, List.getElem?_range hlt2, Option.map_some]
      have hiff : n ∈ (row.take (e + 1)).map Prod.fst ↔ n ∈ (row.take e).map Prod.fst := by
        rw [e1, List.map_append, List.mem_append]
        constructor
        · rintro (a | a)
          · exact a
          · simp at a; exact absurd a.symm hnx
        · exact .inl
      by_cases hm : n ∈ (row.take e).map Prod.fst
      · rw [if_pos hm, if_pos (hiff.2 hm)]
      · rw [if_neg hm, if_neg (fun q => hm (hiff.1 q))]
  · rw [List.getElem?_eq_none (by rw [List.length_set, tabN_len]; omega), List.getElem?_eq_none (by rw [tabN_len]; omega)]
theorem tabN_end {D : List (List (Nat × Int))} {i : Nat} {row : List (Nat × Int)} {nn : Nat} (h : D[i]? = some row) : tabN D i row row.length nn = tabP D (i + 1) nn := by
  unfold tabN tabP
  refine List.map_congr_left fun n _ => ?_
  rw [List.take_length]
  split
  · rfl
  · rename_i hn
    exact plc_not h hn
/-- Behind an atom's places no document that agrees so far has its name. -/
theorem out_all {D : List (List (Nat × Int))} {i n f k : Nat} (hk : (plc D (i + 1) n).length ≤ k ∨ ∃ y, (plc D (i + 1) n)[k]? = some y ∧ f ≤ y.1) :
    ∀ j r, i < j → j < f → D[j]? = some r → sndD r = true → ¬ (∃ t y, t < k ∧ (plc D (i + 1) n)[t]? = some y ∧ y.1 = j) → fd r n = none := by
  intro j r h1 h2 h3 h4 h5
  cases hf : fd r n with
  | none => rfl
  | some y =>
    exfalso
    have hm : (j, y.1, y.2) ∈ plc D (i + 1) n := plc_mem.2 ⟨r, by simp; omega, h3, h4, hf⟩
    obtain ⟨t, ht⟩ := List.getElem?_of_mem hm
    rcases hk with hk | ⟨z, hz, hfz⟩
    · exact h5 ⟨t, _, by have := (List.getElem?_eq_some_iff.1 ht).1; omega, ht, rfl⟩
    · by_cases htk : t < k
      · exact h5 ⟨t, _, htk, ht, rfl⟩
      · have hup := plc_up D (i + 1) n
        have hkl := (List.getElem?_eq_some_iff.1 hz).1
        have htl := (List.getElem?_eq_some_iff.1 ht).1
        by_cases hkt : k = t
        · subst hkt
          rw [hz] at ht
          cases ht
          simp at hfz
          omega
        · have h6 := List.pairwise_iff_getElem.1 hup k t hkl htl (by omega)
          rw [(List.getElem?_eq_some_iff.1 hz).2, (List.getElem?_eq_some_iff.1 ht).2] at h6
          simp at h6
          omega
end Go.Proofs.YtjimolafoihnpaaDoor.tc
