/-
  Documents, their atoms and names: as data.
-/
import Derived.Test.YtjimolafoihnpaaTxFirstP
import Derived.Test.YtjimolafoihnpaaTrA
import Derived.Maps.Own
import Derived.Maps.OwnSet
import Derived.Maps.OwnOps
import Derived.DeepKeys4
namespace Go.Proofs.Ytjimolafoihnpaa
open Go.ChangeShapes Go.WideShapes Go.ChangeAt Go.RowKit Go.PlainAid
theorem heap_lt {W : World} {p : Nat} {o : Obj} (h : W.heap[p]? = some o) : p < W.heap.size := (Array.getElem?_eq_some_iff.1 h).1
/-- How many code points a text has; -1: it is not valid. -/
def cplGo (s : ByteArray) : Nat → Nat → Nat → Int
  | 0, _, k => (k : Int)
  | f + 1, p, k => if p < s.size then (if (nx s p).2 = 0 then -1 else cplGo s f (p + (nx s p).2.toNat) (k + 1)) else (k : Int)
def cpl (s : ByteArray) : Int := cplGo s (s.size + 1) 0 0
theorem cplGo_ok {s : ByteArray} {n : Nat} (hv : Valid s n) : ∀ (f j : Nat), j ≤ n → n - j < f → cplGo s f (pos s j) j = (n : Int)
  | 0, _, _, h => by omega
  | f + 1, j, hj, hf => by
    rw [cplGo]
    by_cases h : j = n
    · subst h
      rw [if_neg (by rw [hv.2]; omega)]
    · have h1 := hv.1 j (by omega)
      rw [if_pos h1.1, if_neg h1.2]
      exact cplGo_ok hv f (j + 1) (by omega) (by omega)
theorem cplGo_bad {s : ByteArray} {n : Nat} (hv : Bad s n) : ∀ (f j : Nat), j ≤ n → n - j < f → cplGo s f (pos s j) j = -1
  | 0, _, _, h => by omega
  | f + 1, j, hj, hf => by
    rw [cplGo]
    by_cases h : j = n
    · subst h
      rw [if_pos hv.2.1, if_pos hv.2.2]
    · have h1 := hv.1 j (by omega)
      rw [if_pos h1.1, if_neg h1.2]
      exact cplGo_bad hv f (j + 1) (by omega) (by omega)
theorem cpl_ok {s : ByteArray} {n : Nat} (hv : Valid s n) : cpl s = (n : Int) := by
  have h := pos_le hv.1 n (Nat.le_refl _)
  exact cplGo_ok hv (s.size + 1) 0 (by omega) (by omega)
theorem cpl_bad {s : ByteArray} {n : Nat} (hv : Bad s n) : cpl s = -1 := by
  have h := pos_le hv.1 n (Nat.le_refl _)
  exact cplGo_bad hv (s.size + 1) 0 (by omega) (by omega)
theorem cpl_valid {s : ByteArray} (h : 0 ≤ cpl s) : Valid s (cpl s).toNat := by
  rcases valid_or_bad s with ⟨n, hv⟩ | ⟨k, hb⟩
  · rw [cpl_ok hv]; simpa using hv
  · rw [cpl_bad hb] at h; omega
theorem cpl_le (s : ByteArray) : -1 ≤ cpl s ∧ cpl s ≤ s.size := by
  rcases valid_or_bad s with ⟨n, hv⟩ | ⟨k, hb⟩
  · have h := pos_le hv.1 n (Nat.le_refl _)
    rw [cpl_ok hv]; omega
  · rw [cpl_bad hb]; omega
/-- The code points of a text. -/
def pts (t : ByteArray) : List Int := ptL t (cpl t).toNat
theorem pts_len {t : ByteArray} (h : 0 ≤ cpl t) : ((pts t).length : Int) = cpl t := by rw [pts, ptL_length]; omega
/-- A run: its origin's Client and Seq, From, Text. -/
structure RunD where
  c : Int
  q : Int
  f : Int
  t : ByteArray
/-- As a value. -/
def RunD.v (r : RunD) : Value := .agg #[.int .i64 r.c, .int .i64 r.q, .int .i64 r.f, .string r.t]
/-- Runs in the world. -/
def RdN (w : World) (v : Value) (l : List RunD) : Prop :=
  ∃ (ao : Option Addr) (cp : Nat), v = .slice ao l.length cp ∧ l.length ≤ cp ∧ ∀ i r, l[i]? = some r → ∃ b off, ao = some ⟨b, off, none⟩ ∧ b < w.heap.size ∧
    w.cell? ⟨b, off + i * 4, none⟩ = some (.int .i64 r.c) ∧ w.cell? ⟨b, off + i * 4 + 1, none⟩ = some (.int .i64 r.q) ∧ w.cell? ⟨b, off + i * 4 + 2, none⟩ = some (.int .i64 r.f) ∧ w.cell? ⟨b, off + i * 4 + 3, none⟩ = some (.string r.t)
theorem RdN.below {w w' : World} {v : Value} {l : List RunD} (h : RdN w v l) (hb : Below w.heap.size w w') : RdN w' v l := by
  obtain ⟨ao, cp, e, hc, h⟩ := h
  refine ⟨ao, cp, e, hc, fun i r hr => ?_⟩
  obtain ⟨b, off, e1, h1, c0, c1, c2, c3⟩ := h i r hr
  have g : ∀ j, w'.cell? ⟨b, j, none⟩ = w.cell? ⟨b, j, none⟩ := fun j => hb.cell (p := ⟨b, j, none⟩) h1
  exact ⟨b, off, e1, Nat.lt_of_lt_of_le h1 hb.size, by rw [g]; exact c0, by rw [g]; exact c1, by rw [g]; exact c2, by rw [g]; exact c3⟩
theorem RdN.nil (w : World) : RdN w (.slice none 0 0) [] := ⟨none, 0, rfl, Nat.le_refl _, fun i r h => by simp at h⟩
/-- A key of the marks: Client, Seq, number. -/
abbrev AtK := Int × Int × Int
/-- An atom: its origin's Client and Seq, its number, its code point. -/
structure Atm where
  c : Int
  q : Int
  n : Int
  z : Int
/-- Atoms of code points, numbered on from n. -/
def atG (c q : Int) : Int → List Int → List Atm
  | _, [] => []
  | n, z :: zs => ⟨c, q, n, z⟩ :: atG c q (n + 1) zs
theorem atG_len (c q : Int) : ∀ (n : Int) (zs : List Int), (atG c q n zs).length = zs.length
  | _, [] => rfl
  | n, z :: zs => by simp [atG, atG_len c q (n + 1) zs]
theorem atG_append (c q : Int) : ∀ (n : Int) (a b : List Int), atG c q n (a ++ b) = atG c q n a ++ atG c q (n + a.length) b
  | n, [], b => by simp [atG]
  | n, z :: a, b => by
    have h : n + ((z :: a).length : Int) = n + 1 + (a.length : Int) := by simp; omega
    rw [h]
    simp [atG, atG_append c q (n + 1) a b]
theorem atG_take (c q : Int) : ∀ (n : Int) (zs : List Int) (k : Nat), (atG c q n zs).take k = atG c q n (zs.take k)
  | n, [], k => by simp [atG]
  | n, z :: zs, 0 => by simp [atG]
  | n, z :: zs, k + 1 => by simp [atG, atG_take c q (n + 1) zs k]
/-- The atoms of a run, of runs. -/
def RunD.ats (r : RunD) : List Atm := atG r.c r.q r.f (pts r.t)
def ats (l : List RunD) : List Atm := (l.map RunD.ats).flatten
theorem ats_nil : ats [] = [] := rfl
theorem ats_cons (r : RunD) (l : List RunD) : ats (r :: l) = r.ats ++ ats l := by simp [ats]
theorem ats_append (a b : List RunD) : ats (a ++ b) = ats a ++ ats b := by simp [ats]
theorem ats_len (r : RunD) (h : 0 ≤ cpl r.t) : (r.ats.length : Int) = cpl r.t := by rw [RunD.ats, atG_len]; exact pts_len h
/-- What tells an atom from others. -/
def Atm.key (x : Atm) : AtK := (x.c, x.q, x.n)
theorem addr4 (b o j : Nat) : (⟨b, o, none⟩ : Addr).add j = ⟨b, o + j, none⟩ := by unfold Addr.add; split <;> simp_all
theorem Try.infoAtm : (Try.prog.info? 82).map (fun i => (i.zero, i.size, i.bytes)) = some (some (.agg #[.int .i64 0, .int .i64 0, .int .i64 0, .int .i64 0]), 4, 32) := by kernel_rfl
/-- Atoms as cells. -/
def acs (l : List Atm) : List Value := (l.map fun x => [Value.int .i64 x.c, .int .i64 x.q, .int .i64 x.n, .int .i64 x.z]).flatten
theorem acs_append (a b : List Atm) : acs (a ++ b) = acs a ++ acs b := by simp [acs]
theorem acs_one (x : Atm) : acs [x] = [Value.int .i64 x.c, .int .i64 x.q, .int .i64 x.n, .int .i64 x.z] := by simp [acs]
theorem acs_cons (x : Atm) (l : List Atm) : acs (x :: l) = .int .i64 x.c :: .int .i64 x.q :: .int .i64 x.n :: .int .i64 x.z :: acs l := by simp [acs]
theorem acs_length : ∀ (l : List Atm), (acs l).length = l.length * 4
  | [] => rfl
  | x :: l => by rw [acs_cons]; simp only [List.length_cons, acs_length l]; omega
theorem acs_at : ∀ (l : List Atm) (i : Nat) (x : Atm), l[i]? = some x → (acs l)[i * 4]? = some (.int .i64 x.c) ∧ (acs l)[i * 4 + 1]? = some (.int .i64 x.q) ∧ (acs l)[i * 4 + 2]? = some (.int .i64 x.n) ∧ (acs l)[i * 4 + 3]? = some (.int .i64 x.z)
  | [], i, x, h => by simp at h
  | y :: l, 0, x, h => by simp at h; subst h; simp [acs_cons]
  | y :: l, i + 1, x, h => by
    have := acs_at l i x (by simpa using h)
    rw [acs_cons, show (i + 1) * 4 = i * 4 + 1 + 1 + 1 + 1 by omega]
    simpa using this
/-- Atoms in the world. -/
def RdA (w : World) (v : Value) (l : List Atm) : Prop :=
  ∃ (ao : Option Addr) (cp : Nat), v = .slice ao l.length cp ∧ l.length ≤ cp ∧ ∀ i x, l[i]? = some x → ∃ b off, ao = some ⟨b, off, none⟩ ∧ b < w.heap.size ∧
    w.cell? ⟨b, off + i * 4, none⟩ = some (.int .i64 x.c) ∧ w.cell? ⟨b, off + i * 4 + 1, none⟩ = some (.int .i64 x.q) ∧ w.cell? ⟨b, off + i * 4 + 2, none⟩ = some (.int .i64 x.n) ∧ w.cell? ⟨b, off + i * 4 + 3, none⟩ = some (.int .i64 x.z)
theorem RdA.below {w w' : World} {v : Value} {l : List Atm} (h : RdA w v l) (hb : Below w.heap.size w w') : RdA w' v l := by
  obtain ⟨ao, cp, e, hc, h⟩ := h
  refine ⟨ao, cp, e, hc, fun i r hr => ?_⟩
  obtain ⟨b, off, e1, h1, c0, c1, c2, c3⟩ := h i r hr
  have g : ∀ j, w'.cell? ⟨b, j, none⟩ = w.cell? ⟨b, j, none⟩ := fun j => hb.cell (p := ⟨b, j, none⟩) h1
  exact ⟨b, off, e1, Nat.lt_of_lt_of_le h1 hb.size, by rw [g]; exact c0, by rw [g]; exact c1, by rw [g]; exact c2, by rw [g]; exact c3⟩
theorem rda_own {W : World} {B : Nat} {v : Value} {l : List Atm} (h : W.ownsRow B 82 4 v l.length (acs l)) : RdA W v l := by
  rcases h.2 with ⟨rfl, h0⟩ | ⟨g, cap, cur, rfl, _, hg, hn, _, _, ht⟩
  · have : l = [] := List.length_eq_zero_iff.1 h0
    subst this
    exact ⟨none, 0, rfl, Nat.le_refl _, fun i x hx => by simp at hx⟩
  · refine ⟨_, _, rfl, hn, fun i x hx => ⟨g, 0, rfl, heap_lt hg, ?_⟩⟩
    obtain ⟨e0, e1, e2, e3⟩ := acs_at l i x hx
    have q := h.cells (g := g) rfl
    have q0 := q _ _ e0
    have q1 := q _ _ e1
    have q2 := q _ _ e2
    have q3 := q _ _ e3
    rw [addr4] at q0 q1 q2 q3
    exact ⟨q0, by rw [Nat.add_assoc]; exact q1, by rw [Nat.add_assoc]; exact q2, by rw [Nat.add_assoc]; exact q3⟩
theorem atG_at (c q : Int) : ∀ (zs : List Int) (n : Int) (i : Nat) (z : Int), zs[i]? = some z → (atG c q n zs)[i]? = some ⟨c, q, n + (i : Int), z⟩
  | [], n, i, z, h => by simp at h
  | y :: zs, n, 0, z, h => by simp at h; subst h; simp [atG]
  | y :: zs, n, i + 1, z, h => by
    rw [atG, List.getElem?_cons_succ, atG_at c q zs (n + 1) i z (by simpa using h)]
    congr 2
    omega
theorem atG_take1 (c q n : Int) (zs : List Int) (i : Nat) (z : Int) (h : zs[i]? = some z) : atG c q n (zs.take (i + 1)) = atG c q n (zs.take i) ++ [⟨c, q, n + (i : Int), z⟩] := by
  have hi : i < zs.length := (List.getElem?_eq_some_iff.1 h).1
  have e : (atG c q n zs)[i]? = some ⟨c, q, n + (i : Int), z⟩ := atG_at c q zs n i z h
  have hi2 : i < (atG c q n zs).length := by rw [atG_len]; exact hi
  rw [← atG_take, ← atG_take, List.take_succ_eq_append_getElem hi2]
  congr 2
  have := List.getElem?_eq_getElem hi2
  rw [e] at this
  exact (Option.some.inj this).symm
theorem iv_get {P : List Int} {j : Nat} {z : Int} (h : P[j]? = some z) : (iv P)[j]? = some (.int .i64 z) := by simp [iv, h]
/-- Rows of unlike elements lie apart. -/
theorem own_apart {w : World} {b1 b2 e1 e2 s1 s2 n1 n2 : Nat} {v1 v2 : Value} {x1 x2 : List Value} (h1 : w.ownsRow b1 e1 s1 v1 n1 x1) (h2 : w.ownsRow b2 e2 s2 v2 n2 x2) (he : e1 ≠ e2) : v1.ownBlock = none ∨ v1.ownBlock ≠ v2.ownBlock := by
  rcases h1.2 with ⟨rfl, _⟩ | ⟨g, cap, cur, rfl, _, hg, _⟩
  · exact .inl rfl
  · rcases h2.2 with ⟨rfl, _⟩ | ⟨g', cap', cur', rfl, _, hg', _⟩
    · exact .inr (by simp [Value.ownBlock])
    · refine .inr (fun e => ?_)
      simp [Value.ownBlock] at e
      subst e
      rw [hg] at hg'
      simp at hg'
      exact he hg'.2
theorem iv_one (l : List Int) : ∀ u ∈ iv l, u.oneCell' = true := by
  intro u hu
  simp only [iv, List.mem_map] at hu
  obtain ⟨x, _, rfl⟩ := hu
  rfl
end Go.Proofs.Ytjimolafoihnpaa
namespace Go.Proofs.Ytjimolafoihnpaa.tc
open Go.Maps Go.ChangeShapes Go.WideShapes Go.ChangeAt Go.RowKit Go.PlainAid

theorem chain {w a b : World} (h : Below w.heap.size w a) (k : Below a.heap.size a b) : Below w.heap.size w b := h.trans (k.mono h.size)
/-- Does a run's From count? -/
def fOk (r : RunD) : Bool := decide (0 ≤ r.f) && decide (r.f ≤ 1000000)
/-- The atoms of a run that counts; of a document; of documents. -/
def atR (r : RunD) : List Atm := if fOk r = true then r.ats else []
def aT (l : List RunD) : List Atm := (l.map atR).flatten
def aTs (L : List (List RunD)) : List Atm := (L.map aT).flatten
theorem aT_take {l : List RunD} {k : Nat} (h : k < l.length) : aT (l.take (k + 1)) = aT (l.take k) ++ atR l[k] := by
  rw [List.take_succ_eq_append_getElem h]
  simp only [aT, List.map_append, List.flatten_append, List.map_cons, List.map_nil, List.flatten_cons, List.flatten_nil, List.append_nil]
theorem aTs_take {L : List (List RunD)} {k : Nat} (h : k < L.length) : aTs (L.take (k + 1)) = aTs (L.take k) ++ aT L[k] := by
  rw [List.take_succ_eq_append_getElem h]
  simp only [aTs, List.map_append, List.flatten_append, List.map_cons, List.map_nil, List.flatten_cons, List.flatten_nil, List.append_nil]
theorem aT_le (l : List RunD) (k : Nat) : (aT (l.take k)).length ≤ (aT l).length := by
  have h : aT l = aT (l.take k) ++ aT (l.drop k) := by
    conv => lhs; rw [← List.take_append_drop k l]
    simp only [aT, List.map_append, List.flatten_append]
  rw [h, List.length_append]
  omega
theorem aTs_le (L : List (List RunD)) (k : Nat) : (aTs (L.take k)).length ≤ (aTs L).length := by
  have h : aTs L = aTs (L.take k) ++ aTs (L.drop k) := by
    conv => lhs; rw [← List.take_append_drop k L]
    simp only [aTs, List.map_append, List.flatten_append]
  rw [h, List.length_append]
  omega
/-- The names of keys, in the order in which they are met, behind names that are there. -/
def nms : List AtK → List AtK → List AtK
  | N, [] => N
  | N, k :: ks => nms (if k ∈ N then N else N ++ [k]) ks
theorem nms_app : ∀ (a N b : List AtK), nms N (a ++ b) = nms (nms N a) b
  | [], _, _ => rfl
  | k :: a, N, b => by
    rw [List.cons_append]
    simp only [nms]
    exact nms_app a _ b
theorem nms_pre : ∀ (ks N : List AtK), ∃ t, nms N ks = N ++ t
  | [], N => ⟨[], by simp [nms]⟩
  | k :: ks, N => by
    simp only [nms]
    obtain ⟨t, h⟩ := nms_pre ks (if k ∈ N then N else N ++ [k])
    split at h <;> rename_i hk
    · rw [if_pos hk]; exact ⟨t, h⟩
    · rw [if_neg hk]; exact ⟨k :: t, by rw [h]; simp⟩
theorem nms_nodup : ∀ (ks N : List AtK), N.Nodup → (nms N ks).Nodup
  | [], _, h => h
  | k :: ks, N, h => by
    simp only [nms]
    apply nms_nodup
    split
    · exact h
    · rename_i hk
      rw [List.nodup_append]
      exact ⟨h, by simp, fun a ha b hb => by simp at hb; subst hb; intro e; exact hk (e ▸ ha)⟩
theorem nms_mem {x : AtK} : ∀ (ks N : List AtK), x ∈ nms N ks ↔ x ∈ N ∨ x ∈ ks
  | [], N => by simp [nms]
  | k :: ks, N => by
    simp only [nms]
    rw [nms_mem ks]
    split
    · rename_i hk
      constructor
      · rintro (h | h)
        · exact .inl h
        · exact .inr (by simp [h])
      · rintro (h | h)
        · exact .inl h
        · rcases List.mem_cons.1 h with rfl | h
          · exact .inl hk
          · exact .inr h
    · simp only [List.mem_append, List.mem_cons, List.not_mem_nil, or_false, or_assoc]
theorem nms_len : ∀ (ks N : List AtK), (nms N ks).length ≤ N.length + ks.length
  | [], N => by simp [nms]
  | k :: ks, N => by
    simp only [nms]
    have := nms_len ks (if k ∈ N then N else N ++ [k])
    split at this <;> rename_i hk
    · rw [if_pos hk, List.length_cons]; omega
    · rw [if_neg hk, List.length_cons]; rw [List.length_append, List.length_singleton] at this; omega
/-- The names of atoms. -/
def nmA (l : List Atm) : List AtK := nms [] (l.map Atm.key)
theorem nmA_nodup (l : List Atm) : (nmA l).Nodup := nms_nodup _ _ (by simp)
theorem nmA_mem {l : List Atm} {k : AtK} : k ∈ nmA l ↔ ∃ x ∈ l, x.key = k := by
  rw [nmA, nms_mem]
  simp
theorem nmA_len (l : List Atm) : (nmA l).length ≤ l.length := by
  have := nms_len (l.map Atm.key) []
  rw [List.length_map] at this
  simpa [nmA] using this
theorem nmA_one (l : List Atm) (x : Atm) : nmA (l ++ [x]) = if x.key ∈ nmA l then nmA l else nmA l ++ [x.key] := by
  have e : nmA (l ++ [x]) = nms (nmA l) [x.key] := by simp only [nmA, List.map_append, nms_app, List.map_cons, List.map_nil]
  rw [e, nms]
  by_cases h : x.key ∈ nmA l
  · rw [if_pos h]; rfl
  · rw [if_neg h]; rfl
theorem idx_pre {N t : List AtK} {k : AtK} (h : k ∈ N) : (N ++ t).idxOf k = N.idxOf k := by rw [List.idxOf_append, if_pos h]
theorem nmA_pre (a b : List Atm) : ∃ t, nmA (a ++ b) = nmA a ++ t := by
  simp only [nmA, List.map_append, nms_app]
  exact nms_pre _ _
/-- An atom by its name's place. -/
def dA (N : List AtK) (l : List Atm) : List (Nat × Int) := l.map fun x => (N.idxOf x.key, x.z)
/-- Its cells; the cells of a name. -/
def cA (x : Nat × Int) : List Value := [.int .i64 (x.1 : Int), .int .i64 x.2]
def cN (k : AtK) : List Value := [.int .i64 k.1, .int .i64 k.2.1, .int .i64 k.2.2]
theorem cA_len (x : Nat × Int) : (cA x).length = 2 := rfl
theorem cN_len (k : AtK) : (cN k).length = 3 := rfl

/-! ### The map of names -/
theorem laidOutT : laidOutB Try.prog = true := by kernel_rfl
theorem nmLaw : WideMaps.KeyLaw Try.prog 66 := deep_law_laid laidOutT (m := 3) (by decide) (by decide +kernel) (by kernel_rfl) (by kernel_rfl)
theorem nmKeyed : Keyed Try.prog 66 := Keyed.of_law nmLaw
/-- A key may be. -/
def Wf (k : AtK) : Prop := (Lit.int .i64 k.1).wf = true ∧ (Lit.int .i64 k.2.1).wf = true ∧ (Lit.int .i64 k.2.2).wf = true
def kN (k : AtK) : Lit := .string (keyBytes [.int .i64 k.1, .int .i64 k.2.1, .int .i64 k.2.2])
theorem lits_int {e : Nat} {c : Int} (hc : (Lit.int .i64 c).wf = true) : Try.prog.keyLits (e + 1) 3 [.int .i64 c] = some [.int .i64 c] := by
  simp [Program.keyLits, Try.underlying3, hc]
theorem lits_or {e : Nat} {c q : Int} (hc : (Lit.int .i64 c).wf = true) (hq : (Lit.int .i64 q).wf = true) : Try.prog.keyLits (e + 1 + 1) 35 [.int .i64 c, .int .i64 q] = some [.int .i64 c, .int .i64 q] := by
  have k2 : Try.prog.cellsOf 35 = 2 := by kernel_rfl
  have k3 : Try.prog.cellsOf 3 = 1 := by kernel_rfl
  unfold Program.keyLits
  simp only [Try.underlying35]
  rw [if_pos ⟨by rw [k2]; rfl, by kernel_rfl⟩]
  simp [k3, lits_int hc, lits_int hq]
theorem lits_nm {e : Nat} {c q n : Int} (hc : (Lit.int .i64 c).wf = true) (hq : (Lit.int .i64 q).wf = true) (hn : (Lit.int .i64 n).wf = true) : Try.prog.keyLits (e + 1 + 1 + 1) 66 [.int .i64 c, .int .i64 q, .int .i64 n] = some [.int .i64 c, .int .i64 q, .int .i64 n] := by
  have k1 : Try.prog.cellsOf 66 = 3 := by kernel_rfl
  have k2 : Try.prog.cellsOf 35 = 2 := by kernel_rfl
  have k3 : Try.prog.cellsOf 3 = 1 := by kernel_rfl
  unfold Program.keyLits
  simp only [Try.underlying66]
  rw [if_pos ⟨by rw [k1]; rfl, by kernel_rfl⟩]
  simp [k2, k3, lits_or hc hq, lits_int hn]
theorem kN_key {k : AtK} (h : Wf k) : keyOf Try.prog 66 (.agg #[.int .i64 k.1, .int .i64 k.2.1, .int .i64 k.2.2]) = some (kN k) := by
  have h1 : Try.prog.keyType 66 = true := by kernel_rfl
  obtain ⟨m, hts⟩ : ∃ m, Try.prog.types.size + 1 = m + 1 + 1 + 1 := by
    have h0 : 2 ≤ Try.prog.types.size := by decide +kernel
    exact ⟨Try.prog.types.size - 2, by omega⟩
  have k1 : Try.prog.cellsOf 66 = 3 := by kernel_rfl
  have hf : Value.formed Try.prog 66 (.agg #[.int .i64 k.1, .int .i64 k.2.1, .int .i64 k.2.2]) = true := by
    simp [Value.formed, Try.underlying66, k1]
  unfold keyOf
  rw [Try.underlying66]
  simp only [h1, Bool.true_and]
  rw [if_pos hf, hts, show (Value.agg #[.int .i64 k.1, .int .i64 k.2.1, .int .i64 k.2.2]).cells.toList = [.int .i64 k.1, .int .i64 k.2.1, .int .i64 k.2.2] from rfl, lits_nm h.1 h.2.1 h.2.2]
  rfl
theorem kN_inj {k l : AtK} (hk : Wf k) (hl : Wf l) (h : kN k = kN l) : k = l := by
  have h1 := kN_key hk
  have h2 := kN_key hl
  rw [h] at h1
  have e := keyOf_inj_deep (P := Try.prog) (m := 3) (by kernel_rfl) (by kernel_rfl) h1 h2
  simp only [Value.agg.injEq] at e
  have e1 := congrArg (fun a : Array Value => (a[0]?, a[1]?, a[2]?)) e
  simp at e1
  obtain ⟨a, b, c⟩ := k
  obtain ⟨a', b', c'⟩ := l
  simp only at e1
  rw [e1.1, e1.2.1, e1.2.2]
/-- The map in block b tells of each name its place. -/
def Kn (W : World) (b : Nat) (N : List AtK) : Prop :=
  (∀ k ∈ N, Wf k) ∧ ∃ D : DataW Unit, W.ownsMap Try.prog 66 (plainElem (H := Unit) Try.prog 3) b N.length D ∧ ∀ k, Wf k → Maps.has D (kN k) = decide (k ∈ N) ∧ (k ∈ N → D.atKey (kN k) (.lit (.int .i64 0)) = .lit (.int .i64 (N.idxOf k : Int)))
theorem Kn.new (w : World) : Kn (w.alloc (.map #[] 0)) w.heap.size [] :=
  ⟨by simp, .map [], World.ownsMap_made w _ _ _, fun k _ => ⟨by simp [Maps.has], fun h => by simp at h⟩⟩
theorem Kn.grown {w w' : World} {b : Nat} {N : List AtK} {o : Option Nat} (h : Kn w b N) (hg : w.grownBy w' o) (ho : o ≠ some b) : Kn w' b N := by
  obtain ⟨h1, D, h2, h3⟩ := h
  exact ⟨h1, D, h2.kept hg (fun e => ho e.symm), h3⟩
theorem Kn.lt {w : World} {b : Nat} {N : List AtK} (h : Kn w b N) : b < w.heap.size := by
  obtain ⟨h1, D, h2, h3⟩ := h
  exact h2.lt
theorem Kn.obj {w : World} {b : Nat} {N : List AtK} (h : Kn w b N) : ∃ es clock, w.heap[b]? = some (.map es clock) := by
  obtain ⟨h1, D, ⟨es, clock, hh, -⟩, h3⟩ := h
  exact ⟨es, clock, hh⟩
/-- A name more. -/
theorem Kn.put {w w' : World} {b : Nat} {N : List AtK} {k : AtK} {D : DataW Unit} (hN : ∀ k ∈ N, Wf k) (hk : Wf k) (hn : k ∉ N) (ho : w.ownsMap Try.prog 66 (plainElem (H := Unit) Try.prog 3) b N.length D)
    (hh : ∀ k, Wf k → Maps.has D (kN k) = decide (k ∈ N) ∧ (k ∈ N → D.atKey (kN k) (.lit (.int .i64 0)) = .lit (.int .i64 (N.idxOf k : Int))))
    (ho' : w'.ownsMap Try.prog 66 (plainElem (H := Unit) Try.prog 3) b (N.length + 1) (D.put (kN k) (.lit (.int .i64 (N.length : Int))))) : Kn w' b (N ++ [k]) := by
  refine ⟨fun x hx => ?_, D.put (kN k) (.lit (.int .i64 (N.length : Int))), by simpa using ho', fun x hx => ?_⟩
  · rcases List.mem_append.1 hx with h | h
    · exact hN x h
    · simp at h; rw [h]; exact hk
  · by_cases he : x = k
    · subst he
      refine ⟨?_, fun _ => ?_⟩
      · rw [Maps.has_put_same ho.isMap (nmKeyed.key (kN_key hk))]
        simp
      · rw [Maps.atKey_put_same ho.isMap (nmKeyed.key (kN_key hk)), List.idxOf_append, if_neg hn]
        simp
    · obtain ⟨h1, h2⟩ := hh x hx
      refine ⟨?_, fun hm => ?_⟩
      · rw [Maps.has_put_other (fun e => he (kN_inj hx hk e)), h1]
        simp [he]
      · have hm2 : x ∈ N := by
          rcases List.mem_append.1 hm with h | h
          · exact h
          · simp at h; exact absurd h he
        rw [Maps.atKey_put_other (fun e => he (kN_inj hx hk e)), h2 hm2, List.idxOf_append, if_pos hm2]
theorem zeroIT (u : World) : (zeroValue 3).run Try.prog u = .ok (.int .i64 0) u := by kernel_rfl
end Go.Proofs.Ytjimolafoihnpaa.tc
