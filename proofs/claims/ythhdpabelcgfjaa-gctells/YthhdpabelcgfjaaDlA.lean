/-
  Operations and steps as data; the contracts of stepOf and of the methods op.
-/
import Derived.Test.YthhdpabelcgfjaaTxUtf
import Derived.Laws.Rows
namespace Go.Proofs.Ythhdpabelcgfjaa
open Go.ChangeShapes Go.WideShapes Go.ChangeAt Go.RowKit Go.PlainAid

/-- An operation. -/
structure OpD where
  k : Int
  n : Int
  t : ByteArray

def OpD.val (o : OpD) : Value := .agg #[.int .i64 o.k, .int .i64 o.n, .string o.t]
/-- Its numbers are ints, its text is no longer than texts are. -/
structure OpD.Ok (o : OpD) : Prop where
  k0 : -9223372036854775808 ≤ o.k
  k1 : o.k ≤ 9223372036854775807
  n0 : -9223372036854775808 ≤ o.n
  n1 : o.n ≤ 9223372036854775807
  t1 : o.t.size ≤ maxLen

/-- At v lies a delta. -/
def RdD (w : World) (v : Value) (l : List OpD) : Prop :=
  ∃ ao cp, v = .slice ao l.length cp ∧ (l.length ≤ cp ∧ (ao = none → cp = 0)) ∧ ∀ (i : Nat) (o : OpD), l[i]? = some o → ∃ b off, ao = some ⟨b, off, none⟩ ∧ b < w.heap.size ∧ w.cell? ⟨b, off + i * 3, none⟩ = some (.int .i64 o.k) ∧ w.cell? ⟨b, off + i * 3 + 1, none⟩ = some (.int .i64 o.n) ∧ w.cell? ⟨b, off + i * 3 + 2, none⟩ = some (.string o.t)

theorem RdD.below {w w' : World} {v : Value} {l : List OpD} (h : RdD w v l) (hb : Below w.heap.size w w') : RdD w' v l := by
  obtain ⟨ao, cp, e, h0, h1⟩ := h
  refine ⟨ao, cp, e, h0, fun i o hi => ?_⟩
  obtain ⟨b, off, e1, hl, c0, c1, c2⟩ := h1 i o hi
  exact ⟨b, off, e1, Nat.lt_of_lt_of_le hl hb.size, (hb.cell (p := ⟨b, off + i * 3, none⟩) hl).trans c0, (hb.cell (p := ⟨b, off + i * 3 + 1, none⟩) hl).trans c1, (hb.cell (p := ⟨b, off + i * 3 + 2, none⟩) hl).trans c2⟩
theorem RdD.nil (w : World) : RdD w (.slice none 0 0) [] := ⟨none, 0, rfl, ⟨Nat.le_refl _, fun _ => rfl⟩, fun i o h => by simp at h⟩

/-- How many code points a text has; -1: it is not valid. -/
def cplGo (s : ByteArray) : Nat → Nat → Nat → Int
  | 0, _, k => (k : Int)
  | f + 1, p, k => if p < s.size then (if (nx s p).2 = 0 then -1 else cplGo s f (p + (nx s p).2.toNat) (k + 1)) else (k : Int)
def cpl (s : ByteArray) : Int := cplGo s (s.size + 1) 0 0

theorem cplGo_ok {s : ByteArray} {n : Nat} (hv : Valid s n) : ∀ (f j : Nat), j ≤ n → n - j < f → cplGo s f (pos s j) j = (n : Int)
  | 0, _, _, h => by omega
  | f + 1, j, hj, hf => by
    rw [cplGo]
    by_cases h : j = n
    · subst h
      rw [if_neg (by rw [hv.2]; omega)]
    · have h1 := hv.1 j (by omega)
      rw [if_pos h1.1, if_neg h1.2]
      exact cplGo_ok hv f (j + 1) (by omega) (by omega)
theorem cplGo_bad {s : ByteArray} {n : Nat} (hv : Bad s n) : ∀ (f j : Nat), j ≤ n → n - j < f → cplGo s f (pos s j) j = -1
  | 0, _, _, h => by omega
  | f + 1, j, hj, hf => by
    rw [cplGo]
    by_cases h : j = n
    · subst h
      rw [if_pos hv.2.1, if_pos hv.2.2]
    · have h1 := hv.1 j (by omega)
      rw [if_pos h1.1, if_neg h1.2]
      exact cplGo_bad hv f (j + 1) (by omega) (by omega)
theorem cpl_ok {s : ByteArray} {n : Nat} (hv : Valid s n) : cpl s = (n : Int) := by
  have h := pos_le hv.1 n (Nat.le_refl _)
  exact cplGo_ok hv (s.size + 1) 0 (by omega) (by omega)
theorem cpl_bad {s : ByteArray} {n : Nat} (hv : Bad s n) : cpl s = -1 := by
  have h := pos_le hv.1 n (Nat.le_refl _)
  exact cplGo_bad hv (s.size + 1) 0 (by omega) (by omega)
theorem cpl_valid {s : ByteArray} (h : 0 ≤ cpl s) : Valid s (cpl s).toNat := by
  rcases valid_or_bad s with ⟨n, hv⟩ | ⟨k, hb⟩
  · rw [cpl_ok hv]; simpa using hv
  · rw [cpl_bad hb] at h; omega
theorem cpl_le (s : ByteArray) : -1 ≤ cpl s ∧ cpl s ≤ s.size := by
  rcases valid_or_bad s with ⟨n, hv⟩ | ⟨k, hb⟩
  · have h := pos_le hv.1 n (Nat.le_refl _)
    rw [cpl_ok hv]; omega
  · rw [cpl_bad hb]; omega

/-- A step. -/
inductive St where
  | keep (n : Nat)
  | rem (n : Nat)
  | ins (t : ByteArray)
def St.op : St → OpD
  | .keep n => ⟨1, n, ⟨#[]⟩⟩
  | .rem n => ⟨3, n, ⟨#[]⟩⟩
  | .ins t => ⟨2, 0, t⟩
/-- The step that an operation is. -/
def stOf (o : OpD) : Option St :=
  if 1 ≤ o.n ∧ o.n ≤ 1000 ∧ o.t.size = 0 then (if o.k = 1 then some (.keep o.n.toNat) else if o.k = 3 then some (.rem o.n.toNat) else none)
  else if o.k = 2 ∧ o.n = 0 ∧ 0 < cpl o.t then some (.ins o.t) else none

theorem empty_eq {s : ByteArray} (h : s.size = 0) : s = ⟨#[]⟩ := ByteArray.ext (Array.eq_empty_of_size_eq_zero h)
theorem empty_tt {s : ByteArray} (h : s.size = 0) : s.toList.isEmpty = true := by
  rw [Go.ByteArray.toList_eq]
  have : s.data.toList.length = 0 := by rw [data_len]; exact h
  cases hh : s.data.toList with
  | nil => rfl
  | cons a l => rw [hh] at this; simp at this
theorem empty_ff {s : ByteArray} (h : s.size ≠ 0) : s.toList.isEmpty = false := by
  rw [Go.ByteArray.toList_eq]
  have : s.data.toList.length ≠ 0 := by rw [data_len]; exact h
  cases hh : s.data.toList with
  | nil => rw [hh] at this; simp at this
  | cons a l => rfl




theorem Try.sizeOp : (Try.prog.info? 67).map (·.size) = some 3 := by kernel_rfl
end Go.Proofs.Ythhdpabelcgfjaa

/-
  The contracts of lengths and stepsOf, Check, Base and Target.
-/
namespace Go.Proofs.Ythhdpabelcgfjaa
open Go.ChangeShapes Go.WideShapes Go.ChangeAt Go.RowKit Go.PlainAid

/-- The slice v reads as these values, one a cell. -/
def RdV (w : World) (v : Value) (xs : List Value) : Prop :=
  ∃ ao cp, v = .slice ao xs.length cp ∧ ∀ (i : Nat) (x : Value), xs[i]? = some x → ∃ b off, ao = some ⟨b, off, none⟩ ∧ b < w.heap.size ∧ w.cell? ⟨b, off + i, none⟩ = some x

theorem RdV.below {w w' : World} {v : Value} {l : List Value} (h : RdV w v l) (hb : Below w.heap.size w w') : RdV w' v l := by
  obtain ⟨ao, cp, e, h1⟩ := h
  refine ⟨ao, cp, e, fun i o hi => ?_⟩
  obtain ⟨b, off, e1, hl, c0⟩ := h1 i o hi
  exact ⟨b, off, e1, Nat.lt_of_lt_of_le hl hb.size, (hb.cell (p := ⟨b, off + i, none⟩) hl).trans c0⟩
theorem rdv_own {w : World} {base e : Nat} {v : Value} {xs : List Value} {n : Nat} (h : w.ownsRow base e 1 v n xs) : RdV w v xs := by
  have hl := h.1
  rcases h.2 with ⟨rfl, h0⟩ | ⟨g, cap, cur, rfl, hb, hg, hn, _, hc, ht⟩
  · subst h0
    have : xs = [] := List.eq_nil_of_length_eq_zero (by omega)
    subst this
    exact ⟨none, 0, rfl, fun i x h => by simp at h⟩
  · refine ⟨_, cap, by rw [hl, Nat.mul_one], fun i x hx => ⟨g, 0, rfl, ?_, ?_⟩⟩
    · exact (h.lt g rfl).2
    · have := h.cells (g := g) rfl i x hx
      have hadd : (⟨g, 0, none⟩ : Addr).add i = ⟨g, 0 + i, none⟩ := by unfold Addr.add; split <;> simp_all
      rw [hadd] at this
      exact this

def St.b : St → Nat
  | .keep n => n
  | .rem n => n
  | .ins _ => 0
def St.c : St → Nat
  | .keep n => n
  | .rem _ => 0
  | .ins t => (cpl t).toNat
def bsum (l : List St) : Nat := (l.map St.b).sum
def tsum (l : List St) : Nat := (l.map St.c).sum
/-- A step that may be. -/
def St.Ok : St → Prop
  | .keep n => 1 ≤ n ∧ n ≤ 1000
  | .rem n => 1 ≤ n ∧ n ≤ 1000
  | .ins t => 0 < cpl t ∧ t.size ≤ 140737488355328

theorem bsum_append (a b : List St) : bsum (a ++ b) = bsum a + bsum b := by simp [bsum]
theorem tsum_append (a b : List St) : tsum (a ++ b) = tsum a + tsum b := by simp [tsum]
theorem bsum_take (l : List St) (k : Nat) (h : k < l.length) : bsum (l.take (k + 1)) = bsum (l.take k) + (l[k]).b := by
  rw [List.take_succ_eq_append_getElem h, bsum_append]; simp [bsum]
theorem tsum_take (l : List St) (k : Nat) (h : k < l.length) : tsum (l.take (k + 1)) = tsum (l.take k) + (l[k]).c := by
  rw [List.take_succ_eq_append_getElem h, tsum_append]; simp [tsum]
theorem st_bd {s : St} (h : s.Ok) : s.b ≤ 1000 ∧ s.c ≤ 140737488355328 := by
  cases s with
  | keep n => simp [St.Ok] at h; simp [St.b, St.c]; omega
  | rem n => simp [St.Ok] at h; simp [St.b, St.c]; omega
  | ins t => simp [St.Ok] at h; have := cpl_le t; simp [St.b, St.c]; omega
theorem sum_bd : ∀ (l : List St), (∀ s ∈ l, s.Ok) → bsum l ≤ 1000 * l.length ∧ tsum l ≤ 140737488355328 * l.length
  | [], _ => by simp [bsum, tsum]
  | s :: l, h => by
    have h1 := st_bd (h s (by simp))
    have h2 := sum_bd l (fun x hx => h x (by simp [hx]))
    have e1 : bsum (s :: l) = s.b + bsum l := by simp [bsum]
    have e2 : tsum (s :: l) = s.c + tsum l := by simp [tsum]
    rw [e1, e2, List.length_cons]
    omega
theorem ok_take {l : List St} (h : ∀ s ∈ l, s.Ok) (k : Nat) : ∀ s ∈ l.take k, s.Ok := fun s hs => h s (List.mem_of_mem_take hs)


end Go.Proofs.Ythhdpabelcgfjaa

/-
  The contracts of stepsOf, Check, Base and Target.
-/
namespace Go.Proofs.Ythhdpabelcgfjaa
open Go.ChangeShapes Go.WideShapes Go.ChangeAt Go.RowKit Go.PlainAid


/-- A text that came in is no longer than memory. -/
def OpD.In (o : OpD) : Prop := o.t.size ≤ 140737488355328
/-- The steps of operations. -/
def stl (ds : List OpD) : List St := ds.filterMap stOf
/-- Check's error. -/
def chk (ds : List OpD) : Int := if 3000 < ds.length then 90 else if ds.any (fun o => (stOf o).isNone) then 90 else if 1000 < bsum (stl ds) ∨ 1000 < tsum (stl ds) then 91 else 0
def stR (ds : List OpD) : List St := if chk ds = 0 then stl ds else []

theorem stl_len (ds : List OpD) : (stl ds).length ≤ ds.length := List.length_filterMap_le ..
theorem stl_take {ds : List OpD} {k : Nat} (h : k < ds.length) {s : St} (hs : stOf ds[k] = some s) : stl (ds.take (k + 1)) = stl (ds.take k) ++ [s] := by
  rw [List.take_succ_eq_append_getElem h, stl, stl, List.filterMap_append]
  simp [hs]
theorem stOf_ok {o : OpD} {s : St} (hi : o.In) (h : stOf o = some s) : s.Ok := by
  unfold stOf at h
  split at h
  · rename_i h1
    split at h
    · cases h; simp only [St.Ok]; omega
    · split at h
      · cases h; simp only [St.Ok]; omega
      · cases h
  · split at h
    · rename_i h1
      cases h; exact ⟨h1.2.2, hi⟩
    · cases h
theorem stl_ok {ds : List OpD} (hi : ∀ o ∈ ds, o.In) : ∀ s ∈ stl ds, s.Ok := by
  intro s hs
  obtain ⟨o, ho, h⟩ := List.mem_filterMap.1 hs
  exact stOf_ok (hi o ho) h
theorem stR_ok {ds : List OpD} (hi : ∀ o ∈ ds, o.In) : ∀ s ∈ stR ds, s.Ok := by
  unfold stR
  split
  · exact stl_ok hi
  · simp
theorem any_none {ds : List OpD} {k : Nat} (h : k < ds.length) (hs : stOf ds[k] = none) : ds.any (fun o => (stOf o).isNone) = true :=
  List.any_eq_true.2 ⟨ds[k], List.getElem_mem h, by rw [hs]; rfl⟩
theorem stR_len (ds : List OpD) : (stR ds).length ≤ 3000 := by
  unfold stR
  split
  · rename_i h
    unfold chk at h
    split at h
    · omega
    · have := stl_len ds; omega
  · simp
theorem stR_bd (ds : List OpD) : bsum (stR ds) ≤ 1000 ∧ tsum (stR ds) ≤ 1000 := by
  unfold stR
  split
  · rename_i h
    unfold chk at h
    split at h; · omega
    split at h; · omega
    split at h; · omega
    omega
  · simp [bsum, tsum]
theorem chk_no (ds : List OpD) (h : chk ds ≠ 0) : stR ds = [] := if_neg h
theorem chk_yes (ds : List OpD) (h : chk ds = 0) : stR ds = stl ds := if_pos h


end Go.Proofs.Ythhdpabelcgfjaa
