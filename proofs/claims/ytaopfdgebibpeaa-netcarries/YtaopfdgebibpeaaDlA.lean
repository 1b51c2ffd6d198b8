/-
  Operations and steps as data; the contracts of stepOf and of the methods op.
-/
import Derived.Test.YtaopfdgebibpeaaTxUtf
import Derived.Laws.Rows
namespace Go.Proofs.Ytaopfdgebibpeaa
open Go.ChangeShapes Go.WideShapes Go.ChangeAt Go.RowKit Go.PlainAid

/-- An operation. -/
structure OpD where
  k : Int
  n : Int
  t : ByteArray

def OpD.val (o : OpD) : Value := .agg #[.int .i64 o.k, .int .i64 o.n, .string o.t]
/-- Its numbers are ints, its text is no longer than texts are. -/
structure OpD.Ok (o : OpD) : Prop where
  k0 : -9223372036854775808 ≤ o.k
  k1 : o.k ≤ 9223372036854775807
  n0 : -9223372036854775808 ≤ o.n
  n1 : o.n ≤ 9223372036854775807
  t1 : o.t.size ≤ maxLen

/-- At v lies a delta. -/
def RdD (w : World) (v : Value) (l : List OpD) : Prop :=
  ∃ ao cp, v = .slice ao l.length cp ∧ (l.length ≤ cp ∧ (ao = none → cp = 0)) ∧ ∀ (i : Nat) (o : OpD), l[i]? = some o → ∃ b off, ao = some ⟨b, off, none⟩ ∧ b < w.heap.size ∧ w.cell? ⟨b, off + i * 3, none⟩ = some (.int .i64 o.k) ∧ w.cell? ⟨b, off + i * 3 + 1, none⟩ = some (.int .i64 o.n) ∧ w.cell? ⟨b, off + i * 3 + 2, none⟩ = some (.string o.t)

theorem RdD.below {w w' : World} {v : Value} {l : List OpD} (h : RdD w v l) (hb : Below w.heap.size w w') : RdD w' v l := by
  obtain ⟨ao, cp, e, h0, h1⟩ := h
  refine ⟨ao, cp, e, h0, fun i o hi => ?_⟩
  obtain ⟨b, off, e1, hl, c0, c1, c2⟩ := h1 i o hi
  exact ⟨b, off, e1, Nat.lt_of_lt_of_le hl hb.size, (hb.cell (p := ⟨b, off + i * 3, none⟩) hl).trans c0, (hb.cell (p := ⟨b, off + i * 3 + 1, none⟩) hl).trans c1, (hb.cell (p := ⟨b, off + i * 3 + 2, none⟩) hl).trans c2⟩
theorem RdD.nil (w : World) : RdD w (.slice none 0 0) [] := ⟨none, 0, rfl, ⟨Nat.le_refl _, fun _ => rfl⟩, fun i o h => by simp at h⟩

/-- How many code points a text has; -1: it is not valid. -/
def cplGo (s : ByteArray) : Nat → Nat → Nat → Int
  | 0, _, k => (k : Int)
  | f + 1, p, k => if p < s.size then (if (nx s p).2 = 0 then -1 else cplGo s f (p + (nx s p).2.toNat) (k + 1)) else (k : Int)
def cpl (s : ByteArray) : Int := cplGo s (s.size + 1) 0 0

theorem cplGo_ok {s : ByteArray} {n : Nat} (hv : Valid s n) : ∀ (f j : Nat), j ≤ n → n - j < f → cplGo s f (pos s j) j = (n : Int)
  | 0, _, _, h => by omega
  | f + 1, j, hj, hf => by
    rw [cplGo]
    by_cases h : j = n
    · subst h
      rw [if_neg (by rw [hv.2]; omega)]
    · have h1 := hv.1 j (by omega)
      rw [if_pos h1.1, if_neg h1.2]
      exact cplGo_ok hv f (j + 1) (by omega) (by omega)
theorem cplGo_bad {s : ByteArray} {n : Nat} (hv : Bad s n) : ∀ (f j : Nat), j ≤ n → n - j < f → cplGo s f (pos s j) j = -1
  | 0, _, _, h => by omega
  | f + 1, j, hj, hf => by
    rw [cplGo]
    by_cases h : j = n
    · subst h
      rw [if_pos hv.2.1, if_pos hv.2.2]
    · have h1 := hv.1 j (by omega)
      rw [if_pos h1.1, if_neg h1.2]
      exact cplGo_bad hv f (j + 1) (by omega) (by omega)
theorem cpl_ok {s : ByteArray} {n : Nat} (hv : Valid s n) : cpl s = (n : Int) := by
  have h := pos_le hv.1 n (Nat.le_refl _)
  exact cplGo_ok hv (s.size + 1) 0 (by omega) (by omega)
theorem cpl_bad {s : ByteArray} {n : Nat} (hv : Bad s n) : cpl s = -1 := by
  have h := pos_le hv.1 n (Nat.le_refl _)
  exact cplGo_bad hv (s.size + 1) 0 (by omega) (by omega)
theorem cpl_valid {s : ByteArray} (h : 0 ≤ cpl s) : Valid s (cpl s).toNat := by
  rcases valid_or_bad s with ⟨n, hv⟩ | ⟨k, hb⟩
  · rw [cpl_ok hv]; simpa using hv
  · rw [cpl_bad hb] at h; omega
theorem cpl_le (s : ByteArray) : -1 ≤ cpl s ∧ cpl s ≤ s.size := by
  rcases valid_or_bad s with ⟨n, hv⟩ | ⟨k, hb⟩
  · have h := pos_le hv.1 n (Nat.le_refl _)
    rw [cpl_ok hv]; omega
  · rw [cpl_bad hb]; omega
theorem len_any (s : ByteArray) (w : World) (hs : s.size ≤ maxLen) :
    Calls Try.prog 49 #[.string s] w fun e w' => e = .returned (.int .i64 (cpl s)) ∧ w = w' := by
  rcases valid_or_bad s with ⟨n, hv⟩ | ⟨k, hb⟩
  · rw [cpl_ok hv]; exact len_ok s n w hs hv
  · rw [cpl_bad hb]; exact len_bad s k w hs hb

/-- A step. -/
inductive St where
  | keep (n : Nat)
  | rem (n : Nat)
  | ins (t : ByteArray)
def St.val : St → Value
  | .keep n => .iface 96 (.int .i64 (n : Int))
  | .rem n => .iface 97 (.int .i64 (n : Int))
  | .ins t => .iface 98 (.string t)
def St.op : St → OpD
  | .keep n => ⟨1, n, ⟨#[]⟩⟩
  | .rem n => ⟨3, n, ⟨#[]⟩⟩
  | .ins t => ⟨2, 0, t⟩
/-- The step that an operation is. -/
def stOf (o : OpD) : Option St :=
  if 1 ≤ o.n ∧ o.n ≤ 1000 ∧ o.t.size = 0 then (if o.k = 1 then some (.keep o.n.toNat) else if o.k = 3 then some (.rem o.n.toNat) else none)
  else if o.k = 2 ∧ o.n = 0 ∧ 0 < cpl o.t then some (.ins o.t) else none
def stO : Option St → Value
  | none => .nilIface
  | some s => s.val

theorem empty_eq {s : ByteArray} (h : s.size = 0) : s = ⟨#[]⟩ := ByteArray.ext (Array.eq_empty_of_size_eq_zero h)
theorem empty_tt {s : ByteArray} (h : s.size = 0) : s.toList.isEmpty = true := by
  rw [Go.ByteArray.toList_eq]
  have : s.data.toList.length = 0 := by rw [data_len]; exact h
  cases hh : s.data.toList with
  | nil => rfl
  | cons a l => rw [hh] at this; simp at this
theorem empty_ff {s : ByteArray} (h : s.size ≠ 0) : s.toList.isEmpty = false := by
  rw [Go.ByteArray.toList_eq]
  have : s.data.toList.length ≠ 0 := by rw [data_len]; exact h
  cases hh : s.data.toList with
  | nil => rw [hh] at this; simp at this
  | cons a l => rfl

set_option maxRecDepth 20000 in
set_option maxHeartbeats 1000000 in
theorem stepOf_yes (k n : Int) (t : ByteArray) (w : World) (h1 : 1 ≤ n) (h2 : n ≤ 1000) (h3 : t.size = 0) :
    Calls Try.prog 42 #[.agg #[.int .i64 k, .int .i64 n, .string t]] w fun e w' => e = .returned (stO (if k = 1 then some (.keep n.toNat) else if k = 3 then some (.rem n.toNat) else none)) ∧ Below w.heap.size w w' := by
  have hE := empty_tt h3
  obtain ⟨m, rfl⟩ := Int.eq_ofNat_of_zero_le (show 0 ≤ n by omega)
  by_cases k1 : k = 1
  · subst k1
    rw [if_pos rfl, Int.toNat_natCast]
    go_enter Try.func42, Try.ntmps42
    go_wp2
    go_ret
    exact ⟨rfl, (Below.refl _ _).alloc (Nat.le_refl _) _⟩
  · rw [if_neg k1]
    have k1' : (k == 1) = false := by simpa using k1
    by_cases k3 : k = 3
    · subst k3
      rw [if_pos rfl, Int.toNat_natCast]
      clear k1 k1'
      go_enter Try.func42, Try.ntmps42
      go_wp2
      go_ret
      exact ⟨rfl, (Below.refl _ _).alloc (Nat.le_refl _) _⟩
    · rw [if_neg k3]
      have k3' : (k == 3) = false := by simpa using k3
      by_cases k2 : k = 2
      · subst k2
        clear k1 k1' k3 k3'
        have n0 : ((m : Int) == 0) = false := by simp; omega
        go_enter Try.func42, Try.ntmps42
        go_wp2
        go_ret
        exact ⟨rfl, (Below.refl _ _).alloc (Nat.le_refl _) _⟩
      · have k2' : (k == 2) = false := by simpa using k2
        go_enter Try.func42, Try.ntmps42
        go_wp2
        go_ret
        exact ⟨rfl, (Below.refl _ _).alloc (Nat.le_refl _) _⟩

set_option maxRecDepth 20000 in
set_option maxHeartbeats 2000000 in
theorem stepOf_no (k n : Int) (t : ByteArray) (w : World) (ht : t.size ≤ maxLen) (h : ¬ (1 ≤ n ∧ n ≤ 1000 ∧ t.size = 0)) :
    Calls Try.prog 42 #[.agg #[.int .i64 k, .int .i64 n, .string t]] w fun e w' => e = .returned (stO (if k = 2 ∧ n = 0 ∧ 0 < cpl t then some (.ins t) else none)) ∧ Below w.heap.size w w' := by
  have hL := fun W => len_any t W ht
  by_cases k2 : k = 2
  · subst k2
    by_cases n0 : n = 0
    · subst n0
      clear h
      by_cases hp : 0 < cpl t
      · rw [if_pos ⟨rfl, rfl, hp⟩]
        generalize cpl t = c at hL hp
        go_enter Try.func42, Try.ntmps42
        go_wp2_with (go_at_call 49; refine (hL _).mono ?_; rintro e w1 ⟨rfl, rfl⟩)
        go_ret
        exact ⟨rfl, (Below.refl _ _).alloc (Nat.le_refl _) _⟩
      · rw [if_neg (fun q => hp q.2.2)]
        generalize cpl t = c at hL hp
        go_enter Try.func42, Try.ntmps42
        go_wp2_with (go_at_call 49; refine (hL _).mono ?_; rintro e w1 ⟨rfl, rfl⟩)
        go_ret
        exact ⟨rfl, (Below.refl _ _).alloc (Nat.le_refl _) _⟩
    · rw [if_neg (fun q => n0 q.2.1)]
      have n0' : (n == 0) = false := by simpa using n0
      by_cases c1 : 1 ≤ n
      · by_cases c2 : n ≤ 1000
        · have hE := empty_ff (s := t) (fun q => h ⟨c1, c2, q⟩)
          clear h
          go_enter Try.func42, Try.ntmps42
          go_wp2
          go_ret
          exact ⟨rfl, (Below.refl _ _).alloc (Nat.le_refl _) _⟩
        · clear h
          go_enter Try.func42, Try.ntmps42
          go_wp2
          go_ret
          exact ⟨rfl, (Below.refl _ _).alloc (Nat.le_refl _) _⟩
      · clear h
        go_enter Try.func42, Try.ntmps42
        go_wp2
        go_ret
        exact ⟨rfl, (Below.refl _ _).alloc (Nat.le_refl _) _⟩
  · rw [if_neg (fun q => k2 q.1)]
    have k2' : (k == 2) = false := by simpa using k2
    by_cases c1 : 1 ≤ n
    · by_cases c2 : n ≤ 1000
      · have hE := empty_ff (s := t) (fun q => h ⟨c1, c2, q⟩)
        clear h
        by_cases k1 : k = 1
        · subst k1
          go_enter Try.func42, Try.ntmps42
          go_wp2
          go_ret
          exact ⟨rfl, (Below.refl _ _).alloc (Nat.le_refl _) _⟩
        · have k1' : (k == 1) = false := by simpa using k1
          by_cases k3 : k = 3
          · subst k3
            go_enter Try.func42, Try.ntmps42
            go_wp2
            go_ret
            exact ⟨rfl, (Below.refl _ _).alloc (Nat.le_refl _) _⟩
          · have k3' : (k == 3) = false := by simpa using k3
            go_enter Try.func42, Try.ntmps42
            go_wp2
            go_ret
            exact ⟨rfl, (Below.refl _ _).alloc (Nat.le_refl _) _⟩
      · clear h
        by_cases k1 : k = 1
        · subst k1
          go_enter Try.func42, Try.ntmps42
          go_wp2
          go_ret
          exact ⟨rfl, (Below.refl _ _).alloc (Nat.le_refl _) _⟩
        · have k1' : (k == 1) = false := by simpa using k1
          by_cases k3 : k = 3
          · subst k3
            go_enter Try.func42, Try.ntmps42
            go_wp2
            go_ret
            exact ⟨rfl, (Below.refl _ _).alloc (Nat.le_refl _) _⟩
          · have k3' : (k == 3) = false := by simpa using k3
            go_enter Try.func42, Try.ntmps42
            go_wp2
            go_ret
            exact ⟨rfl, (Below.refl _ _).alloc (Nat.le_refl _) _⟩
    · clear h
      by_cases k1 : k = 1
      · subst k1
        go_enter Try.func42, Try.ntmps42
        go_wp2
        go_ret
        exact ⟨rfl, (Below.refl _ _).alloc (Nat.le_refl _) _⟩
      · have k1' : (k == 1) = false := by simpa using k1
        by_cases k3 : k = 3
        · subst k3
          go_enter Try.func42, Try.ntmps42
          go_wp2
          go_ret
          exact ⟨rfl, (Below.refl _ _).alloc (Nat.le_refl _) _⟩
        · have k3' : (k == 3) = false := by simpa using k3
          go_enter Try.func42, Try.ntmps42
          go_wp2
          go_ret
          exact ⟨rfl, (Below.refl _ _).alloc (Nat.le_refl _) _⟩

theorem stepOf_any (o : OpD) (w : World) (ho : o.t.size ≤ maxLen) :
    Calls Try.prog 42 #[.agg #[.int .i64 o.k, .int .i64 o.n, .string o.t]] w fun e w' => e = .returned (stO (stOf o)) ∧ Below w.heap.size w w' := by
  by_cases h : 1 ≤ o.n ∧ o.n ≤ 1000 ∧ o.t.size = 0
  · rw [stOf, if_pos h]
    exact stepOf_yes _ _ _ w h.1 h.2.1 h.2.2
  · rw [stOf, if_neg h]
    exact stepOf_no _ _ _ w ho h

theorem Try.sizeOp : (Try.prog.info? 90).map (·.size) = some 3 := by kernel_rfl
set_option maxRecDepth 20000 in
set_option maxHeartbeats 400000 in
theorem keepOp_any (n : Int) (w : World) : Calls Try.prog 68 #[.int .i64 n] w fun e w' => e = .returned (.agg #[.int .i64 1, .int .i64 n, .string ⟨#[]⟩]) ∧ Below w.heap.size w w' := by
  go_enter Try.func68, Try.ntmps68
  go_wp2
  refine bodyPost_ret (results_cell_row rfl _ _ w.heap.size 90 _ (0, 0) _ rfl (heap_alloc_new w _) Try.underlying90 rfl Try.sizeOp) rfl ?_
  exact ⟨rfl, (Below.refl _ _).alloc (Nat.le_refl _) _⟩
set_option maxRecDepth 20000 in
set_option maxHeartbeats 400000 in
theorem remOp_any (n : Int) (w : World) : Calls Try.prog 69 #[.int .i64 n] w fun e w' => e = .returned (.agg #[.int .i64 3, .int .i64 n, .string ⟨#[]⟩]) ∧ Below w.heap.size w w' := by
  go_enter Try.func69, Try.ntmps69
  go_wp2
  refine bodyPost_ret (results_cell_row rfl _ _ w.heap.size 90 _ (0, 0) _ rfl (heap_alloc_new w _) Try.underlying90 rfl Try.sizeOp) rfl ?_
  exact ⟨rfl, (Below.refl _ _).alloc (Nat.le_refl _) _⟩
set_option maxRecDepth 20000 in
set_option maxHeartbeats 400000 in
theorem insOp_any (t : ByteArray) (w : World) : Calls Try.prog 70 #[.string t] w fun e w' => e = .returned (.agg #[.int .i64 2, .int .i64 0, .string t]) ∧ Below w.heap.size w w' := by
  go_enter Try.func70, Try.ntmps70
  go_wp2
  refine bodyPost_ret (results_cell_row rfl _ _ w.heap.size 90 _ (0, 0) _ rfl (heap_alloc_new w _) Try.underlying90 rfl Try.sizeOp) rfl ?_
  exact ⟨rfl, (Below.refl _ _).alloc (Nat.le_refl _) _⟩
end Go.Proofs.Ytaopfdgebibpeaa
