/-
  Operations and steps as data; the contracts of stepOf and of the methods op.
-/
import Derived.Test.YtjimolafoihnpaaDoorTxUtf
import Derived.Laws.Rows
namespace Go.Proofs.YtjimolafoihnpaaDoor
open Go.ChangeShapes Go.WideShapes Go.ChangeAt Go.RowKit Go.PlainAid

/-- An operation. -/
structure OpD where
  k : Int
  n : Int
  t : ByteArray

def OpD.val (o : OpD) : Value := .agg #[.int .i64 o.k, .int .i64 o.n, .string o.t]
/-- Its numbers are ints, its text is no longer than texts are. -/
structure OpD.Ok (o : OpD) : Prop where
  k0 : -9223372036854775808 ≤ o.k
  k1 : o.k ≤ 9223372036854775807
  n0 : -9223372036854775808 ≤ o.n
  n1 : o.n ≤ 9223372036854775807
  t1 : o.t.size ≤ maxLen

/-- At v lies a delta. -/
def RdD (w : World) (v : Value) (l : List OpD) : Prop :=
  ∃ ao cp, v = .slice ao l.length cp ∧ (l.length ≤ cp ∧ (ao = none → cp = 0)) ∧ ∀ (i : Nat) (o : OpD), l[i]? = some o → ∃ b off, ao = some ⟨b, off, none⟩ ∧ b < w.heap.size ∧ w.cell? ⟨b, off + i * 3, none⟩ = some (.int .i64 o.k) ∧ w.cell? ⟨b, off + i * 3 + 1, none⟩ = some (.int .i64 o.n) ∧ w.cell? ⟨b, off + i * 3 + 2, none⟩ = some (.string o.t)

theorem RdD.below {w w' : World} {v : Value} {l : List OpD} (h : RdD w v l) (hb : Below w.heap.size w w') : RdD w' v l := by
  obtain ⟨ao, cp, e, h0, h1⟩ := h
  refine ⟨ao, cp, e, h0, fun i o hi => ?_⟩
  obtain ⟨b, off, e1, hl, c0, c1, c2⟩ := h1 i o hi
  exact ⟨b, off, e1, Nat.lt_of_lt_of_le hl hb.size, (hb.cell (p := ⟨b, off + i * 3, none⟩) hl).trans c0, (hb.cell (p := ⟨b, off + i * 3 + 1, none⟩) hl).trans c1, (hb.cell (p := ⟨b, off + i * 3 + 2, none⟩) hl).trans c2⟩
theorem RdD.nil (w : World) : RdD w (.slice none 0 0) [] := ⟨none, 0, rfl, ⟨Nat.le_refl _, fun _ => rfl⟩, fun i o h => by simp at h⟩

/-- How many code points a text has; -1: it is not valid. -/
def cplGo (s : ByteArray) : Nat → Nat → Nat → Int
  | 0, _, k => (k : Int)
  | f + 1, p, k => if p < s.size then (if (nx s p).2 = 0 then -1 else cplGo s f (p + (nx s p).2.toNat) (k + 1)) else (k : Int)
def cpl (s : ByteArray) : Int := cplGo s (s.size + 1) 0 0

theorem cplGo_ok {s : ByteArray} {n : Nat} (hv : Valid s n) : ∀ (f j : Nat), j ≤ n → n - j < f → cplGo s f (pos s j) j = (n : Int)
  | 0, _, _, h => by omega
  | f + 1, j, hj, hf => by
    rw [cplGo]
    by_cases h : j = n
    · subst h
      rw [if_neg (by rw [hv.2]; omega)]
    · have h1 := hv.1 j (by omega)
      rw [if_pos h1.1, if_neg h1.2]
      exact cplGo_ok hv f (j + 1) (by omega) (by omega)
theorem cplGo_bad {s : ByteArray} {n : Nat} (hv : Bad s n) : ∀ (f j : Nat), j ≤ n → n - j < f → cplGo s f (pos s j) j = -1
  | 0, _, _, h => by omega
  | f + 1, j, hj, hf => by
    rw [cplGo]
    by_cases h : j = n
    · subst h
      rw [if_pos hv.2.1, if_pos hv.2.2]
    · have h1 := hv.1 j (by omega)
      rw [if_pos h1.1, if_neg h1.2]
      exact cplGo_bad hv f (j + 1) (by omega) (by omega)
theorem cpl_ok {s : ByteArray} {n : Nat} (hv : Valid s n) : cpl s = (n : Int) := by
  have h := pos_le hv.1 n (Nat.le_refl _)
  exact cplGo_ok hv (s.size + 1) 0 (by omega) (by omega)
theorem cpl_bad {s : ByteArray} {n : Nat} (hv : Bad s n) : cpl s = -1 := by
  have h := pos_le hv.1 n (Nat.le_refl _)
  exact cplGo_bad hv (s.size + 1) 0 (by omega) (by omega)
theorem cpl_valid {s : ByteArray} (h : 0 ≤ cpl s) : Valid s (cpl s).toNat := by
  rcases valid_or_bad s with ⟨n, hv⟩ | ⟨k, hb⟩
  · rw [cpl_ok hv]; simpa using hv
  · rw [cpl_bad hb] at h; omega
theorem cpl_le (s : ByteArray) : -1 ≤ cpl s ∧ cpl s ≤ s.size := by
  rcases valid_or_bad s with ⟨n, hv⟩ | ⟨k, hb⟩
  · have h := pos_le hv.1 n (Nat.le_refl _)
    rw [cpl_ok hv]; omega
  · rw [cpl_bad hb]; omega
theorem len_any (s : ByteArray) (w : World) (hs : s.size ≤ maxLen) :
    Calls Tryd.prog 74 #[.string s] w fun e w' => e = .returned (.int .i64 (cpl s)) ∧ w = w' := by
  rcases valid_or_bad s with ⟨n, hv⟩ | ⟨k, hb⟩
  · rw [cpl_ok hv]; exact len_ok s n w hs hv
  · rw [cpl_bad hb]; exact len_bad s k w hs hb

/-- A step. -/
inductive St where
  | keep (n : Nat)
  | rem (n : Nat)
  | ins (t : ByteArray)
def St.val : St → Value
  | .keep n => .iface 151 (.int .i64 (n : Int))
  | .rem n => .iface 152 (.int .i64 (n : Int))
  | .ins t => .iface 153 (.string t)
def St.op : St → OpD
  | .keep n => ⟨1, n, ⟨#[]⟩⟩
  | .rem n => ⟨3, n, ⟨#[]⟩⟩
  | .ins t => ⟨2, 0, t⟩
/-- The step that an operation is. -/
def stOf (o : OpD) : Option St :=
  if 1 ≤ o.n ∧ o.n ≤ 1000 ∧ o.t.size = 0 then (if o.k = 1 then some (.keep o.n.toNat) else if o.k = 3 then some (.rem o.n.toNat) else none)
  else if o.k = 2 ∧ o.n = 0 ∧ 0 < cpl o.t then some (.ins o.t) else none
def stO : Option St → Value
  | none => .nilIface
  | some s => s.val

theorem empty_eq {s : ByteArray} (h : s.size = 0) : s = ⟨#[]⟩ := ByteArray.ext (Array.eq_empty_of_size_eq_zero h)
theorem empty_tt {s : ByteArray} (h : s.size = 0) : s.toList.isEmpty = true := by
  rw [Go.ByteArray.toList_eq]
  have : s.data.toList.length = 0 := by rw [data_len]; exact h
  cases hh : s.data.toList with
  | nil => rfl
  | cons a l => rw [hh] at this; simp at this
theorem empty_ff {s : ByteArray} (h : s.size ≠ 0) : s.toList.isEmpty = false := by
  rw [Go.ByteArray.toList_eq]
  have : s.data.toList.length ≠ 0 := by rw [data_len]; exact h
  cases hh : s.data.toList with
  | nil => rw [hh] at this; simp at this
  | cons a l => rfl

set_option maxRecDepth 20000 in
set_option maxHeartbeats 1000000 in
theorem stepOf_yes (k n : Int) (t : ByteArray) (w : World) (h1 : 1 ≤ n) (h2 : n ≤ 1000) (h3 : t.size = 0) :
    Calls Tryd.prog 73 #[.agg #[.int .i64 k, .int .i64 n, .string t]] w fun e w' => e = .returned (stO (if k = 1 then some (.keep n.toNat) else if k = 3 then some (.rem n.toNat) else none)) ∧ Below w.heap.size w w' := by
  have hE := empty_tt h3
  obtain ⟨m, rfl⟩ := Int.eq_ofNat_of_zero_le (show 0 ≤ n by omega)
  by_cases k1 : k = 1
  · subst k1
    rw [if_pos rfl, Int.toNat_natCast]
    go_enter Tryd.func73, Tryd.ntmps73
    go_wp2
    go_ret
    exact ⟨rfl, (Below.refl _ _).alloc (Nat.le_refl _) _⟩
  · rw [if_neg k1]
    have k1' : (k == 1) = false := by simpa using k1
    by_cases k3 : k = 3
    · subst k3
      rw [if_pos rfl, Int.toNat_natCast]
      clear k1 k1'
      go_enter Tryd.func73, Tryd.ntmps73
      go_wp2
      go_ret
      exact ⟨rfl, (Below.refl _ _).alloc (Nat.le_refl _) _⟩
    · rw [if_neg k3]
      have k3' : (k == 3) = false := by simpa using k3
      by_cases k2 : k = 2
      · subst k2
        clear k1 k1' k3 k3'
        have n0 : ((m : Int) == 0) = false := by simp; omega
        go_enter Tryd.func73, Tryd.ntmps73
        go_wp2
        go_ret
        exact ⟨rfl, (Below.refl _ _).alloc (Nat.le_refl _) _⟩
      · have k2' : (k == 2) = false := by simpa using k2
        go_enter Tryd.func73, Tryd.ntmps73
        go_wp2
        go_ret
        exact ⟨rfl, (Below.refl _ _).alloc (Nat.le_refl _) _⟩

set_option maxRecDepth 20000 in
set_option maxHeartbeats 2000000 in
theorem stepOf_no (k n : Int) (t : ByteArray) (w : World) (ht : t.size ≤ maxLen) (h : ¬ (1 ≤ n ∧ n ≤ 1000 ∧ t.size = 0)) :
    Calls Tryd.prog 73 #[.agg #[.int .i64 k, .int .i64 n, .string t]] w fun e w' => e = .returned (stO (if k = 2 ∧ n = 0 ∧ 0 < cpl t then some (.ins t) else none)) ∧ Below w.heap.size w w' := by
  have hL := fun W => len_any t W ht
  by_cases k2 : k = 2
  · subst k2
    by_cases n0 : n = 0
    · subst n0
      clear h
      by_cases hp : 0 < cpl t
      · rw [if_pos ⟨rfl, rfl, hp⟩]
        generalize cpl t = c at hL hp
        go_enter Tryd.func73, Tryd.ntmps73
        go_wp2_with (go_at_call 74; refine (hL _).mono ?_; rintro e w1 ⟨rfl, rfl⟩)
        go_ret
        exact ⟨rfl, (Below.refl _ _).alloc (Nat.le_refl _) _⟩
      · rw [if_neg (fun q => hp q.2.2)]
        generalize cpl t = c at hL hp
        go_enter Tryd.func73, Tryd.ntmps73
        go_wp2_with (go_at_call 74; refine (hL _).mono ?_; rintro e w1 ⟨rfl, rfl⟩)
        go_ret
        exact ⟨rfl, (Below.refl _ _).alloc (Nat.le_refl _) _⟩
    · rw [if_neg (fun q => n0 q.2.1)]
      have n0' : (n == 0) = false := by simpa using n0
      by_cases c1 : 1 ≤ n
      · by_cases c2 : n ≤ 1000
        · have hE := empty_ff (s := t) (fun q => h ⟨c1, c2, q⟩)
          clear h
          go_enter Tryd.func73, Tryd.ntmps73
          go_wp2
          go_ret
          exact ⟨rfl, (Below.refl _ _).alloc (Nat.le_refl _) _⟩
        · clear h
          go_enter Tryd.func73, Tryd.ntmps73
          go_wp2
          go_ret
          exact ⟨rfl, (Below.refl _ _).alloc (Nat.le_refl _) _⟩
      · clear h
        go_enter Tryd.func73, Tryd.ntmps73
        go_wp2
        go_ret
        exact ⟨rfl, (Below.refl _ _).alloc (Nat.le_refl _) _⟩
  · rw [if_neg (fun q => k2 q.1)]
    have k2' : (k == 2) = false := by simpa using k2
    by_cases c1 : 1 ≤ n
    · by_cases c2 : n ≤ 1000
      · have hE := empty_ff (s := t) (fun q => h ⟨c1, c2, q⟩)
        clear h
        by_cases k1 : k = 1
        · subst k1
          go_enter Tryd.func73, Tryd.ntmps73
          go_wp2
          go_ret
          exact ⟨rfl, (Below.refl _ _).alloc (Nat.le_refl _) _⟩
        · have k1' : (k == 1) = false := by simpa using k1
          by_cases k3 : k = 3
          · subst k3
            go_enter Tryd.func73, Tryd.ntmps73
            go_wp2
            go_ret
            exact ⟨rfl, (Below.refl _ _).alloc (Nat.le_refl _) _⟩
          · have k3' : (k == 3) = false := by simpa using k3
            go_enter Tryd.func73, Tryd.ntmps73
            go_wp2
            go_ret
            exact ⟨rfl, (Below.refl _ _).alloc (Nat.le_refl _) _⟩
      · clear h
        by_cases k1 : k = 1
        · subst k1
          go_enter Tryd.func73, Tryd.ntmps73
          go_wp2
          go_ret
          exact ⟨rfl, (Below.refl _ _).alloc (Nat.le_refl _) _⟩
        · have k1' : (k == 1) = false := by simpa using k1
          by_cases k3 : k = 3
          · subst k3
            go_enter Tryd.func73, Tryd.ntmps73
            go_wp2
            go_ret
            exact ⟨rfl, (Below.refl _ _).alloc (Nat.le_refl _) _⟩
          · have k3' : (k == 3) = false := by simpa using k3
            go_enter Tryd.func73, Tryd.ntmps73
            go_wp2
            go_ret
            exact ⟨rfl, (Below.refl _ _).alloc (Nat.le_refl _) _⟩
    · clear h
      by_cases k1 : k = 1
      · subst k1
        go_enter Tryd.func73, Tryd.ntmps73
        go_wp2
        go_ret
        exact ⟨rfl, (Below.refl _ _).alloc (Nat.le_refl _) _⟩
      · have k1' : (k == 1) = false := by simpa using k1
        by_cases k3 : k = 3
        · subst k3
          go_enter Tryd.func73, Tryd.ntmps73
          go_wp2
          go_ret
          exact ⟨rfl, (Below.refl _ _).alloc (Nat.le_refl _) _⟩
        · have k3' : (k == 3) = false := by simpa using k3
          go_enter Tryd.func73, Tryd.ntmps73
          go_wp2
          go_ret
          exact ⟨rfl, (Below.refl _ _).alloc (Nat.le_refl _) _⟩

theorem stepOf_any (o : OpD) (w : World) (ho : o.t.size ≤ maxLen) :
    Calls Tryd.prog 73 #[.agg #[.int .i64 o.k, .int .i64 o.n, .string o.t]] w fun e w' => e = .returned (stO (stOf o)) ∧ Below w.heap.size w w' := by
  by_cases h : 1 ≤ o.n ∧ o.n ≤ 1000 ∧ o.t.size = 0
  · rw [stOf, if_pos h]
    exact stepOf_yes _ _ _ w h.1 h.2.1 h.2.2
  · rw [stOf, if_neg h]
    exact stepOf_no _ _ _ w ho h

theorem Tryd.sizeOp : (Tryd.prog.info? 106).map (·.size) = some 3 := by kernel_rfl
end Go.Proofs.YtjimolafoihnpaaDoor

/-
  The contracts of lengths and stepsOf, Check, Base and Target.
-/
namespace Go.Proofs.YtjimolafoihnpaaDoor
open Go.ChangeShapes Go.WideShapes Go.ChangeAt Go.RowKit Go.PlainAid

/-- The slice v reads as these values, one a cell. -/
def RdV (w : World) (v : Value) (xs : List Value) : Prop :=
  ∃ ao cp, v = .slice ao xs.length cp ∧ ∀ (i : Nat) (x : Value), xs[i]? = some x → ∃ b off, ao = some ⟨b, off, none⟩ ∧ b < w.heap.size ∧ w.cell? ⟨b, off + i, none⟩ = some x

theorem RdV.below {w w' : World} {v : Value} {l : List Value} (h : RdV w v l) (hb : Below w.heap.size w w') : RdV w' v l := by
  obtain ⟨ao, cp, e, h1⟩ := h
  refine ⟨ao, cp, e, fun i o hi => ?_⟩
  obtain ⟨b, off, e1, hl, c0⟩ := h1 i o hi
  exact ⟨b, off, e1, Nat.lt_of_lt_of_le hl hb.size, (hb.cell (p := ⟨b, off + i, none⟩) hl).trans c0⟩
theorem rdv_own {w : World} {base e : Nat} {v : Value} {xs : List Value} {n : Nat} (h : w.ownsRow base e 1 v n xs) : RdV w v xs := by
  have hl := h.1
  rcases h.2 with ⟨rfl, h0⟩ | ⟨g, cap, cur, rfl, hb, hg, hn, _, hc, ht⟩
  · subst h0
    have : xs = [] := List.eq_nil_of_length_eq_zero (by omega)
    subst this
    exact ⟨none, 0, rfl, fun i x h => by simp at h⟩
  · refine ⟨_, cap, by rw [hl, Nat.mul_one], fun i x hx => ⟨g, 0, rfl, ?_, ?_⟩⟩
    · exact (h.lt g rfl).2
    · have := h.cells (g := g) rfl i x hx
      have hadd : (⟨g, 0, none⟩ : Addr).add i = ⟨g, 0 + i, none⟩ := by unfold Addr.add; split <;> simp_all
      rw [hadd] at this
      exact this

def St.b : St → Nat
  | .keep n => n
  | .rem n => n
  | .ins _ => 0
def St.c : St → Nat
  | .keep n => n
  | .rem _ => 0
  | .ins t => (cpl t).toNat
def bsum (l : List St) : Nat := (l.map St.b).sum
def tsum (l : List St) : Nat := (l.map St.c).sum
def sv (l : List St) : List Value := l.map St.val
/-- A step that may be. -/
def St.Ok : St → Prop
  | .keep n => 1 ≤ n ∧ n ≤ 1000
  | .rem n => 1 ≤ n ∧ n ≤ 1000
  | .ins t => 0 < cpl t ∧ t.size ≤ 140737488355328

theorem sv_length (l : List St) : (sv l).length = l.length := by simp [sv]
theorem sv_append (a b : List St) : sv (a ++ b) = sv a ++ sv b := by simp [sv]
theorem bsum_append (a b : List St) : bsum (a ++ b) = bsum a + bsum b := by simp [bsum]
theorem tsum_append (a b : List St) : tsum (a ++ b) = tsum a + tsum b := by simp [tsum]
theorem bsum_take (l : List St) (k : Nat) (h : k < l.length) : bsum (l.take (k + 1)) = bsum (l.take k) + (l[k]).b := by
  rw [List.take_succ_eq_append_getElem h, bsum_append]; simp [bsum]
theorem tsum_take (l : List St) (k : Nat) (h : k < l.length) : tsum (l.take (k + 1)) = tsum (l.take k) + (l[k]).c := by
  rw [List.take_succ_eq_append_getElem h, tsum_append]; simp [tsum]
theorem st_bd {s : St} (h : s.Ok) : s.b ≤ 1000 ∧ s.c ≤ 140737488355328 := by
  cases s with
  | keep n => simp [St.Ok] at h; simp [St.b, St.c]; omega
  | rem n => simp [St.Ok] at h; simp [St.b, St.c]; omega
  | ins t => simp [St.Ok] at h; have := cpl_le t; simp [St.b, St.c]; omega
theorem sum_bd : ∀ (l : List St), (∀ s ∈ l, s.Ok) → bsum l ≤ 1000 * l.length ∧ tsum l ≤ 140737488355328 * l.length
  | [], _ => by simp [bsum, tsum]
  | s :: l, h => by
    have h1 := st_bd (h s (by simp))
    have h2 := sum_bd l (fun x hx => h x (by simp [hx]))
    have e1 : bsum (s :: l) = s.b + bsum l := by simp [bsum]
    have e2 : tsum (s :: l) = s.c + tsum l := by simp [tsum]
    rw [e1, e2, List.length_cons]
    omega
theorem ok_take {l : List St} (h : ∀ s ∈ l, s.Ok) (k : Nat) : ∀ s ∈ l.take k, s.Ok := fun s hs => h s (List.mem_of_mem_take hs)

theorem ta_kk (v : Value) (W : World) : (Instr.typeAssert (.iface 151 v) 149 151 true).run Tryd.prog W = .ok (.tuple #[v, .bool true]) W := by kernel_rfl
theorem ta_rk (v : Value) (W : World) : (Instr.typeAssert (.iface 152 v) 149 151 true).run Tryd.prog W = .ok (.tuple #[.int .i64 0, .bool false]) W := by kernel_rfl
theorem ta_rr (v : Value) (W : World) : (Instr.typeAssert (.iface 152 v) 149 152 true).run Tryd.prog W = .ok (.tuple #[v, .bool true]) W := by kernel_rfl
theorem ta_ik (v : Value) (W : World) : (Instr.typeAssert (.iface 153 v) 149 151 true).run Tryd.prog W = .ok (.tuple #[.int .i64 0, .bool false]) W := by kernel_rfl
theorem ta_ir (v : Value) (W : World) : (Instr.typeAssert (.iface 153 v) 149 152 true).run Tryd.prog W = .ok (.tuple #[.int .i64 0, .bool false]) W := by kernel_rfl
theorem ta_ii (v : Value) (W : World) : (Instr.typeAssert (.iface 153 v) 149 153 true).run Tryd.prog W = .ok (.tuple #[v, .bool true]) W := by kernel_rfl

set_option maxRecDepth 20000 in
set_option maxHeartbeats 2000000 in
theorem lengths_any (v : Value) (l : List St) (w : World) (hr : RdV w v (sv l)) (hl : l.length ≤ 3000) (ho : ∀ s ∈ l, s.Ok) :
    Calls Tryd.prog 45 #[v] w fun e w' => e = .returned (.tuple #[.int .i64 (bsum l : Int), .int .i64 (tsum l : Int)]) ∧ w = w' := by
  obtain ⟨ao, cp, rfl, hc⟩ := hr
  rw [sv_length]
  have kk := ta_kk
  have rk := ta_rk
  have rr := ta_rr
  have ik := ta_ik
  have ir := ta_ir
  have ii := ta_ii
  go_enter Tryd.func45, Tryd.ntmps45
  go_wp2
  go_loop [2, 3, 11] (fun b t i => ∃ k : Nat, k ≤ l.length ∧ i = .int .i64 (k : Int) ∧ b = .int .i64 (bsum (l.take k) : Int) ∧ t = .int .i64 (tsum (l.take k) : Int)) (fun _ _ i => l.length - (intOf i).toNat)
  case atStart => exact ⟨0, by omega, rfl, rfl, rfl⟩
  case round =>
    obtain ⟨k, hk, rfl, rfl, rfl⟩ := hrel
    have hsb := sum_bd _ (ok_take ho k)
    have hkl : (l.take k).length ≤ 3000 := by rw [List.length_take]; omega
    have b1 : (bsum (l.take k) : Int) ≤ 3000000 := by omega
    have t1 : (tsum (l.take k) : Int) ≤ 422212465065984000 := by omega
    clear hsb hkl
    by_cases hlt : k < l.length
    · have hlt' : (k : Int) < (l.length : Int) := by omega
      have hsk := ho l[k] (List.getElem_mem hlt)
      have HB : Hid (bsum (l.take (k + 1)) = bsum (l.take k) + (l[k]).b ∧ tsum (l.take (k + 1)) = tsum (l.take k) + (l[k]).c) := ⟨bsum_take l k hlt, tsum_take l k hlt⟩
      obtain ⟨b, off, rfl, hbl, c0⟩ := hc k (l[k]).val (by simp [sv, hlt])
      generalize l[k] = s at hsk HB c0
      clear hc ho
      generalize bsum (l.take k) = B at *
      generalize tsum (l.take k) = T at *
      cases s with
      | keep n =>
        simp only [St.val, St.Ok, St.b, St.c] at c0 hsk HB
        have n1 : (n : Int) ≤ 1000 := by omega
        go_wp2
        go_round
        case rel => exact ⟨k + 1, by omega, by go_num, by rw [HB.out.1]; go_num, by rw [HB.out.2]; go_num⟩
        case measure => simp [intOf]; omega
      | rem n =>
        simp only [St.val, St.Ok, St.b, St.c] at c0 hsk HB
        have n1 : (n : Int) ≤ 1000 := by omega
        go_wp2
        go_round
        case rel => exact ⟨k + 1, by omega, by go_num, by rw [HB.out.1]; go_num, by rw [HB.out.2]; go_num⟩
        case measure => simp [intOf]; omega
      | ins t =>
        simp only [St.val, St.Ok, St.b, St.c] at c0 hsk HB
        have hL := len_any t w (by unfold maxLen; omega)
        have hcl := cpl_le t
        obtain ⟨n, hn⟩ := Int.eq_ofNat_of_zero_le (show 0 ≤ cpl t by omega)
        rw [hn] at hL
        have n1 : (n : Int) ≤ 140737488355328 := by omega
        rw [hn, Int.toNat_natCast] at HB
        clear hcl hsk hn
        go_wp2_with (go_at_call 74; refine hL.mono ?_; rintro e w1 ⟨rfl, rfl⟩)
        go_round
        case rel => exact ⟨k + 1, by omega, by go_num, by rw [HB.out.1]; go_num, by rw [HB.out.2]; go_num⟩
        case measure => simp [intOf]; omega
    · have e : k = l.length := by omega
      subst e
      rw [List.take_length]
      go_wp2
      go_ret2
      exact ⟨rfl, rfl⟩
end Go.Proofs.YtjimolafoihnpaaDoor

/-
  The contracts of stepsOf, Check, Base and Target.
-/
namespace Go.Proofs.YtjimolafoihnpaaDoor
open Go.ChangeShapes Go.WideShapes Go.ChangeAt Go.RowKit Go.PlainAid

theorem Tryd.infoSt : (Tryd.prog.info? 149).map (fun i => (i.zero, i.size, i.bytes)) = some (some .nilIface, 1, 16) := by kernel_rfl

/-- A text that came in is no longer than memory. -/
def OpD.In (o : OpD) : Prop := o.t.size ≤ 140737488355328
/-- The steps of operations. -/
def stl (ds : List OpD) : List St := ds.filterMap stOf
/-- Check's error. -/
def chk (ds : List OpD) : Int := if 3000 < ds.length then 90 else if ds.any (fun o => (stOf o).isNone) then 90 else if 1000 < bsum (stl ds) ∨ 1000 < tsum (stl ds) then 91 else 0
def stR (ds : List OpD) : List St := if chk ds = 0 then stl ds else []

theorem stl_len (ds : List OpD) : (stl ds).length ≤ ds.length := List.length_filterMap_le ..
theorem stl_take {ds : List OpD} {k : Nat} (h : k < ds.length) {s : St} (hs : stOf ds[k] = some s) : stl (ds.take (k + 1)) = stl (ds.take k) ++ [s] := by
  rw [List.take_succ_eq_append_getElem h, stl, stl, List.filterMap_append]
  simp [hs]
theorem stOf_ok {o : OpD} {s : St} (hi : o.In) (h : stOf o = some s) : s.Ok := by
  unfold stOf at h
  split at h
  · rename_i h1
    split at h
    · cases h; simp only [St.Ok]; omega
    · split at h
      · cases h; simp only [St.Ok]; omega
      · cases h
  · split at h
    · rename_i h1
      cases h; exact ⟨h1.2.2, hi⟩
    · cases h
theorem stl_ok {ds : List OpD} (hi : ∀ o ∈ ds, o.In) : ∀ s ∈ stl ds, s.Ok := by
  intro s hs
  obtain ⟨o, ho, h⟩ := List.mem_filterMap.1 hs
  exact stOf_ok (hi o ho) h
theorem stR_ok {ds : List OpD} (hi : ∀ o ∈ ds, o.In) : ∀ s ∈ stR ds, s.Ok := by
  unfold stR
  split
  · exact stl_ok hi
  · simp
theorem any_none {ds : List OpD} {k : Nat} (h : k < ds.length) (hs : stOf ds[k] = none) : ds.any (fun o => (stOf o).isNone) = true :=
  List.any_eq_true.2 ⟨ds[k], List.getElem_mem h, by rw [hs]; rfl⟩
theorem stR_len (ds : List OpD) : (stR ds).length ≤ 3000 := by
  unfold stR
  split
  · rename_i h
    unfold chk at h
    split at h
    · omega
    · have := stl_len ds; omega
  · simp
theorem stR_bd (ds : List OpD) : bsum (stR ds) ≤ 1000 ∧ tsum (stR ds) ≤ 1000 := by
  unfold stR
  split
  · rename_i h
    unfold chk at h
    split at h; · omega
    split at h; · omega
    split at h; · omega
    omega
  · simp [bsum, tsum]
theorem chk_no (ds : List OpD) (h : chk ds ≠ 0) : stR ds = [] := if_neg h
theorem chk_yes (ds : List OpD) (h : chk ds = 0) : stR ds = stl ds := if_pos h
theorem nil_ne (v : Value) (T : TypeId) (W : World) : (binOp .eql 149 (.iface T v) .nilIface).run Tryd.prog W = .ok (.bool false) W := by kernel_rfl
theorem nil_eq (W : World) : (binOp .eql 149 .nilIface .nilIface).run Tryd.prog W = .ok (.bool true) W := by kernel_rfl
theorem val_ne (s : St) (W : World) : (binOp .eql 149 s.val .nilIface).run Tryd.prog W = .ok (.bool false) W := by
  cases s <;> exact nil_ne _ _ W
theorem val_one (s : St) : s.val.oneCell' = true := by cases s <;> rfl

set_option maxRecDepth 20000 in
set_option maxHeartbeats 4000000 in
theorem stepsOf_any (v : Value) (ds : List OpD) (w : World) (hr : RdD w v ds) (hm : ds.length ≤ maxLen) (hi : ∀ o ∈ ds, o.In) :
    Calls Tryd.prog 44 #[v] w fun e w' => ∃ u, e = .returned (.tuple #[u, .int .i64 (chk ds)]) ∧ w'.ownsRow w.heap.size 149 1 u (stR ds).length (sv (stR ds)) ∧ Below w.heap.size w w' := by
  obtain ⟨i0, hin, hz0, hz1, hz2⟩ := info_parts Tryd.infoSt
  obtain ⟨ao, cp, rfl, _, hc⟩ := hr
  unfold maxLen at hm
  by_cases hbig : 3000 < ds.length
  · have e1 : chk ds = 90 := by rw [chk, if_pos hbig]
    have e2 : stR ds = [] := chk_no ds (by rw [e1]; decide)
    rw [e1, e2]
    have hb' : (3000 : Int) < (ds.length : Int) := by omega
    clear hc hi hin hz0 hz1 hz2
    go_enter Tryd.func44, Tryd.ntmps44
    go_wp2
    go_ret2
    exact ⟨_, rfl, World.ownsRow_nil _ _ _ _, Below.refl _ _⟩
  · have hb' : ¬ (3000 : Int) < (ds.length : Int) := by omega
    have hvn := val_ne
    have hnn := nil_eq
    have HC : Hid (chk ds = if ds.any (fun o => (stOf o).isNone) then 90 else if 1000 < bsum (stl ds) ∨ 1000 < tsum (stl ds) then 91 else 0) := by show _ = _; rw [chk, if_neg hbig]
    go_enter Tryd.func44, Tryd.ntmps44
    go_wp2_with (refine wpList_make_own _ rfl _ (.tmp 14) 97 rfl w.heap.size 149 i0 .nilIface 1 Tryd.underlying97 hin hz0 hz1 .i64 .i64 (ds.length : Int) ds.length rfl rfl rfl (by rw [hz2]; omega) (by unfold maxLen; omega) (Nat.le_refl _) ?_; intro w2 ho2 hg2)
    have hb2 : Below w.heap.size w w2 := ⟨hg2.os, hg2.tape, hg2.output, hg2.size, fun k hk => hg2.block k hk (by simp)⟩
    clear hg2
    go_loopw [4, 18] (fun t i wr => ∃ k : Nat, k ≤ ds.length ∧ i = .int .i64 (k : Int) ∧ wr.ownsRow w.heap.size 149 1 t (stl (ds.take k)).length (sv (stl (ds.take k))) ∧ Below w.heap.size w wr ∧ Hid (∀ j (h : j < ds.length), j < k → stOf ds[j] ≠ none)) (fun _ i _ => ds.length - (intOf i).toNat)
    case atStart => exact ⟨0, by omega, rfl, ho2, hb2, fun j _ hj => by omega⟩
    case round =>
      obtain ⟨k, hk, rfl, hown, hbl, hall⟩ := hrel
      clear ho2
      have hsz := hbl.size
      by_cases hlt : k < ds.length
      · have hlt' : (k : Int) < (ds.length : Int) := by omega
        obtain ⟨b, off, rfl, hbb, c0, c1, c2⟩ := hc k ds[k] (by simp [hlt])
        have hBc : ∀ o, wr.cell? ⟨b, o, none⟩ = w.cell? ⟨b, o, none⟩ := fun o => hbl.cell (p := ⟨b, o, none⟩) hbb
        rw [← hBc] at c0 c1 c2
        have hin' := hi ds[k] (List.getElem_mem hlt)
        have HT : Hid (∀ s, stOf ds[k] = some s → stl (ds.take (k + 1)) = stl (ds.take k) ++ [s]) := fun s hs => stl_take hlt hs
        have HN : Hid (stOf ds[k] = none → chk ds = 90 ∧ stR ds = []) := fun hn => by
          have e1 : chk ds = 90 := by rw [HC.out, if_pos (any_none hlt hn)]
          exact ⟨e1, chk_no ds (by rw [e1]; decide)⟩
        have HA : Hid (∀ s, stOf ds[k] = some s → ∀ j (h : j < ds.length), j < k + 1 → stOf ds[j] ≠ none) := fun s hs j h hj => by
          by_cases e : j = k
          · subst e; rw [hs]; simp
          · exact hall.out j h (by omega)
        have hlen : (stl (ds.take k)).length ≤ 3000 := by have := stl_len (ds.take k); rw [List.length_take] at this; omega
        clear hBc hc hi hall HC
        generalize ds[k] = o at *
        have hS := fun W => stepOf_any o W (by unfold OpD.In at hin'; unfold maxLen; omega)
        cases ho : stOf o with
        | none =>
          rw [ho] at hS
          simp only [stO] at hS
          have HN' := HN.out ho
          have HQ : Hid (chk ds = 90 ∧ stR ds = []) := HN'
          clear HN HT HA ho HN'
          go_wp2_with (go_at_call 73; refine (hS _).mono ?_; rintro e w3 ⟨rfl, hb3⟩)
          go_ret2
          refine ⟨_, by rw [HQ.out.1]; rfl, ?_, ?_⟩
          · rw [HQ.out.2]
            exact World.ownsRow_nil _ _ _ _
          · exact ((hbl.alloc hsz _)).trans (hb3.mono (by simp; omega))
        | some s =>
          rw [ho] at hS
          simp only [stO] at hS
          have HT' : Hid (stl (ds.take (k + 1)) = stl (ds.take k) ++ [s]) := HT.out s ho
          have HA' : Hid (∀ j (h : j < ds.length), j < k + 1 → stOf ds[j] ≠ none) := HA.out s ho
          clear HN HT HA ho
          have HV : Hid (sv (stl (ds.take k) ++ [s]) = sv (stl (ds.take k)) ++ [s.val]) := by show _ = _; rw [sv_append]; rfl
          obtain ⟨T, u, hT⟩ : ∃ T u, s.val = .iface T u := by cases s <;> exact ⟨_, _, rfl⟩
          rw [hT] at hS HV
          have h1 := nil_ne u T
          clear hT hvn
          go_wp2_with (first | (go_at_call 73; refine (hS _).mono ?_; rintro e w3 ⟨rfl, hb3⟩; have hown3 := own_below (hown.alloc _) hb3; have hs3 := hb3.size; simp only [World.size_alloc] at hs3) | (at_builtin; refine wpList_append_own _ rfl (.tmp 26) (.tmp 28) 97 rfl w.heap.size 149 i0 .nilIface 1 16 Tryd.underlying97 hin hz0 hz1 hz2 rfl (by decide) _ _ _ rfl (hown3.alloc _) ⟨_, 0, none⟩ 1 1 [.iface T u] rfl rfl (one_new _ _ _) (one_one _ rfl) (by unfold maxLen; omega) (by omega) (by simp; omega) ?_; intro v' w4 ho4 hg4 hnil4))
          have R2 := below_app (Nat.le_refl _) ((hbl.alloc hsz _).trans (hb3.mono (by simp; omega))) hown3 hg4
          go_roundw
          case rel =>
            refine ⟨k + 1, by omega, by go_num, ?_, R2, HA'.out⟩
            rw [HT'.out, HV.out, List.length_append]
            exact ho4
          case measure => simp [intOf]; omega
      · have e : k = ds.length := by omega
        subst e
        rw [List.take_length] at hown
        have hany : ds.any (fun o => (stOf o).isNone) = false := by
          rw [List.any_eq_false]
          intro o ho
          obtain ⟨j, hj, rfl⟩ := List.getElem_of_mem ho
          have := hall.out j hj hj
          cases hh : stOf ds[j] with
          | none => exact absurd hh this
          | some s => simp
        have HC2 : Hid (chk ds = if 1000 < bsum (stl ds) ∨ 1000 < tsum (stl ds) then 91 else 0) := by show _ = _; rw [HC.out, hany]; rfl
        have hll := stl_len ds
        have hsk := stl_ok hi
        have hL := lengths_any _ (stl ds) wr (rdv_own hown) (by omega) hsk
        have hsb := sum_bd _ hsk
        clear hall HC hc hi hany hin hz0 hz1 hz2
        generalize hB : bsum (stl ds) = B at *
        generalize hT : tsum (stl ds) = T at *
        have hB1 : (B : Int) ≤ 3000000 := by omega
        have hT1 : (T : Int) ≤ 422212465065984000 := by omega
        by_cases c1 : (1000 : Int) < (B : Int)
        · have HQ : Hid (chk ds = 91 ∧ stR ds = []) := by
            have e1 : chk ds = 91 := by rw [HC2.out, if_pos (.inl (by omega))]
            exact ⟨e1, chk_no ds (by rw [e1]; decide)⟩
          clear HC2 hB hT hsb hsk hll
          go_wp2_with (go_at_call 45; refine hL.mono ?_; rintro e w3 ⟨rfl, rfl⟩)
          go_ret2
          exact ⟨_, by rw [HQ.out.1]; rfl, by rw [HQ.out.2]; exact World.ownsRow_nil _ _ _ _, hbl⟩
        · by_cases c2 : (1000 : Int) < (T : Int)
          · have HQ : Hid (chk ds = 91 ∧ stR ds = []) := by
              have e1 : chk ds = 91 := by rw [HC2.out, if_pos (.inr (by omega))]
              exact ⟨e1, chk_no ds (by rw [e1]; decide)⟩
            clear HC2 hB hT hsb hsk hll
            go_wp2_with (go_at_call 45; refine hL.mono ?_; rintro e w3 ⟨rfl, rfl⟩)
            go_ret2
            exact ⟨_, by rw [HQ.out.1]; rfl, by rw [HQ.out.2]; exact World.ownsRow_nil _ _ _ _, hbl⟩
          · have HQ : Hid (chk ds = 0 ∧ stR ds = stl ds) := by
              have e1 : chk ds = 0 := by rw [HC2.out, if_neg (by omega)]
              exact ⟨e1, chk_yes ds e1⟩
            clear HC2 hB hT hsb hsk hll
            go_wp2_with (go_at_call 45; refine hL.mono ?_; rintro e w3 ⟨rfl, rfl⟩)
            go_ret2
            exact ⟨_, by rw [HQ.out.1]; rfl, by rw [HQ.out.2]; exact hown, hbl⟩

theorem base_any (v : Value) (ds : List OpD) (w : World) (hr : RdD w v ds) (hm : ds.length ≤ maxLen) (hi : ∀ o ∈ ds, o.In) :
    Calls Tryd.prog 18 #[v] w fun e w' => e = .returned (.tuple #[.int .i64 (bsum (stR ds) : Int), .int .i64 (chk ds)]) ∧ Below w.heap.size w w' := by
  have hS := stepsOf_any v ds w hr hm hi
  have hL := fun u W h => lengths_any u (stR ds) W h (stR_len ds) (stR_ok hi)
  go_enter Tryd.func18, Tryd.ntmps18
  go_wp2_with (first | (go_at_call 44; refine hS.mono ?_; rintro e w1 ⟨u, rfl, ho1, hb1⟩) | (go_at_call 45; refine (hL _ _ (rdv_own ho1)).mono ?_; rintro e w2 ⟨rfl, rfl⟩))
  go_ret2
  exact ⟨rfl, hb1⟩
end Go.Proofs.YtjimolafoihnpaaDoor
