/-
  Rows of atoms told apart by their keys: who has whom, pieces between some of them, what two rows that fit have in common. No walk.
-/
import Derived.Test.YtjimolafoihnpaaDoorDpG
import Derived.Test.YtjimolafoihnpaaDoorDqA
import Derived.Test.YtjimolafoihnpaaDoorDoH
namespace Go.Proofs.YtjimolafoihnpaaDoor
open Go.ChangeShapes Go.WideShapes Go.ChangeAt Go.RowKit Go.PlainAid

/-- The keys of a row. -/
def kL (A : List Atm) : List AtK := A.map Atm.key
/-- Has a row this atom? -/
def hasK (A : List Atm) (x : Atm) : Bool := decide (x.key ∈ kL A)
theorem hasK_iff {A : List Atm} {x : Atm} : hasK A x = true ↔ ∃ y ∈ A, y.key = x.key := by simp [hasK, kL]
/-- The place of a key. -/
def plK (A : List Atm) (k : AtK) : Option Nat := (kL A).findIdx? (fun y => decide (y = k))
theorem plK_none {A : List Atm} {k : AtK} : plK A k = none ↔ k ∉ kL A := by
  unfold plK
  rw [List.findIdx?_eq_none_iff]
  constructor
  · intro h hk
    have := h k hk
    simp at this
  · intro h y hy
    simp only [decide_eq_false_iff_not]
    intro e
    exact h (e ▸ hy)
theorem plK_some {A : List Atm} (hn : (kL A).Nodup) {k : AtK} {i : Nat} : plK A k = some i ↔ (kL A)[i]? = some k := by
  unfold plK
  rw [List.findIdx?_eq_some_iff_getElem]
  constructor
  · rintro ⟨h, h1, -⟩
    simp only [decide_eq_true_eq] at h1
    rw [List.getElem?_eq_getElem h, h1]
  · intro h
    obtain ⟨hi, h1⟩ := List.getElem?_eq_some_iff.1 h
    refine ⟨hi, by simp [h1], fun j hj => ?_⟩
    simp only [decide_eq_true_eq]
    intro e
    have := (List.getElem_inj (h₀ := by omega) (h₁ := hi) hn).1 (e.trans h1.symm)
    omega
/-- The pieces of a row: those done, the one on its way, what is to come. -/
def gpG (p : Atm → Bool) : List (List Atm) → List Atm → List Atm → List (List Atm)
  | D, c, [] => D ++ [c]
  | D, c, x :: l => if p x = true then gpG p (D ++ [c]) [] l else gpG p D (c ++ [x]) l
theorem gpG_drop {p : Atm → Bool} {D : List (List Atm)} {c l : List Atm} {i : Nat} (hi : i < l.length) : gpG p D c (l.drop i) = if p l[i] = true then gpG p (D ++ [c]) [] (l.drop (i + 1)) else gpG p D (c ++ [l[i]]) (l.drop (i + 1)) := by
  rw [List.drop_eq_getElem_cons hi, gpG]
theorem gpG_len (p : Atm → Bool) : ∀ (l : List Atm) (D : List (List Atm)) (c : List Atm), (gpG p D c l).length = D.length + 1 + (l.filter p).length
  | [], D, c => by simp [gpG]
  | x :: l, D, c => by
    rw [gpG]
    split
    · rename_i h
      rw [gpG_len p l, List.filter_cons, if_pos h]
      simp
      omega
    · rename_i h
      rw [gpG_len p l, List.filter_cons, if_neg h]
/-- What the pieces hold, in all. -/
theorem gpG_all (p : Atm → Bool) : ∀ (l : List Atm) (D : List (List Atm)) (c : List Atm), (gpG p D c l).flatten = D.flatten ++ c ++ l.filter (fun x => !p x)
  | [], D, c => by simp [gpG]
  | x :: l, D, c => by
    rw [gpG]
    split
    · rename_i h
      rw [gpG_all p l, List.filter_cons, if_neg (by simp [h])]
      simp
    · rename_i h
      rw [gpG_all p l, List.filter_cons, if_pos (by simp [h])]
      simp
theorem gpG_sum (p : Atm → Bool) (l : List Atm) : ((gpG p [] [] l).flatten).length ≤ l.length := by
  rw [gpG_all]
  simp only [List.flatten_nil, List.nil_append]
  exact List.length_filter_le ..
theorem gpG_mem {p : Atm → Bool} {l : List Atm} {g : List Atm} (h : g ∈ gpG p [] [] l) : ∀ x ∈ g, x ∈ l := fun x hx => by
  have : x ∈ (gpG p [] [] l).flatten := List.mem_flatten.2 ⟨g, h, hx⟩
  rw [gpG_all] at this
  simp only [List.flatten_nil, List.nil_append] at this
  exact (List.mem_filter.1 this).1
theorem gpG_small {p : Atm → Bool} {l : List Atm} {g : List Atm} (h : g ∈ gpG p [] [] l) : g.length ≤ l.length := by
  have h1 := gpG_sum p l
  have : g.length ≤ ((gpG p [] [] l).flatten).length := by
    obtain ⟨P, Q, e⟩ := List.append_of_mem h
    rw [e]
    simp
    omega
  omega
/-- Do the atoms that both have stand alike in a, with the same code points? From the place `last` on. -/
def fitG (A : List Atm) : Int → List Atm → Bool
  | _, [] => true
  | last, x :: l => match plK A x.key with
    | none => fitG A last l
    | some i => if (i : Int) < last ∨ ¬ ((A[i]?.map Atm.z) = some x.z) then false else fitG A (i : Int) l
def fitD (A B : List Atm) : Bool := fitG A (-1) B
theorem fitG_drop {A B : List Atm} {last : Int} {i : Nat} (hi : i < B.length) : fitG A last (B.drop i) = match plK A B[i].key with
    | none => fitG A last (B.drop (i + 1))
    | some j => if (j : Int) < last ∨ ¬ ((A[j]?.map Atm.z) = some B[i].z) then false else fitG A (j : Int) (B.drop (i + 1)) := by
  rw [List.drop_eq_getElem_cons hi, fitG]
theorem sub_len : ∀ {a b : List AtK}, a.Nodup → (∀ k ∈ a, k ∈ b) → a.length ≤ b.length
  | [], b, _, _ => by simp
  | x :: a, b, hn, hs => by
    have hx : x ∈ b := hs x (by simp)
    obtain ⟨h1, h2⟩ := List.nodup_cons.1 hn
    have := sub_len (a := a) (b := b.erase x) h2 (fun k hk => (List.mem_erase_of_ne (fun (e : k = x) => h1 (by rw [← e]; exact hk))).2 (hs k (by simp [hk])))
    rw [List.length_erase_of_mem hx] at this
    have := List.length_pos_of_mem hx
    simp only [List.length_cons]
    omega
/-- Rows that have the same keys in common have equally many of them. -/
theorem common_len {A X : List Atm} (hA : (kL A).Nodup) (hX : (kL X).Nodup) (P : AtK → Bool) : (A.filter (fun x => decide (x.key ∈ kL X) && P x.key)).length = (X.filter (fun x => decide (x.key ∈ kL A) && P x.key)).length := by
  have key : ∀ (B C : List Atm), (kL B).Nodup → (kL C).Nodup → (B.filter (fun x => decide (x.key ∈ kL C) && P x.key)).length ≤ (C.filter (fun x => decide (x.key ∈ kL B) && P x.key)).length := by
    intro B C hB hC
    have e1 : (B.filter (fun x => decide (x.key ∈ kL C) && P x.key)).length = ((kL B).filter (fun k => decide (k ∈ kL C) && P k)).length := by
      unfold kL
      rw [List.filter_map, List.length_map]
      rfl
    have e2 : (C.filter (fun x => decide (x.key ∈ kL B) && P x.key)).length = ((kL C).filter (fun k => decide (k ∈ kL B) && P k)).length := by
      unfold kL
      rw [List.filter_map, List.length_map]
      rfl
    rw [e1, e2]
    refine sub_len (hB.filter _) ?_
    intro k hk
    rw [List.mem_filter] at hk ⊢
    obtain ⟨h1, h2⟩ := hk
    simp only [Bool.and_eq_true, decide_eq_true_eq] at h2 ⊢
    exact ⟨h2.1, h1, h2.2⟩
  exact Nat.le_antisymm (key A X hA hX) (key X A hX hA)
end Go.Proofs.YtjimolafoihnpaaDoor

/-
  Units in the world; the map of places, keyed by atoms.
-/
namespace Go.Proofs.YtjimolafoihnpaaDoor
open Go.Maps Go.ChangeShapes Go.WideShapes Go.ChangeAt Go.RowKit Go.PlainAid

theorem Tryd.infoUnit : (Tryd.prog.info? 136).map (fun i => (i.zero, i.size, i.bytes)) = some (some (.agg #[.int .i64 0, .int .i64 0, .int .i64 0, .int .i32 0]), 4, 32) := by kernel_rfl
/-- Atoms as cells of units. -/
def ucs (l : List Atm) : List Value := (l.map fun x => [Value.int .i64 x.c, .int .i64 x.q, .int .i64 x.n, .int .i32 x.z]).flatten
theorem ucs_append (a b : List Atm) : ucs (a ++ b) = ucs a ++ ucs b := by simp [ucs]
theorem ucs_one (x : Atm) : ucs [x] = [Value.int .i64 x.c, .int .i64 x.q, .int .i64 x.n, .int .i32 x.z] := by simp [ucs]
theorem ucs_cons (x : Atm) (l : List Atm) : ucs (x :: l) = .int .i64 x.c :: .int .i64 x.q :: .int .i64 x.n :: .int .i32 x.z :: ucs l := by simp [ucs]
theorem ucs_length : ∀ (l : List Atm), (ucs l).length = l.length * 4
  | [] => rfl
  | x :: l => by rw [ucs_cons]; simp only [List.length_cons, ucs_length l]; omega
theorem ucs_at : ∀ (l : List Atm) (i : Nat) (x : Atm), l[i]? = some x → (ucs l)[i * 4]? = some (.int .i64 x.c) ∧ (ucs l)[i * 4 + 1]? = some (.int .i64 x.q) ∧ (ucs l)[i * 4 + 2]? = some (.int .i64 x.n) ∧ (ucs l)[i * 4 + 3]? = some (.int .i32 x.z)
  | [], i, x, h => by simp at h
  | y :: l, 0, x, h => by simp at h; subst h; simp [ucs_cons]
  | y :: l, i + 1, x, h => by
    have := ucs_at l i x (by simpa using h)
    rw [ucs_cons, show (i + 1) * 4 = i * 4 + 1 + 1 + 1 + 1 by omega]
    simpa using this
theorem ucs_one' (l : List Atm) : ∀ u ∈ ucs l, u.oneCell' = true := by
  intro u hu
  simp only [ucs, List.mem_flatten, List.mem_map] at hu
  obtain ⟨_, ⟨o, _, rfl⟩, hu⟩ := hu
  simp only [List.mem_cons, List.not_mem_nil, or_false] at hu
  rcases hu with rfl | rfl | rfl | rfl <;> rfl
/-- Units in the world. -/
def RdK (w : World) (v : Value) (l : List Atm) : Prop :=
  ∃ (ao : Option Addr) (cp : Nat), v = .slice ao l.length cp ∧ l.length ≤ cp ∧ ∀ i x, l[i]? = some x → ∃ b off, ao = some ⟨b, off, none⟩ ∧ b < w.heap.size ∧
    w.cell? ⟨b, off + i * 4, none⟩ = some (.int .i64 x.c) ∧ w.cell? ⟨b, off + i * 4 + 1, none⟩ = some (.int .i64 x.q) ∧ w.cell? ⟨b, off + i * 4 + 2, none⟩ = some (.int .i64 x.n) ∧ w.cell? ⟨b, off + i * 4 + 3, none⟩ = some (.int .i32 x.z)
theorem RdK.below {w w' : World} {v : Value} {l : List Atm} (h : RdK w v l) (hb : Below w.heap.size w w') : RdK w' v l := by
  obtain ⟨ao, cp, e, hc, h⟩ := h
  refine ⟨ao, cp, e, hc, fun i r hr => ?_⟩
  obtain ⟨b, off, e1, h1, c0, c1, c2, c3⟩ := h i r hr
  have g : ∀ j, w'.cell? ⟨b, j, none⟩ = w.cell? ⟨b, j, none⟩ := fun j => hb.cell (p := ⟨b, j, none⟩) h1
  exact ⟨b, off, e1, Nat.lt_of_lt_of_le h1 hb.size, by rw [g]; exact c0, by rw [g]; exact c1, by rw [g]; exact c2, by rw [g]; exact c3⟩
theorem RdK.nil (w : World) (ao : Option Addr) (cp : Nat) : RdK w (.slice ao 0 cp) [] := ⟨ao, cp, rfl, Nat.zero_le _, fun i r h => by simp at h⟩
theorem rdk_own {W : World} {B : Nat} {v : Value} {l : List Atm} (h : W.ownsRow B 136 4 v l.length (ucs l)) : RdK W v l := by
  rcases h.2 with ⟨rfl, h0⟩ | ⟨g, cap, cur, rfl, _, hg, hn, _, _, ht⟩
  · have : l = [] := List.length_eq_zero_iff.1 h0
    subst this
    exact RdK.nil _ _ _
  · refine ⟨_, _, rfl, hn, fun i x hx => ⟨g, 0, rfl, heap_lt hg, ?_⟩⟩
    obtain ⟨e0, e1, e2, e3⟩ := ucs_at l i x hx
    have q := h.cells (g := g) rfl
    have q0 := q _ _ e0
    have q1 := q _ _ e1
    have q2 := q _ _ e2
    have q3 := q _ _ e3
    rw [addr4] at q0 q1 q2 q3
    exact ⟨q0, by rw [Nat.add_assoc]; exact q1, by rw [Nat.add_assoc]; exact q2, by rw [Nat.add_assoc]; exact q3⟩
theorem rdk_at {W : World} {ao : Option Addr} {N cp : Nat} {l : List Atm} (h : RdK W (.slice ao N cp) l) {i : Nat} {x : Atm} (hx : l[i]? = some x) : ∃ b off, ao = some ⟨b, off, none⟩ ∧ b < W.heap.size ∧
    W.cell? ⟨b, off + i * 4, none⟩ = some (.int .i64 x.c) ∧ W.cell? ⟨b, off + i * 4 + 1, none⟩ = some (.int .i64 x.q) ∧ W.cell? ⟨b, off + i * 4 + 2, none⟩ = some (.int .i64 x.n) ∧ W.cell? ⟨b, off + i * 4 + 3, none⟩ = some (.int .i32 x.z) := by
  obtain ⟨a, c, e, -, h⟩ := h
  injection e with e1 _ _
  subst e1
  exact h i x hx
theorem rdk_cells {w : World} {b off cp : Nat} {l : List Atm} (h : RdK w (.slice (some ⟨b, off, none⟩) l.length cp) l) : ∀ j u, (ucs l)[j]? = some u → w.cell? ((⟨b, off, none⟩ : Addr).add j) = some u := by
  intro j u hj
  have hj' : j < l.length * 4 := by have := (List.getElem?_eq_some_iff.1 hj).1; rwa [ucs_length] at this
  obtain ⟨b', o', e1, _, c0, c1, c2, c3⟩ := rdk_at h (i := j / 4) (x := l[j / 4]) (by simp [show j / 4 < l.length by omega])
  cases e1
  obtain ⟨q0, q1, q2, q3⟩ := ucs_at l (j / 4) l[j / 4] (by simp [show j / 4 < l.length by omega])
  rw [addr_add]
  rcases (show j = j / 4 * 4 ∨ j = j / 4 * 4 + 1 ∨ j = j / 4 * 4 + 2 ∨ j = j / 4 * 4 + 3 by omega) with h | h | h | h
  · rw [h] at hj ⊢
    rw [c0, ← q0, hj]
  · rw [h] at hj ⊢
    rw [← Nat.add_assoc, c1, ← q1, hj]
  · rw [h] at hj ⊢
    rw [← Nat.add_assoc, c2, ← q2, hj]
  · rw [h] at hj ⊢
    rw [← Nat.add_assoc, c3, ← q3, hj]
theorem app_units (B : Nat) (u : Value) (v : Value) (L l : List Atm) (wr : World) (hu : wr.ownsRow B 136 4 u L.length (ucs L)) (hB : B ≤ wr.heap.size) (hw : RdK wr v l) (hx : L.length + l.length ≤ 3298534883328) (ty : TypeId) :
    ∃ v' w', (Builtin.append_ #[82, 82] ty #[u, v]).run Tryd.prog wr = .ok v' w' ∧ w'.ownsRow B 136 4 v' (L ++ l).length (ucs (L ++ l)) ∧ wr.grownBy w' u.ownBlock := by
  obtain ⟨i0, hin, hz0, hz1, hz2⟩ := info_parts Tryd.infoUnit
  by_cases h0 : l.length = 0
  · have : l = [] := List.eq_nil_of_length_eq_zero h0
    subst this
    obtain ⟨ao, cp, rfl, _, _⟩ := hw
    refine ⟨u, wr, ?_, by simpa using hu, ⟨rfl, rfl, rfl, Nat.le_refl _, fun _ _ _ => rfl⟩⟩
    obtain ⟨a2, c2, rfl⟩ := own_form hu
    have hc2 : L.length ≤ c2 := by
      rcases hu.2 with ⟨e, h⟩ | ⟨g, cap, cur, e, _, _, hn, _⟩
      · omega
      · injection e with _ _ e3
        omega
    cases a2 <;> cases ao <;> simp [Builtin.append_, run_underlying Tryd.underlying82, sizeOf, typeInfo, hin, Builtin.lenOf, Builtin.firstCells, loadCells, loadCellsFrom, storeCells, hc2]
  · have hw' := hw
    obtain ⟨ao, cp, rfl, _, hc⟩ := hw
    obtain ⟨b, off, rfl, _⟩ := hc 0 l[0] (by simp [show 0 < l.length by omega])
    obtain ⟨v', w', h1, h2, h3, h4⟩ := run_append_own (P := Tryd.prog) wr B 82 ty 136 i0 (.agg #[.int .i64 0, .int .i64 0, .int .i64 0, .int .i32 0]) 4 32 Tryd.underlying82 hin hz0 hz1 hz2 rfl (by decide) u L.length _ hu ⟨b, off, none⟩ l.length cp (ucs l) (by rw [ucs_length]) (rdk_cells hw') (ucs_one' l)
      (by unfold maxLen; omega) (by omega) hB
    refine ⟨v', w', h1, ?_, h3⟩
    rw [ucs_append, List.length_append]
    exact h2
theorem wpList_app_units {ops : Array Oper} {rest : List Oper} {o : Oper} {a : Act} {Q : Exit → Act → World → Prop} (wr : World) (hgd : o.guard = none) (sl x : Operand)
    (ho : o.op = .call { callee := .builtin .append, args := #[sl, x], argTypes := #[82, 82] }) (B : Nat) (u v : Value) (L l : List Atm) (hs : a.eval sl = u) (hx : a.eval x = v)
    (hu : wr.ownsRow B 136 4 u L.length (ucs L)) (hB : B ≤ wr.heap.size) (hw : RdK wr v l) (hl : L.length + l.length ≤ 3298534883328)
    (h : ∀ v' w', w'.ownsRow B 136 4 v' (L ++ l).length (ucs (L ++ l)) → wr.grownBy w' u.ownBlock → wpList Tryd.prog ops Q rest (a.put o.dst v') w') : wpList Tryd.prog ops Q (o :: rest) a wr := by
  refine wpList_plain hgd fun K hK => ?_
  obtain ⟨v', w', hr, h2, h3⟩ := app_units B u v L l wr hu hB hw hl o.type
  unfold Oper.wp execOp
  simp only [ho, resolve, invoke, builtin, Sem.run_bind, Sem.run_pure, Result.andThen_ok, List.map_toArray, List.map_cons, List.map_nil, hs, hx, hr]
  exact hK _ _ (h v' w' h2 h3)
/-- One unit in a block of its own. -/
theorem rdk_new (W : World) (x : Atm) : RdK (W.alloc (.cells #[.int .i64 x.c, .int .i64 x.q, .int .i64 x.n, .int .i32 x.z] 136)) (.slice (some ⟨W.heap.size, 0, none⟩) 1 1) [x] := by
  have h := heap_alloc_new W (.cells #[.int .i64 x.c, .int .i64 x.q, .int .i64 x.n, .int .i32 x.z] 136)
  refine ⟨_, 1, rfl, Nat.le_refl _, fun i y hy => ?_⟩
  have hi : i = 0 := by have := (List.getElem?_eq_some_iff.1 hy).1; simp at this; omega
  subst hi
  simp at hy
  subst hy
  refine ⟨W.heap.size, 0, rfl, heap_lt h, ?_⟩
  refine ⟨?_, ?_, ?_, ?_⟩ <;> (unfold World.cell?; rw [h]; rfl)

/-! ### The map of places -/
theorem matKeyed : Keyed Tryd.prog 134 := Keyed.of_law (deep_law_laid laidOutP (m := 3) (by decide) (by decide +kernel) (by kernel_rfl) (by kernel_rfl))
theorem lits_am {e : Nat} {c q n : Int} (hc : (Lit.int .i64 c).wf = true) (hq : (Lit.int .i64 q).wf = true) (hn : (Lit.int .i64 n).wf = true) : Tryd.prog.keyLits (e + 1 + 1 + 1) 134 [.int .i64 c, .int .i64 q, .int .i64 n] = some [.int .i64 c, .int .i64 q, .int .i64 n] := by
  have k1 : Tryd.prog.cellsOf 134 = 3 := by kernel_rfl
  have k2 : Tryd.prog.cellsOf 29 = 2 := by kernel_rfl
  have k3 : Tryd.prog.cellsOf 3 = 1 := by kernel_rfl
  unfold Program.keyLits
  simp only [Tryd.underlying134]
  rw [if_pos ⟨by rw [k1]; rfl, by kernel_rfl⟩]
  simp [k2, k3, lits_or hc hq, lits_int hn]
theorem kM_key {k : AtK} (h : AtK.Wf k) : keyOf Tryd.prog 134 (atV k.1 k.2.1 k.2.2) = some (kA k) := by
  have h1 : Tryd.prog.keyType 134 = true := by kernel_rfl
  obtain ⟨m, hts⟩ : ∃ m, Tryd.prog.types.size + 1 = m + 1 + 1 + 1 := by
    have h0 : 2 ≤ Tryd.prog.types.size := by decide +kernel
    exact ⟨Tryd.prog.types.size - 2, by omega⟩
  have k1 : Tryd.prog.cellsOf 134 = 3 := by kernel_rfl
  have hf : Value.formed Tryd.prog 134 (.agg #[.int .i64 k.1, .int .i64 k.2.1, .int .i64 k.2.2]) = true := by
    simp [Value.formed, Tryd.underlying134, k1]
  unfold keyOf atV
  rw [Tryd.underlying134]
  simp only [h1, Bool.true_and]
  rw [if_pos hf, hts, show (Value.agg #[.int .i64 k.1, .int .i64 k.2.1, .int .i64 k.2.2]).cells.toList = [.int .i64 k.1, .int .i64 k.2.1, .int .i64 k.2.2] from rfl, lits_am h.1 h.2.1 h.2.2]
  rfl
/-- The map in block b tells the place of each atom of A. -/
def PlM (w : World) (b : Nat) (A : List Atm) : Prop :=
  (∀ x ∈ A, AtK.Wf x.key) ∧ (kL A).Nodup ∧ ∃ D : DataW Unit, w.ownsMap Tryd.prog 134 (plainElem (H := Unit) Tryd.prog 3) b A.length D ∧ (∀ k, AtK.Wf k → Maps.has D (kA k) = decide (k ∈ kL A)) ∧
    ∀ k, AtK.Wf k → D.atKey (kA k) (.lit (.int .i64 0)) = .lit (.int .i64 (((plK A k).getD 0 : Nat) : Int))
theorem plm_new (w : World) : PlM (w.alloc (.map #[] 0)) w.heap.size [] :=
  ⟨by simp, by simp [kL], .map [], World.ownsMap_made w _ _ _, fun k _ => by simp [Maps.has, kL], fun k _ => by simp [DataW.atKey, plK, kL]⟩
theorem PlM.lt {w : World} {b : Nat} {A : List Atm} (h : PlM w b A) : b < w.heap.size := by
  obtain ⟨-, -, D, ho, -⟩ := h
  exact ho.lt
theorem PlM.block {w w' : World} {b : Nat} {A : List Atm} (h : PlM w b A) (hb : w'.heap[b]? = w.heap[b]?) : PlM w' b A := by
  obtain ⟨h1, hn, D, ho, h2, h3⟩ := h
  obtain ⟨es, clock, hh, F, hs, hD⟩ := ho
  exact ⟨h1, hn, D, ⟨es, clock, hb.trans hh, F, hs, hD⟩, h2, h3⟩
theorem PlM.below {w w' : World} {b : Nat} {A : List Atm} (h : PlM w b A) (hb : Below w.heap.size w w') : PlM w' b A := h.block (hb.block b h.lt)
theorem Tryd.zeroInt (u : World) : (zeroValue 3).run Tryd.prog u = .ok (.int .i64 0) u := by kernel_rfl
/-- Looked up. -/
theorem PlM.look {w : World} {b : Nat} {A : List Atm} (h : PlM w b A) {k : AtK} (hk : AtK.Wf k) :
    (Instr.lookup 83 (.map (some b)) (.agg #[.int .i64 k.1, .int .i64 k.2.1, .int .i64 k.2.2]) true).run Tryd.prog w = .ok (.tuple #[.int .i64 (((plK A k).getD 0 : Nat) : Int), .bool (decide (k ∈ kL A))]) w := by
  obtain ⟨-, -, D, ho, h2, h3⟩ := h
  obtain ⟨v, ps, hr, hR⟩ := ho.look_ok matKeyed Tryd.underlying83 (Tryd.zeroInt w) (plainElem_int Tryd.underlying3 (by decide)) (kM_key hk)
  obtain ⟨c, rfl, hc, -⟩ := plainElem_int_inv Tryd.underlying3 hR
  have hc1 := congrArg Prod.fst hc
  simp only at hc1
  rw [h3 k hk] at hc1
  simp only [DataW.lit.injEq, Lit.int.injEq, true_and] at hc1
  rw [h2 k hk] at hr
  rw [hc1]
  exact hr
theorem plK_app {A : List Atm} {x : Atm} {k : AtK} : plK (A ++ [x]) k = (plK A k).or (if x.key = k then some A.length else none) := by
  unfold plK kL
  rw [List.map_append, List.findIdx?_append, List.length_map]
  congr 1
  by_cases e : x.key = k
  · simp [List.findIdx?_cons, e]
  · simp [List.findIdx?_cons, e]
/-- One more. -/
theorem plm_put {w w' : World} {b : Nat} {A : List Atm} {x : Atm} {D : DataW Unit} (h1 : ∀ x ∈ A, AtK.Wf x.key) (hA : (kL A).Nodup) (hx : AtK.Wf x.key) (hn : x.key ∉ kL A) (ho : w.ownsMap Tryd.prog 134 (plainElem (H := Unit) Tryd.prog 3) b A.length D)
    (h2 : ∀ k, AtK.Wf k → Maps.has D (kA k) = decide (k ∈ kL A)) (h3 : ∀ k, AtK.Wf k → D.atKey (kA k) (.lit (.int .i64 0)) = .lit (.int .i64 (((plK A k).getD 0 : Nat) : Int)))
    (ho' : w'.ownsMap Tryd.prog 134 (plainElem (H := Unit) Tryd.prog 3) b (A.length + 1) (D.put (kA x.key) (.lit (.int .i64 (A.length : Int))))) : PlM w' b (A ++ [x]) := by
  refine ⟨fun y hy => ?_, ?_, _, by simpa using ho', fun k hk => ?_, fun k hk => ?_⟩
  · rcases List.mem_append.1 hy with h | h
    · exact h1 y h
    · simp at h; rw [h]; exact hx
  · unfold kL at hn ⊢
    rw [List.map_append, List.nodup_append]
    refine ⟨hA, by simp, fun a ha c hc => ?_⟩
    simp at hc
    rw [hc]
    intro e
    exact hn (by rw [← e]; exact ha)
  · by_cases he : k = x.key
    · subst he
      rw [Maps.has_put_same ho.isMap (matKeyed.key (kM_key hk))]
      simp [kL]
    · rw [Maps.has_put_other (fun e => he (kA_inj hk hx e)), h2 k hk]
      simp [kL, he]
  · rw [plK_app]
    by_cases he : k = x.key
    · subst he
      rw [Maps.atKey_put_same ho.isMap (matKeyed.key (kM_key hk)), plK_none.2 hn]
      simp
    · rw [Maps.atKey_put_other (fun e => he (kA_inj hk hx e)), h3 k hk, if_neg (fun e => he e.symm)]
      simp
end Go.Proofs.YtjimolafoihnpaaDoor

/-
  The contracts of has and rowOf.
-/
namespace Go.Proofs.YtjimolafoihnpaaDoor
open Go.Maps Go.ChangeShapes Go.WideShapes Go.ChangeAt Go.RowKit Go.PlainAid

set_option maxRecDepth 20000 in
set_option maxHeartbeats 1000000 in
theorem has_any (ao : Option Addr) (n cp b : Nat) (A : List Atm) (x : Atm) (w : World) (h : PlM w b A) (hx : AtK.Wf x.key) :
    Calls Tryd.prog 61 #[.agg #[.slice ao n cp, .map (some b)], .agg #[.int .i64 x.c, .int .i64 x.q, .int .i64 x.n, .int .i32 x.z]] w fun e w' => e = .returned (.bool (hasK A x)) ∧ Below w.heap.size w w' := by
  have hb : Below w.heap.size w ((w.alloc (.cells #[.slice ao n cp, .map (some b)] 85)).alloc (.cells #[.int .i64 x.c, .int .i64 x.q, .int .i64 x.n, .int .i32 x.z] 136)) := ((Below.refl _ w).alloc (Nat.le_refl _) _).alloc (by simp) _
  have hl := (h.below hb).look hx
  simp only [Atm.key] at hl
  have HH : Hid (hasK A x = decide ((x.c, x.q, x.n) ∈ kL A)) := rfl
  go_enter Tryd.func61, Tryd.ntmps61
  go_wp2_with fail
  go_ret
  rw [HH.out]
  exact ⟨rfl, hb⟩

/-- rowOf on its way: the result's cells in block B, the map in B + 1, the row in B + 2. -/
structure Ro (w W : World) (A : List Atm) (u : Value) : Prop where
  rs : W.heap[w.heap.size]? = some (.cells #[.slice none 0 0, .map none] 85)
  bx : W.heap[w.heap.size + 1 + 1]? = some (.cells #[u, .map (some (w.heap.size + 1))] 85)
  own : W.ownsRow (w.heap.size + 3) 136 4 u A.length (ucs A)
  mp : PlM W (w.heap.size + 1) A
  bel : Below w.heap.size w W
/-- .. within a run: its box and the iterator. -/
structure Ri (w W : World) (rb : Nat) (r : RunD) (k : Nat) (A : List Atm) (u : Value) : Prop extends Ro w W A u where
  rn : RB W rb r
  it : W.heap[rb + 1]? = some (.stringIter r.t (pos r.t k))
  lo : w.heap.size + 3 ≤ rb
theorem Ro.cells {w W : World} {A : List Atm} {u : Value} (h : Ro w W A u) : W.cell? ⟨w.heap.size + 1 + 1, 0, none⟩ = some u ∧ W.cell? ⟨w.heap.size + 1 + 1, 1, none⟩ = some (.map (some (w.heap.size + 1))) ∧ W.frozen? ⟨w.heap.size + 1 + 1, 0, none⟩ = false := by
  refine ⟨?_, ?_, frz h.bx 0⟩ <;> (unfold World.cell?; rw [h.bx]; rfl)
theorem Ri.start {w W : World} {A : List Atm} {u : Value} {r : RunD} (h : Ro w W A u) (h3 : w.heap.size + 3 ≤ W.heap.size) :
    Ri w ((W.alloc (.cells #[.int .i64 r.c, .int .i64 r.q, .int .i64 r.f, .string r.t] 44)).iter r.t 0) W.heap.size r 0 A u := by
  have hx : RB (W.alloc (.cells #[.int .i64 r.c, .int .i64 r.q, .int .i64 r.f, .string r.t] 44)) W.heap.size r := heap_alloc_new W _
  have q1 : Below W.heap.size W (W.alloc (.cells #[.int .i64 r.c, .int .i64 r.q, .int .i64 r.f, .string r.t] 44)) := (Below.refl _ W).alloc (Nat.le_refl _) _
  have hi := World.iter_heap (W.alloc (.cells #[.int .i64 r.c, .int .i64 r.q, .int .i64 r.f, .string r.t] 44)) r.t 0
  rw [World.size_alloc] at hi
  generalize W.alloc _ = W1 at *
  have q2 : Below W1.heap.size W1 (W1.iter r.t 0) := (Below.refl _ W1).alloc (Nat.le_refl _) _
  have q := chain q1 q2
  refine ⟨⟨(q.block _ (by omega)).trans h.rs, (q.block _ (by omega)).trans h.bx, own_belowG h.own q, h.mp.below q, chain h.bel q⟩, hx.below q2, hi, h3⟩
/-- One atom more. -/
theorem Ri.step {w W W3 W5 : World} {rb k : Nat} {r : RunD} {A : List Atm} {u u' : Value} {x : Atm} {o4 : Obj} (h : Ri w W rb r k A u) (hx : AtK.Wf x.key) (hn : x.key ∉ kL A)
    (D : DataW Unit) (h2 : ∀ k, AtK.Wf k → Maps.has D (kA k) = decide (k ∈ kL A)) (h3 : ∀ k, AtK.Wf k → D.atKey (kA k) (.lit (.int .i64 0)) = .lit (.int .i64 (((plK A k).getD 0 : Nat) : Int)))
    (ho : ((W.iterAt (rb + 1) r.t (pos r.t (k + 1))).alloc (.cells #[.int .i64 x.c, .int .i64 x.q, .int .i64 x.n, .int .i32 x.z] 136)).ownsMap Tryd.prog 134 (plainElem (H := Unit) Tryd.prog 3) (w.heap.size + 1) A.length D)
    (ho3 : W3.ownsMap Tryd.prog 134 (plainElem (H := Unit) Tryd.prog 3) (w.heap.size + 1) (A.length + 1) (D.put (kA x.key) (.lit (.int .i64 (A.length : Int)))))
    (hg3 : ((W.iterAt (rb + 1) r.t (pos r.t (k + 1))).alloc (.cells #[.int .i64 x.c, .int .i64 x.q, .int .i64 x.n, .int .i32 x.z] 136)).grownBy W3 (some (w.heap.size + 1)))
    (ho5 : W5.ownsRow (w.heap.size + 3) 136 4 u' (A ++ [x]).length (ucs (A ++ [x]))) (hg5 : (W3.alloc o4).grownBy W5 u.ownBlock) :
    Ri w (W5.setCell ⟨w.heap.size + 1 + 1, 0, none⟩ u') rb r (k + 1) (A ++ [x]) u' := by
  have hlt := heap_lt h.it
  have hub : ∀ g, u.ownBlock = some g → w.heap.size + 3 ≤ g ∧ g ≠ rb ∧ g ≠ rb + 1 := fun g hg => by
    refine ⟨(h.own.lt g hg).1, ?_, ?_⟩
    · intro e
      subst e
      rcases h.own.2 with ⟨e, _⟩ | ⟨g', cap, cur, e, _, hg', _⟩
      · rw [e] at hg; simp [Value.ownBlock] at hg
      · rw [e] at hg
        simp [Value.ownBlock] at hg
        subst hg
        have := h.rn
        unfold RB at this
        rw [hg'] at this
        simp at this
    · intro e
      subst e
      rcases h.own.2 with ⟨e, _⟩ | ⟨g', cap, cur, e, _, hg', _⟩
      · rw [e] at hg; simp [Value.ownBlock] at hg
      · rw [e] at hg
        simp [Value.ownBlock] at hg
        subst hg
        have := h.it
        rw [hg'] at this
        simp at this
  have hs1 : (W.iterAt (rb + 1) r.t (pos r.t (k + 1))).heap.size = W.heap.size := by simp [World.iterAt]
  have b1 : ∀ i, i < W.heap.size → i ≠ rb + 1 → (W.iterAt (rb + 1) r.t (pos r.t (k + 1))).heap[i]? = W.heap[i]? := fun i hi hne => Lib.iterAt_other _ _ _ _ _ hne
  have i1 : (W.iterAt (rb + 1) r.t (pos r.t (k + 1))).heap[rb + 1]? = some (.stringIter r.t (pos r.t (k + 1))) := Lib.iterAt_heap _ _ _ _ _ h.it
  have t1 : (W.iterAt (rb + 1) r.t (pos r.t (k + 1))).os = W.os ∧ (W.iterAt (rb + 1) r.t (pos r.t (k + 1))).tape = W.tape ∧ (W.iterAt (rb + 1) r.t (pos r.t (k + 1))).output = W.output := ⟨rfl, rfl, rfl⟩
  generalize W.iterAt (rb + 1) r.t (pos r.t (k + 1)) = W1 at *
  have b2 : ∀ i, i < W.heap.size → (W1.alloc (.cells #[.int .i64 x.c, .int .i64 x.q, .int .i64 x.n, .int .i32 x.z] 136)).heap[i]? = W1.heap[i]? := fun i hi => Below.heap_alloc W1 _ i (by omega)
  have hs2 : (W1.alloc (.cells #[.int .i64 x.c, .int .i64 x.q, .int .i64 x.n, .int .i32 x.z] 136)).heap.size = W1.heap.size + 1 := by simp
  have t2 : (W1.alloc (.cells #[.int .i64 x.c, .int .i64 x.q, .int .i64 x.n, .int .i32 x.z] 136)).os = W1.os ∧ (W1.alloc (.cells #[.int .i64 x.c, .int .i64 x.q, .int .i64 x.n, .int .i32 x.z] 136)).tape = W1.tape ∧ (W1.alloc (.cells #[.int .i64 x.c, .int .i64 x.q, .int .i64 x.n, .int .i32 x.z] 136)).output = W1.output := ⟨rfl, rfl, rfl⟩
  generalize W1.alloc (.cells #[.int .i64 x.c, .int .i64 x.q, .int .i64 x.n, .int .i32 x.z] 136) = W2 at *
  have s3 := hg3.size
  have b4 : ∀ i, i < W3.heap.size → (W3.alloc o4).heap[i]? = W3.heap[i]? := fun i hi => Below.heap_alloc W3 _ i hi
  have s4 : (W3.alloc o4).heap.size = W3.heap.size + 1 := by simp
  have t4 : (W3.alloc o4).os = W3.os ∧ (W3.alloc o4).tape = W3.tape ∧ (W3.alloc o4).output = W3.output := ⟨rfl, rfl, rfl⟩
  generalize W3.alloc o4 = W4 at *
  have s5 := hg5.size
  -- a block of W that none of these turns
  have all : ∀ i, i < W.heap.size → i ≠ rb + 1 → i ≠ w.heap.size + 1 → (∀ g, u.ownBlock = some g → i ≠ g) → W5.heap[i]? = W.heap[i]? := fun i hi e1 e2 e3 => by
    rw [hg5.block i (by omega) (fun e => by cases hu : u.ownBlock with
      | none => rw [hu] at e; cases e
      | some g => rw [hu] at e; injection e with e; exact e3 g hu e), b4 i (by omega), hg3.block i (by omega) (fun e => by injection e with e; exact e2 e), b2 i hi, b1 i hi e1]
  have hO : Only [w.heap.size + 1 + 1] W5 (W5.setCell ⟨w.heap.size + 1 + 1, 0, none⟩ u') := Only.setCell W5 (by simp) _
  have hbx5 : W5.heap[w.heap.size + 1 + 1]? = some (.cells #[u, .map (some (w.heap.size + 1))] 85) := (all _ (by have := h.lo; omega) (by have := h.lo; omega) (by omega) (fun g hg => by have := (hub g hg).1; omega)).trans h.bx
  have hsb : ∀ i, i < W5.heap.size → i ≠ w.heap.size + 1 + 1 → (W5.setCell ⟨w.heap.size + 1 + 1, 0, none⟩ u').heap[i]? = W5.heap[i]? := fun i hi hne => hO.block i hi (by simpa using hne)
  have lo := h.lo
  refine ⟨⟨?_, ?_, ?_, ?_, ?_⟩, ?_, ?_, h.lo⟩
  · rw [hsb _ (by omega) (by omega), all _ (by omega) (by omega) (by omega) (fun g hg => by have := (hub g hg).1; omega)]
    exact h.rs
  · have := heap_setCell hbx5 0 u'
    simpa using this
  · exact own_only ho5 hO (fun g hg => by simp; have := (ho5.lt g hg).1; omega)
  · have hp := plm_put h.mp.1 h.mp.2.1 hx hn ho h2 h3 ho3
    refine hp.block ?_
    rw [hsb _ (by omega) (by omega), hg5.block _ (by omega) (fun e => by have := (hub _ e.symm).1; omega), b4 _ (by omega)]
  · have hbel := h.bel
    refine ⟨?_, ?_, ?_, ?_, fun i hi => ?_⟩
    · show W5.os = _; rw [hg5.os, t4.1, hg3.os, t2.1, t1.1]; exact hbel.os
    · show W5.tape = _; rw [hg5.tape, t4.2.1, hg3.tape, t2.2.1, t1.2.1]; exact hbel.tape
    · show W5.output = _; rw [hg5.output, t4.2.2, hg3.output, t2.2.2, t1.2.2]; exact hbel.output
    · have := hO.size; have := hbel.size; omega
    · have := hbel.size
      rw [hsb _ (by omega) (by omega), all _ (by omega) (by omega) (by omega) (fun g hg => by have := (hub g hg).1; omega)]
      exact hbel.block i hi
  · unfold RB
    rw [hsb _ (by omega) (by omega), all _ (by omega) (by omega) (by omega) (fun g hg => by have := (hub g hg).2.1; omega)]
    exact h.rn
  · rw [hsb _ (by omega) (by omega), hg5.block _ (by omega) (fun e => (hub _ e.symm).2.2 rfl), b4 _ (by omega), hg3.block _ (by omega) (fun e => by injection e with e; omega), b2 _ (by omega)]
    exact i1
/-- What lies there behind the map's new entry. -/
theorem Ri.mid {w W W1 W3 : World} {rb k : Nat} {r : RunD} {A : List Atm} {u : Value} {x : Atm} (h : Ri w W rb r k A u) (hW : W1 = W.iterAt (rb + 1) r.t (pos r.t (k + 1)))
    (hg3 : (W1.alloc (.cells #[.int .i64 x.c, .int .i64 x.q, .int .i64 x.n, .int .i32 x.z] 136)).grownBy W3 (some (w.heap.size + 1))) :
    W3.cell? ⟨w.heap.size + 1 + 1, 0, none⟩ = some u ∧ (W3.cell? ⟨W1.heap.size, 0, none⟩ = some (.int .i64 x.c) ∧ W3.cell? ⟨W1.heap.size, 1, none⟩ = some (.int .i64 x.q) ∧ W3.cell? ⟨W1.heap.size, 2, none⟩ = some (.int .i64 x.n) ∧ W3.cell? ⟨W1.heap.size, 3, none⟩ = some (.int .i32 x.z)) ∧
      W3.ownsRow (w.heap.size + 3) 136 4 u A.length (ucs A) ∧ w.heap.size + 3 ≤ W3.heap.size := by
  have hlt := heap_lt h.it
  have lo := h.lo
  have hs1 : W1.heap.size = W.heap.size := by rw [hW]; simp [World.iterAt]
  have b1 : ∀ i, i < W.heap.size → i ≠ rb + 1 → W1.heap[i]? = W.heap[i]? := fun i hi hne => by rw [hW]; exact Lib.iterAt_other _ _ _ _ _ hne
  have hn2 := heap_alloc_new W1 (.cells #[.int .i64 x.c, .int .i64 x.q, .int .i64 x.n, .int .i32 x.z] 136)
  have b2 : ∀ i, i < W.heap.size → (W1.alloc (.cells #[.int .i64 x.c, .int .i64 x.q, .int .i64 x.n, .int .i32 x.z] 136)).heap[i]? = W1.heap[i]? := fun i hi => Below.heap_alloc W1 _ i (by omega)
  have hs2 : (W1.alloc (.cells #[.int .i64 x.c, .int .i64 x.q, .int .i64 x.n, .int .i32 x.z] 136)).heap.size = W1.heap.size + 1 := by simp
  have o1 : W1.ownsRow (w.heap.size + 3) 136 4 u A.length (ucs A) := by
    rcases h.own.2 with ⟨e, h0⟩ | ⟨g, cap, cur, e, hb, hg, hr⟩
    · exact ⟨h.own.1, .inl ⟨e, h0⟩⟩
    · refine ⟨h.own.1, .inr ⟨g, cap, cur, e, hb, ?_, hr⟩⟩
      rw [b1 g (heap_lt hg) (fun e => by subst e; have := h.it; rw [hg] at this; simp at this)]
      exact hg
  have o2 := o1.alloc (.cells #[.int .i64 x.c, .int .i64 x.q, .int .i64 x.n, .int .i32 x.z] 136)
  generalize W1.alloc (.cells #[.int .i64 x.c, .int .i64 x.q, .int .i64 x.n, .int .i32 x.z] 136) = W2 at *
  have s3 := hg3.size
  have hbx : W3.heap[w.heap.size + 1 + 1]? = some (.cells #[u, .map (some (w.heap.size + 1))] 85) := by
    rw [hg3.block _ (by omega) (fun e => by injection e with e; omega), b2 _ (by omega), b1 _ (by omega) (by omega)]
    exact h.bx
  have hub : W3.heap[W1.heap.size]? = some (.cells #[.int .i64 x.c, .int .i64 x.q, .int .i64 x.n, .int .i32 x.z] 136) := by
    rw [hg3.block _ (by omega) (fun e => by injection e with e; omega)]
    exact hn2
  refine ⟨?_, ⟨?_, ?_, ?_, ?_⟩, o2.kept hg3 ?_, by omega⟩
  · unfold World.cell?; rw [hbx]; rfl
  · unfold World.cell?; rw [hub]; rfl
  · unfold World.cell?; rw [hub]; rfl
  · unfold World.cell?; rw [hub]; rfl
  · unfold World.cell?; rw [hub]; rfl
  · right
    intro e
    have := (o2.lt _ e).1
    omega
/-- .. and behind the append. -/
theorem Ri.mid5 {w W W1 W3 W5 : World} {rb k : Nat} {r : RunD} {A : List Atm} {u : Value} {x : Atm} {o4 : Obj} (h : Ri w W rb r k A u) (hW : W1 = W.iterAt (rb + 1) r.t (pos r.t (k + 1)))
    (hg3 : (W1.alloc (.cells #[.int .i64 x.c, .int .i64 x.q, .int .i64 x.n, .int .i32 x.z] 136)).grownBy W3 (some (w.heap.size + 1))) (hg5 : (W3.alloc o4).grownBy W5 u.ownBlock) :
    W5.cell? ⟨w.heap.size + 1 + 1, 0, none⟩ = some u ∧ W5.frozen? ⟨w.heap.size + 1 + 1, 0, none⟩ = false := by
  have hlt := heap_lt h.it
  have lo := h.lo
  have hs1 : W1.heap.size = W.heap.size := by rw [hW]; simp [World.iterAt]
  have b1 : ∀ i, i < W.heap.size → i ≠ rb + 1 → W1.heap[i]? = W.heap[i]? := fun i hi hne => by rw [hW]; exact Lib.iterAt_other _ _ _ _ _ hne
  have b2 : ∀ i, i < W.heap.size → (W1.alloc (.cells #[.int .i64 x.c, .int .i64 x.q, .int .i64 x.n, .int .i32 x.z] 136)).heap[i]? = W1.heap[i]? := fun i hi => Below.heap_alloc W1 _ i (by omega)
  have hs2 : (W1.alloc (.cells #[.int .i64 x.c, .int .i64 x.q, .int .i64 x.n, .int .i32 x.z] 136)).heap.size = W1.heap.size + 1 := by simp
  generalize W1.alloc (.cells #[.int .i64 x.c, .int .i64 x.q, .int .i64 x.n, .int .i32 x.z] 136) = W2 at *
  have s3 := hg3.size
  have s4 : (W3.alloc o4).heap.size = W3.heap.size + 1 := by simp
  have hbx : W5.heap[w.heap.size + 1 + 1]? = some (.cells #[u, .map (some (w.heap.size + 1))] 85) := by
    rw [hg5.block _ (by omega) (fun e => by have := (h.own.lt _ e.symm).1; omega), Below.heap_alloc W3 _ _ (by omega), hg3.block _ (by omega) (fun e => by injection e with e; omega), b2 _ (by omega), b1 _ (by omega) (by omega)]
    exact h.bx
  exact ⟨by unfold World.cell?; rw [hbx]; rfl, frz hbx 0⟩
theorem Ri.map {w W W1 : World} {rb k : Nat} {r : RunD} {A : List Atm} {u : Value} (h : Ri w W rb r k A u) (hW : W1 = W.iterAt (rb + 1) r.t (pos r.t (k + 1))) (o : Obj) : PlM (W1.alloc o) (w.heap.size + 1) A ∧
    ((W1.alloc o).cell? ⟨w.heap.size + 1 + 1, 0, none⟩ = some u ∧ (W1.alloc o).cell? ⟨w.heap.size + 1 + 1, 1, none⟩ = some (.map (some (w.heap.size + 1)))) ∧ (W1.cell? ⟨rb, 0, none⟩ = some (.int .i64 r.c) ∧ W1.cell? ⟨rb, 1, none⟩ = some (.int .i64 r.q)) ∧ w.heap.size + 3 ≤ rb ∧ rb + 1 < W1.heap.size := by
  have hlt := heap_lt h.it
  have lo := h.lo
  have hs1 : W1.heap.size = W.heap.size := by rw [hW]; simp [World.iterAt]
  have b1 : ∀ i, i < W.heap.size → i ≠ rb + 1 → W1.heap[i]? = W.heap[i]? := fun i hi hne => by rw [hW]; exact Lib.iterAt_other _ _ _ _ _ hne
  have hbx : W1.heap[w.heap.size + 1 + 1]? = some (.cells #[u, .map (some (w.heap.size + 1))] 85) := (b1 _ (by omega) (by omega)).trans h.bx
  have hrn : W1.heap[rb]? = some (.cells #[.int .i64 r.c, .int .i64 r.q, .int .i64 r.f, .string r.t] 44) := (b1 _ (by omega) (by omega)).trans h.rn
  have hbx2 : (W1.alloc o).heap[w.heap.size + 1 + 1]? = some (.cells #[u, .map (some (w.heap.size + 1))] 85) := (Below.heap_alloc W1 _ _ (by omega)).trans hbx
  refine ⟨h.mp.block ?_, ⟨?_, ?_⟩, ⟨?_, ?_⟩, lo, by omega⟩
  · rw [Below.heap_alloc W1 _ _ (by omega), b1 _ (by omega) (by omega)]
  · unfold World.cell?; rw [hbx2]; rfl
  · unfold World.cell?; rw [hbx2]; rfl
  · unfold World.cell?; rw [hrn]; rfl
  · unfold World.cell?; rw [hrn]; rfl
end Go.Proofs.YtjimolafoihnpaaDoor

/-
  The contract of rowOf.
-/
namespace Go.Proofs.YtjimolafoihnpaaDoor
open Go.Maps Go.ChangeShapes Go.WideShapes Go.ChangeAt Go.RowKit Go.PlainAid

theorem Tryd.sizeRow : (Tryd.prog.info? 85).map (·.size) = some 2 := by kernel_rfl
theorem may_wf {x : Atm} (h : x.May) : AtK.Wf x.key := by
  obtain ⟨h1, h2, h3⟩ := h
  obtain ⟨o1, o2, o3, o4⟩ := orM_iff.1 h1
  have e0 : IntKind.i64.min = -9223372036854775808 := by decide
  have e1 : IntKind.i64.max = 9223372036854775807 := by decide
  refine ⟨?_, ?_, ?_⟩ <;> (simp only [Lit.wf, e0, e1, Bool.and_eq_true, decide_eq_true_eq, Atm.key]; omega)
theorem wf_len {n : Nat} (h : n ≤ 1000000) : (Lit.int .i64 (n : Int)).wf = true := by
  have e0 : IntKind.i64.min = -9223372036854775808 := by decide
  have e1 : IntKind.i64.max = 9223372036854775807 := by decide
  simp only [Lit.wf, e0, e1, Bool.and_eq_true, decide_eq_true_eq]
  omega
/-- What a run adds, atom by atom. -/
theorem at_step {l : List RunD} (hG : Good l) {k : Nat} (hk : k < l.length) {j : Nat} (hj : j < (pts l[k].t).length) :
    (⟨l[k].c, l[k].q, l[k].f + (j : Int), (pts l[k].t)[j]⟩ : Atm).May ∧ (⟨l[k].c, l[k].q, l[k].f + (j : Int), (pts l[k].t)[j]⟩ : Atm).key ∉ kL (ats (l.take k) ++ atG l[k].c l[k].q l[k].f ((pts l[k].t).take j)) ∧
      (ats (l.take k) ++ atG l[k].c l[k].q l[k].f ((pts l[k].t).take j)).length ≤ 1000 := by
  obtain ⟨g1, g2, g3, g4⟩ := good_ats.1 hG
  have hz : (pts l[k].t)[j]? = some (pts l[k].t)[j] := by simp [hj]
  have e : ats l = (ats (l.take k) ++ atG l[k].c l[k].q l[k].f ((pts l[k].t).take j)) ++ ([⟨l[k].c, l[k].q, l[k].f + (j : Int), (pts l[k].t)[j]⟩] ++ (atG l[k].c l[k].q (l[k].f + ((j + 1 : Nat) : Int)) ((pts l[k].t).drop (j + 1)) ++ ats (l.drop (k + 1)))) := by
    have e1 : l = l.take k ++ (l[k] :: l.drop (k + 1)) := by simp
    conv => lhs; rw [e1, ats_append, ats_cons]
    have e2 : l[k].ats = atG l[k].c l[k].q l[k].f ((pts l[k].t).take j) ++ ([⟨l[k].c, l[k].q, l[k].f + (j : Int), (pts l[k].t)[j]⟩] ++ atG l[k].c l[k].q (l[k].f + ((j + 1 : Nat) : Int)) ((pts l[k].t).drop (j + 1))) := by
      rw [← List.append_assoc, ← atG_take1 _ _ _ _ _ _ hz]
      have hl : (((pts l[k].t).take (j + 1)).length : Int) = ((j + 1 : Nat) : Int) := by rw [List.length_take]; omega
      rw [← hl, ← atG_append, List.take_append_drop]
      rfl
    rw [e2]
    simp only [List.append_assoc]
  refine ⟨g2 _ (by rw [e]; simp), ?_, ?_⟩
  · intro hin
    unfold kL at hin
    rw [e, List.map_append, List.nodup_append] at g3
    exact g3.2.2 _ hin _ (by simp) rfl
  · have := congrArg List.length e
    simp only [List.length_append] at this ⊢
    omega

set_option maxRecDepth 20000 in
set_option maxHeartbeats 1000000 in
theorem rowOf_any (v : Value) (l : List RunD) (w : World) (hr : RdN w v l) (hG : Good l) :
    Calls Tryd.prog 37 #[v] w fun e w' => ∃ ao cp, e = .returned (.agg #[.slice ao (ats l).length cp, .map (some (w.heap.size + 1))]) ∧ RdK w' (.slice ao (ats l).length cp) (ats l) ∧ PlM w' (w.heap.size + 1) (ats l) ∧ Below w.heap.size w w' := by
  have hbd := hG.bound
  have hok : ∀ r ∈ l, r.Ok := fun r hr => (hG.fit r hr).ok
  have hmay := fun r hr => mayR_iff.1 (hG.may r hr)
  have hT : ∀ k (hk : k < l.length), ats (l.take (k + 1)) = ats (l.take k) ++ atG l[k].c l[k].q l[k].f (pts l[k].t) := fun k hk => by
    rw [List.take_succ_eq_append_getElem hk, ats_append, ats_cons, ats_nil, List.append_nil]
    rfl
  obtain ⟨ao, cp, hv, -⟩ := id hr
  subst hv
  have hRo : Ro w (((w.alloc (.cells #[.slice none 0 0, .map none] 85)).alloc (.map #[] 0)).alloc (.cells #[.slice none 0 0, .map (some (w.heap.size + 1))] 85)) [] (.slice none 0 0) := by
    have q0 := heap_alloc_new w (.cells #[.slice none 0 0, .map none] 85)
    have s0 : (w.alloc (.cells #[.slice none 0 0, .map none] 85)).heap.size = w.heap.size + 1 := by simp
    have B0 : Below w.heap.size w (w.alloc (.cells #[.slice none 0 0, .map none] 85)) := (Below.refl _ w).alloc (Nat.le_refl _) _
    generalize w.alloc (.cells #[.slice none 0 0, .map none] 85) = W0 at *
    have q1 := plm_new W0
    rw [s0] at q1
    have s1 : (W0.alloc (.map #[] 0)).heap.size = w.heap.size + 1 + 1 := by simp [s0]
    have B1 : Below W0.heap.size W0 (W0.alloc (.map #[] 0)) := (Below.refl _ W0).alloc (Nat.le_refl _) _
    generalize W0.alloc (.map #[] 0) = W1 at *
    have q2 := heap_alloc_new W1 (.cells #[.slice none 0 0, .map (some (w.heap.size + 1))] 85)
    rw [s1] at q2
    have B2 : Below W1.heap.size W1 (W1.alloc (.cells #[.slice none 0 0, .map (some (w.heap.size + 1))] 85)) := (Below.refl _ W1).alloc (Nat.le_refl _) _
    exact ⟨((chain B1 B2).block _ (by omega)).trans q0, q2, World.ownsRow_nil _ _ _ _, q1.below B2, chain (chain B0 B1) B2⟩
  have hmm := @run_makeMap Tryd.prog
  go_enter Tryd.func37, Tryd.ntmps37
  go_wp2_with fail
  clear hmm
  go_loopw [14] (fun i wr => ∃ (k : Nat) (u : Value), k ≤ l.length ∧ i = .int .i64 (k : Int) ∧ Ro w wr (ats (l.take k)) u ∧ w.heap.size + 3 ≤ wr.heap.size) (fun i _ => l.length - (Go.RowKit.intOf i).toNat)
  case atStart => exact ⟨0, _, Nat.zero_le _, rfl, hRo, by simp⟩
  case round =>
    obtain ⟨k, u, hk, rfl, hR, h3⟩ := hrel
    clear hRo
    by_cases hlt : k < l.length
    · have hlt' : (k : Int) < (l.length : Int) := by omega
      obtain ⟨bb, off, rfl, hbb, e0, e1, e2, e3⟩ := (hr.below hR.bel).at k l[k] (by simp [hlt])
      have hI := Ri.start (r := l[k]) hR h3
      have hst := fun j hj => at_step hG hlt (j := j) hj
      have HT : Hid (ats (l.take (k + 1)) = ats (l.take k) ++ atG l[k].c l[k].q l[k].f (pts l[k].t)) := hT k hlt
      have hv := cpl_valid (s := l[k].t) (by have := hok l[k] (by simp); unfold RunD.Ok at this; omega)
      have hpe : pts l[k].t = ptL l[k].t (cpl l[k].t).toNat := rfl
      have hmk := hmay l[k] (by simp)
      have hf0 := hmk.2.2.1
      have hf1 : l[k].f ≤ 1000 := by have := hmk.2.2.2; have := hmk.2.1; omega
      have hn1 : (cpl l[k].t).toNat ≤ 1000 := by have := hmk.2.2.2; omega
      generalize (cpl l[k].t).toNat = n at *
      rw [hpe] at hst HT
      have hpl : ∀ j, j < n → (ptL l[k].t n)[j]? = some (pt l[k].t j) := fun j hj => by simp [ptL, hj]
      have hPl : (ptL l[k].t n).length = n := ptL_length _ _
      clear hmk hpe hT hok hmay
      generalize ats (l.take k) = X at *
      generalize l[k] = r at *
      clear hR
      go_wp2_with fail
      obtain ⟨wo, rfl⟩ : ∃ y, y = wr := ⟨_, rfl⟩
      go_loopw [6] (fun x wr => ∃ (j : Nat) (u : Value), j ≤ n ∧ x = .int .i64 (r.f + (j : Int)) ∧ Ri w wr wo.heap.size r j (X ++ atG r.c r.q r.f ((ptL r.t n).take j)) u) (fun x _ => n - (Go.RowKit.intOf x - r.f).toNat)
      case atStart => exact ⟨0, u, Nat.zero_le _, by simp, by simpa [atG] using hI⟩
      case round =>
        obtain ⟨j, u2, hj, rfl, hJ⟩ := hrel
        clear hI
        obtain ⟨a2, k2, rfl⟩ := own_form hJ.own
        by_cases hlj : j < n
        · have hz := hpl j hlj
          have hzz : (ptL r.t n)[j]'(by omega) = pt r.t j := by have := List.getElem?_eq_getElem (l := ptL r.t n) (i := j) (by omega); rw [hz] at this; exact (Option.some.inj this).symm
          obtain ⟨hxm, hxn, hxl⟩ := hst j (by omega)
          rw [hzz] at hxm hxn
          have hxw := may_wf hxm
          have HA : Hid (X ++ atG r.c r.q r.f ((ptL r.t n).take (j + 1)) = (X ++ atG r.c r.q r.f ((ptL r.t n).take j)) ++ [⟨r.c, r.q, r.f + (j : Int), pt r.t j⟩]) := by show _ = _; rw [atG_take1 _ _ _ _ _ _ hz, List.append_assoc]
          have h1 := (hv.1 j hlj).1
          have hd := dec_pos hv hlj
          have hnx : ∀ ty, (Instr.next (.pointer (some ⟨wo.heap.size + 1, 0, none⟩)) true ty).run Tryd.prog wr = _ := fun ty => Lib.run_next_any_at wr (wo.heap.size + 1) r.t (pos r.t j) ty hJ.it h1
          rw [hd.2.1, hd.1] at hnx
          obtain ⟨W1, hW⟩ : ∃ y, y = wr.iterAt (wo.heap.size + 1) r.t (pos r.t (j + 1)) := ⟨_, rfl⟩
          rw [← hW] at hnx
          have HW : Hid (W1 = wr.iterAt (wo.heap.size + 1) r.t (pos r.t (j + 1))) := hW
          clear hW
          have hmp := hJ.map HW.out (.cells #[.int .i64 r.c, .int .i64 r.q, .int .i64 (r.f + (j : Int)), .int .i32 (pt r.t j)] 136)
          have hM3 : ∀ W3, _ → _ := fun W3 => Ri.mid (x := ⟨r.c, r.q, r.f + (j : Int), pt r.t j⟩) (W3 := W3) hJ HW.out
          have hM5 : ∀ W3 W5 o4, _ → _ → _ := fun W3 W5 o4 => Ri.mid5 (x := ⟨r.c, r.q, r.f + (j : Int), pt r.t j⟩) (W3 := W3) (W5 := W5) (o4 := o4) hJ HW.out
          have hMs := fun W3 W5 u' o4 D => Ri.step (x := ⟨r.c, r.q, r.f + (j : Int), pt r.t j⟩) (W3 := W3) (W5 := W5) (u' := u') (o4 := o4) hJ hxw hxn D
          rw [← HW.out] at hMs
          clear hJ hd h1 hz hzz hpl hst hxm
          generalize X ++ atG r.c r.q r.f ((ptL r.t n).take j) = Y at *
          obtain ⟨⟨-, -, D, ho, hD2, hD3⟩, ⟨c0, c1⟩, ⟨c2, c3⟩, hl1, hl2⟩ := hmp
          have hkey := kM_key hxw
          unfold atV at hkey
          simp only [Atm.key] at hkey
          have hsd : ¬ W1.heap.size = w.heap.size + 1 + 1 := by omega
          go_wp2_with (first | (at_mapUpdate; refine wpList_mapUpdate_own _ rfl _ _ _ 83 rfl 134 3 matKeyed Tryd.underlying83 (plainElem (H := Unit) Tryd.prog 3) (w.heap.size + 1) Y.length D rfl ho (by unfold maxLen; omega) _ (.int .i64 (Y.length : Int)) _ rfl rfl hkey (.lit (.int .i64 (Y.length : Int))) [] (plainElem_int Tryd.underlying3 (wf_len (by omega))) ?_; intro w3 ho3 hg3; obtain ⟨d0, ⟨d1, d2, d3, d4⟩, hown3, hs3⟩ := hM3 w3 hg3) | (at_builtin; refine wpList_app_units _ rfl (.tmp 40) (.tmp 42) rfl (w.heap.size + 3) _ _ Y [⟨r.c, r.q, r.f + (j : Int), pt r.t j⟩] rfl rfl (hown3.alloc _) (by simp; omega) (rdk_new w3 _) (by simp; omega) ?_; intro v5 w5 ho5 hg5; obtain ⟨d5, d6⟩ := hM5 w3 w5 _ hg3 hg5; obtain ⟨a5, k5, rfl⟩ := own_form ho5))
          have hfin := hMs w3 w5 _ _ D hD2 hD3 ho ho3 hg3 ho5 hg5
          simp only [List.length_append, List.length_cons, List.length_nil, Nat.zero_add] at hfin
          refine ⟨⟨j + 1, _, by omega, by go_num, by rw [HA.out]; exact hfin⟩, ?_⟩
          simp [Go.RowKit.intOf]
          omega
        · obtain rfl : j = n := by omega
          have hne : ¬ pos r.t j < r.t.size := by rw [hv.2]; omega
          have hnx : ∀ ty, (Instr.next (.pointer (some ⟨wo.heap.size + 1, 0, none⟩)) true ty).run Tryd.prog wr = _ := fun ty => Lib.run_next_end_at wr (wo.heap.size + 1) r.t (pos r.t j) ty hJ.it hne
          have hfin := hJ.toRo
          rw [List.take_of_length_le (by omega)] at hfin
          have hsz : w.heap.size + 3 ≤ wr.heap.size := by have := hJ.lo; have := heap_lt hJ.it; omega
          clear hst hpl hv hne hJ
          go_wp2_with fail
          refine ⟨⟨k + 1, _, by omega, by go_num, by rw [HT.out]; exact hfin, hsz⟩, ?_⟩
          simp [Go.RowKit.intOf]
          omega
    · obtain rfl : k = l.length := by omega
      rw [List.take_length] at hR
      obtain ⟨a1, k1, rfl⟩ := own_form hR.own
      obtain ⟨c0, c1, -⟩ := hR.cells
      have r0 : wr.cell? ⟨w.heap.size, 0, none⟩ = some (.slice none 0 0) ∧ wr.cell? ⟨w.heap.size, 1, none⟩ = some (.map none) := by
        refine ⟨?_, ?_⟩ <;> (unfold World.cell?; rw [hR.rs]; rfl)
      obtain ⟨r0, r1⟩ := r0
      have f0 := frz hR.rs 0
      have f1 := frz hR.rs 1
      have hfin : ((wr.setCell ⟨w.heap.size, 0, none⟩ (.slice a1 (ats l).length k1)).setCell ⟨w.heap.size, 1, none⟩ (.map (some (w.heap.size + 1)))).heap[w.heap.size]? = some (.cells #[.slice a1 (ats l).length k1, .map (some (w.heap.size + 1))] 85) := heap_setCell (heap_setCell hR.rs 0 _) 1 _
      have hB2 := bl_set2 hR.bel (Nat.le_refl _) (.slice a1 (ats l).length k1) (.map (some (w.heap.size + 1)))
      have hO : Only [w.heap.size] wr ((wr.setCell ⟨w.heap.size, 0, none⟩ (.slice a1 (ats l).length k1)).setCell ⟨w.heap.size, 1, none⟩ (.map (some (w.heap.size + 1)))) := (Only.setCell wr (by simp) _).trans (Only.setCell _ (by simp) _)
      have hown := own_only hR.own hO (fun g hg => by simp; have := (hR.own.lt g hg).1; omega)
      have hmp := hR.mp.block (hO.block (w.heap.size + 1) (by omega) (by simp))
      have hrd := rdk_own hown
      clear hR hO hown
      go_wp2_with fail
      refine bodyPost_ret (results_cell_row rfl _ _ w.heap.size 85 _ (0, 0) _ rfl hfin Tryd.underlying85 rfl Tryd.sizeRow) rfl ?_
      exact ⟨_, _, rfl, hrd, hmp, hB2⟩
end Go.Proofs.YtjimolafoihnpaaDoor
