/-
  The reference's device as it lies in memory; contracts of its small methods.
-/
import Derived.Test.YthgdjgbikljbeaaCrashed
import Derived.Test.YthgdjgbikljbeaaLawA
namespace Go.Proofs.Ythgdjgbikljbeaa
open Go.RowKit Go.Maps

/-- Block g of w is a row whose first n cells are f's. -/
def Row (w : World) (g : Nat) (t : TypeId) (n : Nat) (f : Nat → Value) : Prop := ∃ cur, w.heap[g]? = some (.cells cur t) ∧ ∀ i, i < n → cur[i]? = some (f i)

theorem Row.kept {w w' : World} {g : Nat} {t : TypeId} {n : Nat} {f : Nat → Value} {S : List Nat} (h : Row w g t n f) (ho : Only S w w') (hg : g ∉ S) : Row w' g t n f := by
  obtain ⟨c, e, r⟩ := h
  exact ⟨c, only_heap e ho hg, r⟩
theorem Row.cell {w : World} {g : Nat} {t : TypeId} {n : Nat} {f : Nat → Value} (h : Row w g t n f) {i : Nat} (hi : i < n) : w.cell? ⟨g, i, none⟩ = some (f i) := by
  obtain ⟨c, e, r⟩ := h
  rw [cell_at e]
  exact r i hi
theorem Row.z {w : World} {g : Nat} {t : TypeId} {n : Nat} {f : Nat → Value} (h : Row w g t n f) (i : Nat) : w.frozen? ⟨g, i, none⟩ = false := by
  obtain ⟨c, e, _⟩ := h
  exact frozen_at e i
theorem Row.congr {w : World} {g : Nat} {t : TypeId} {n : Nat} {f f' : Nat → Value} (h : Row w g t n f) (hf : ∀ i, i < n → f i = f' i) : Row w g t n f' := by
  obtain ⟨c, e, r⟩ := h
  exact ⟨c, e, fun i hi => by rw [r i hi, hf i hi]⟩
theorem Row.set {w : World} {g : Nat} {t : TypeId} {n : Nat} {f : Nat → Value} (h : Row w g t n f) (i : Nat) (v : Value) : Row (w.setCell ⟨g, i, none⟩ v) g t n (fun j => if j = i then v else f j) := by
  obtain ⟨c, e, r⟩ := h
  refine ⟨_, heap_setCell e i v, fun j hj => ?_⟩
  show _ = some (if j = i then v else f j)
  rw [Array.getElem?_setIfInBounds]
  have := r j hj
  by_cases e : i = j
  · subst e
    rw [if_pos rfl, if_pos (Array.getElem?_eq_some_iff.1 this).1, if_pos rfl]
  · rw [if_neg e, if_neg (fun h => e h.symm)]
    exact this
theorem Row.lt {w : World} {g : Nat} {t : TypeId} {n : Nat} {f : Nat → Value} (h : Row w g t n f) : g < w.heap.size := by
  obtain ⟨c, e, _⟩ := h
  exact heap_lt e

theorem ne_of_elem {w : World} {a b : Nat} {x y : Array Value} {t u : TypeId} {f g : Nat × Nat} (h1 : w.heap[a]? = some (.cells x t f)) (h2 : w.heap[b]? = some (.cells y u g)) (h : t ≠ u) : a ≠ b := by
  rintro rfl
  rw [h1] at h2
  cases h2
  exact h rfl
theorem ne_of_map {w : World} {a b : Nat} {x : Array Value} {t : TypeId} {f : Nat × Nat} {k : TypeId} {R : Value → Option (DataW Unit × List MemPlace)} {n : Nat} {D : DataW Unit} (h1 : w.heap[a]? = some (.cells x t f)) (h2 : w.ownsMap Try.prog k R b n D) : a ≠ b := by
  rintro rfl
  obtain ⟨es, c, hb, _⟩ := h2
  rw [h1] at hb
  cases hb

/-- At block q lies the reference's device, its rows in the blocks gs, gi, gw. -/
structure IsRG (w : World) (q gs gi gw n : Nat) (fuse age : Int) (S : Nat → ByteArray) (I : Nat → Bool) (X : Nat → ByteArray) : Prop where
  str : ∃ cs ci cw, w.heap[q]? = some (.cells #[.slice (some ⟨gs, 0, none⟩) n cs, .slice (some ⟨gi, 0, none⟩) n ci, .slice (some ⟨gw, 0, none⟩) n cw, .int .i64 fuse, .int .i64 age] 62) ∧ n ≤ cs ∧ n ≤ ci ∧ n ≤ cw
  rs : Row w gs 9 n fun i => .string (S i)
  ri : Row w gi 4 n fun i => .bool (I i)
  rx : Row w gw 9 n fun i => .string (X i)
  ne : gs ≠ gw
  lo : 8 ≤ n
  hi : n ≤ 8192

section
variable {w w' : World} {q gs gi gw n : Nat} {fuse age : Int} {S : Nat → ByteArray} {I : Nat → Bool} {X : Nat → ByteArray}

theorem IsRG.kept {L : List Nat} (h : IsRG w q gs gi gw n fuse age S I X) (ho : Only L w w') (h1 : q ∉ L) (h2 : gs ∉ L) (h3 : gi ∉ L) (h4 : gw ∉ L) : IsRG w' q gs gi gw n fuse age S I X := by
  obtain ⟨cs, ci, cw, e, r⟩ := h.str
  exact ⟨⟨cs, ci, cw, only_heap e ho h1, r⟩, h.rs.kept ho h2, h.ri.kept ho h3, h.rx.kept ho h4, h.ne, h.lo, h.hi⟩
theorem IsRG.below (h : IsRG w q gs gi gw n fuse age S I X) (hb : Below w.heap.size w w') : IsRG w' q gs gi gw n fuse age S I X :=
  h.kept (Only.of_below (S := []) hb) (by simp) (by simp) (by simp) (by simp)
theorem IsRG.drew (h : IsRG w q gs gi gw n fuse age S I X) : IsRG w.drew q gs gi gw n fuse age S I X := h.kept (Only.drew [] w) (by simp) (by simp) (by simp) (by simp)
theorem IsRG.inner (h : IsRG w q gs gi gw n fuse age S I X) : q ≠ gs ∧ q ≠ gi ∧ q ≠ gw ∧ gs ≠ gi ∧ gw ≠ gi := by
  obtain ⟨cs, ci, cw, e, _⟩ := h.str
  obtain ⟨c1, e1, _⟩ := h.rs
  obtain ⟨c2, e2, _⟩ := h.ri
  obtain ⟨c3, e3, _⟩ := h.rx
  exact ⟨ne_of_elem e e1 (by decide), ne_of_elem e e2 (by decide), ne_of_elem e e3 (by decide), ne_of_elem e1 e2 (by decide), ne_of_elem e3 e2 (by decide)⟩
theorem IsRG.cells (h : IsRG w q gs gi gw n fuse age S I X) : ∃ cs ci cw, w.cell? ⟨q, 0, none⟩ = some (.slice (some ⟨gs, 0, none⟩) n cs) ∧ w.cell? ⟨q, 1, none⟩ = some (.slice (some ⟨gi, 0, none⟩) n ci) ∧ w.cell? ⟨q, 2, none⟩ = some (.slice (some ⟨gw, 0, none⟩) n cw) ∧ w.cell? ⟨q, 3, none⟩ = some (.int .i64 fuse) ∧ w.cell? ⟨q, 4, none⟩ = some (.int .i64 age) ∧ n ≤ cs ∧ n ≤ ci ∧ n ≤ cw := by
  obtain ⟨cs, ci, cw, e, r1, r2, r3⟩ := h.str
  exact ⟨cs, ci, cw, cell_at e 0, cell_at e 1, cell_at e 2, cell_at e 3, cell_at e 4, r1, r2, r3⟩
theorem IsRG.z (h : IsRG w q gs gi gw n fuse age S I X) (j : Nat) : w.frozen? ⟨q, j, none⟩ = false := by
  obtain ⟨cs, ci, cw, e, _⟩ := h.str
  exact frozen_at e j
theorem IsRG.setS (h : IsRG w q gs gi gw n fuse age S I X) (i : Nat) (x : ByteArray) : IsRG (w.setCell ⟨gs, i, none⟩ (.string x)) q gs gi gw n fuse age (fun j => if j = i then x else S j) I X := by
  obtain ⟨n1, n2, n3, n4, n5⟩ := h.inner
  have ho : Only [gs] w (w.setCell ⟨gs, i, none⟩ (.string x)) := Only.setCell w (by simp) _
  obtain ⟨cs, ci, cw, e, r⟩ := h.str
  exact ⟨⟨cs, ci, cw, only_heap e ho (by simp [n1]), r⟩, (h.rs.set i _).congr (fun j _ => by split <;> rfl), h.ri.kept ho (by simp [n4.symm]), h.rx.kept ho (by simp [h.ne.symm]), h.ne, h.lo, h.hi⟩
theorem IsRG.setI (h : IsRG w q gs gi gw n fuse age S I X) (i : Nat) (b : Bool) : IsRG (w.setCell ⟨gi, i, none⟩ (.bool b)) q gs gi gw n fuse age S (fun j => if j = i then b else I j) X := by
  obtain ⟨n1, n2, n3, n4, n5⟩ := h.inner
  have ho : Only [gi] w (w.setCell ⟨gi, i, none⟩ (.bool b)) := Only.setCell w (by simp) _
  obtain ⟨cs, ci, cw, e, r⟩ := h.str
  exact ⟨⟨cs, ci, cw, only_heap e ho (by simp [n2]), r⟩, h.rs.kept ho (by simp [n4]), (h.ri.set i _).congr (fun j _ => by split <;> rfl), h.rx.kept ho (by simp [n5]), h.ne, h.lo, h.hi⟩
theorem IsRG.setX (h : IsRG w q gs gi gw n fuse age S I X) (i : Nat) (x : ByteArray) : IsRG (w.setCell ⟨gw, i, none⟩ (.string x)) q gs gi gw n fuse age S I (fun j => if j = i then x else X j) := by
  obtain ⟨n1, n2, n3, n4, n5⟩ := h.inner
  have ho : Only [gw] w (w.setCell ⟨gw, i, none⟩ (.string x)) := Only.setCell w (by simp) _
  obtain ⟨cs, ci, cw, e, r⟩ := h.str
  exact ⟨⟨cs, ci, cw, only_heap e ho (by simp [n3]), r⟩, h.rs.kept ho (by simp [h.ne]), h.ri.kept ho (by simp [n5.symm]), (h.rx.set i _).congr (fun j _ => by split <;> rfl), h.ne, h.lo, h.hi⟩
theorem IsRG.setFuse (h : IsRG w q gs gi gw n fuse age S I X) (f : Int) : IsRG (w.setCell ⟨q, 3, none⟩ (.int .i64 f)) q gs gi gw n f age S I X := by
  obtain ⟨n1, n2, n3, n4, n5⟩ := h.inner
  have ho : Only [q] w (w.setCell ⟨q, 3, none⟩ (.int .i64 f)) := Only.setCell w (by simp) _
  obtain ⟨cs, ci, cw, e, r⟩ := h.str
  exact ⟨⟨cs, ci, cw, heap_setCell e 3 _, r⟩, h.rs.kept ho (by simp [n1.symm]), h.ri.kept ho (by simp [n2.symm]), h.rx.kept ho (by simp [n3.symm]), h.ne, h.lo, h.hi⟩
theorem IsRG.setAge (h : IsRG w q gs gi gw n fuse age S I X) (f : Int) : IsRG (w.setCell ⟨q, 4, none⟩ (.int .i64 f)) q gs gi gw n fuse f S I X := by
  obtain ⟨n1, n2, n3, n4, n5⟩ := h.inner
  have ho : Only [q] w (w.setCell ⟨q, 4, none⟩ (.int .i64 f)) := Only.setCell w (by simp) _
  obtain ⟨cs, ci, cw, e, r⟩ := h.str
  exact ⟨⟨cs, ci, cw, heap_setCell e 4 _, r⟩, h.rs.kept ho (by simp [n1.symm]), h.ri.kept ho (by simp [n2.symm]), h.rx.kept ho (by simp [n3.symm]), h.ne, h.lo, h.hi⟩
theorem IsRG.congr {S' : Nat → ByteArray} {I' : Nat → Bool} {X' : Nat → ByteArray} (h : IsRG w q gs gi gw n fuse age S I X) (hS : ∀ i, i < n → S i = S' i) (hI : ∀ i, i < n → I i = I' i) (hX : ∀ i, i < n → X i = X' i) : IsRG w q gs gi gw n fuse age S' I' X' :=
  ⟨h.str, h.rs.congr (fun i hi => by rw [hS i hi]), h.ri.congr (fun i hi => by rw [hI i hi]), h.rx.congr (fun i hi => by rw [hX i hi]), h.ne, h.lo, h.hi⟩
end

/-- The reference's device is s. -/
def IsRef (w : World) (q gs gi gw : Nat) (s : DevS) : Prop :=
  ∃ X, IsRG w q gs gi gw s.n s.fuse s.age (fun i => mk (s.safeAt i)) (fun i => (s.waits i).isSome) X ∧ (∀ i t, i < s.n → s.waits i = some t → X i = mk t) ∧ -1 ≤ s.fuse ∧ s.fuse ≤ 9223372036854775807

theorem IsRef.kept {w w' : World} {q gs gi gw : Nat} {s : DevS} {L : List Nat} (h : IsRef w q gs gi gw s) (ho : Only L w w') (h1 : q ∉ L) (h2 : gs ∉ L) (h3 : gi ∉ L) (h4 : gw ∉ L) : IsRef w' q gs gi gw s := by
  obtain ⟨X, h, r⟩ := h
  exact ⟨X, h.kept ho h1 h2 h3 h4, r⟩
theorem IsRef.below {w w' : World} {q gs gi gw : Nat} {s : DevS} (h : IsRef w q gs gi gw s) (hb : Below w.heap.size w w') : IsRef w' q gs gi gw s :=
  h.kept (Only.of_below (S := []) hb) (by simp) (by simp) (by simp) (by simp)

theorem IsRef.apart {w : World} {p bs bw q gs gi gw : Nat} {s r : DevS} (h : IsRef w q gs gi gw r) (hd : IsDev w p bs bw s) : (q ∉ [p, bs, bw] ∧ gs ∉ [p, bs, bw] ∧ gi ∉ [p, bs, bw] ∧ gw ∉ [p, bs, bw]) ∧ p ∉ [q, gs, gi, gw] ∧ bs ∉ [q, gs, gi, gw] ∧ bw ∉ [q, gs, gi, gw] := by
  obtain ⟨X, h, _⟩ := h
  obtain ⟨cs, ci, cw, e, _⟩ := h.str
  obtain ⟨c1, e1, _⟩ := h.rs
  obtain ⟨c2, e2, _⟩ := h.ri
  obtain ⟨c3, e3, _⟩ := h.rx
  have a1 := ne_of_elem e hd.str (by decide)
  have a2 := ne_of_map e hd.safe
  have a3 := ne_of_map e hd.waits
  have b1 := ne_of_elem e1 hd.str (by decide)
  have b2 := ne_of_map e1 hd.safe
  have b3 := ne_of_map e1 hd.waits
  have d1 := ne_of_elem e2 hd.str (by decide)
  have d2 := ne_of_map e2 hd.safe
  have d3 := ne_of_map e2 hd.waits
  have f1 := ne_of_elem e3 hd.str (by decide)
  have f2 := ne_of_map e3 hd.safe
  have f3 := ne_of_map e3 hd.waits
  simp only [List.mem_cons, List.not_mem_nil, or_false, not_or]
  exact ⟨⟨⟨a1, a2, a3⟩, ⟨b1, b2, b3⟩, ⟨d1, d2, d3⟩, ⟨f1, f2, f3⟩⟩, ⟨a1.symm, b1.symm, d1.symm, f1.symm⟩, ⟨a2.symm, b2.symm, d2.symm, f2.symm⟩, ⟨a3.symm, b3.symm, d3.symm, f3.symm⟩⟩

/-! ### The small methods -/

set_option maxHeartbeats 400000 in
theorem rsectors_any {w : World} {q gs gi gw : Nat} {s : DevS} (h : IsRef w q gs gi gw s) :
    Calls Try.prog 31 #[.pointer (some ⟨q, 0, none⟩)] w fun e w' => e = .returned (.int .i64 (s.n : Int)) ∧ w' = w := by
  obtain ⟨X, h, _⟩ := h
  obtain ⟨cs, ci, cw, h0, h1, h2, h3, h4, _⟩ := h.cells
  clear h
  go_enter Try.func31, Try.ntmps31
  go_wp2
  go_ret
  exact ⟨rfl, rfl⟩
set_option maxHeartbeats 400000 in
theorem rup_any {w : World} {q gs gi gw : Nat} {s : DevS} (h : IsRef w q gs gi gw s) :
    Calls Try.prog 32 #[.pointer (some ⟨q, 0, none⟩)] w fun e w' => e = .returned (.bool s.up) ∧ w' = w := by
  obtain ⟨X, h, _⟩ := h
  obtain ⟨cs, ci, cw, h0, h1, h2, h3, h4, _⟩ := h.cells
  unfold DevS.up
  clear h
  go_enter Try.func32, Try.ntmps32
  go_wp2
  go_ret
  exact ⟨rfl, rfl⟩
set_option maxHeartbeats 400000 in
theorem rage_any {w : World} {q gs gi gw : Nat} {s : DevS} (h : IsRef w q gs gi gw s) :
    Calls Try.prog 33 #[.pointer (some ⟨q, 0, none⟩)] w fun e w' => e = .returned (.int .i64 s.age) ∧ w' = w := by
  obtain ⟨X, h, _⟩ := h
  obtain ⟨cs, ci, cw, h0, h1, h2, h3, h4, _⟩ := h.cells
  clear h
  go_enter Try.func33, Try.ntmps33
  go_wp2
  go_ret
  exact ⟨rfl, rfl⟩
set_option maxHeartbeats 400000 in
theorem rhas_any {w : World} {q gs gi gw n : Nat} {fuse age : Int} {S : Nat → ByteArray} {I : Nat → Bool} {X : Nat → ByteArray} (h : IsRG w q gs gi gw n fuse age S I X) (k : Int) :
    Calls Try.prog 47 #[.pointer (some ⟨q, 0, none⟩), .int .i64 k] w fun e w' => e = .returned (.bool (decide (0 ≤ k) && decide (k < (n : Int)))) ∧ w' = w := by
  obtain ⟨cs, ci, cw, h0, h1, h2, h3, h4, _⟩ := h.cells
  clear h h1 h2 h3 h4
  by_cases hk : 0 ≤ k
  · have e : (decide (0 ≤ k) && decide (k < (n : Int))) = decide (k < (n : Int)) := by simp [hk]
    rw [e]
    clear e
    go_enter Try.func47, Try.ntmps47
    go_wp2
    go_ret
    exact ⟨rfl, rfl⟩
  · have e : (decide (0 ≤ k) && decide (k < (n : Int))) = false := by simp [hk]
    rw [e]
    clear e
    have hk' : k < 0 := by omega
    go_enter Try.func47, Try.ntmps47
    go_wp2
    go_ret
    exact ⟨rfl, rfl⟩
set_option maxHeartbeats 400000 in
theorem rburn_any {w : World} {q gs gi gw n : Nat} {fuse age : Int} {S : Nat → ByteArray} {I : Nat → Bool} {X : Nat → ByteArray} (h : IsRG w q gs gi gw n fuse age S I X) (hf0 : -1 ≤ fuse) (hf1 : fuse ≤ 9223372036854775807) :
    Calls Try.prog 48 #[.pointer (some ⟨q, 0, none⟩)] w fun e w' => e = .returned (.tuple #[]) ∧ IsRG w' q gs gi gw n (burnt fuse) age S I X ∧ Only [q] w w' := by
  obtain ⟨cs, ci, cw, h0, h1, h2, h3, h4, _⟩ := h.cells
  have hz := h.z 3
  by_cases hf : 0 < fuse
  · have R := h.setFuse (fuse - 1)
    have e : burnt fuse = fuse - 1 := if_pos hf
    rw [e]
    clear e h
    go_enter Try.func48, Try.ntmps48
    go_wp2
    go_end0
    exact ⟨rfl, R, Only.setCell w (by simp) _⟩
  · have e : burnt fuse = fuse := if_neg hf
    rw [e]
    clear e
    go_enter Try.func48, Try.ntmps48
    go_wp2
    go_end0
    exact ⟨rfl, h, Only.refl _ _⟩
end Go.Proofs.Ythgdjgbikljbeaa
