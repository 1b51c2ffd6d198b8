/-
  The pair of the statements in memory.
-/
import Derived.Test.YtblhmfkohbdmeaaWLawF
namespace Go.Proofs.Ytblhmfkohbdmeaa
open Go.RowKit Go.Maps

/-- Where a pair's parts lie. -/
structure PA where
  q : Nat
  r : Nat
  p : Nat
  bs : Nat
  bw : Nat
  gm : Nat
  cp : Nat
  N : Nat
  K : Nat → Option Obj

/-- Writes in a row of writes. -/
def RdWT (W : World) (v : Value) (l : List WrD) : Prop :=
  ∃ ao cp, v = .slice ao l.length cp ∧ (l.length ≤ cp ∧ (ao = none → cp = 0)) ∧ ∀ (i : Nat) (o : WrD), l[i]? = some o → ∃ g cur, ao = some ⟨g, 0, none⟩ ∧ W.heap[g]? = some (.cells cur 57) ∧ cur[i * 2]? = some (.int .i64 o.k) ∧ cur[i * 2 + 1]? = some (.string o.x)
theorem RdWT.rd {W : World} {v : Value} {l : List WrD} (h : RdWT W v l) : RdWr W v l := by
  obtain ⟨ao, cp, e, hc, h1⟩ := h
  refine ⟨ao, cp, e, hc, fun i o ho => ?_⟩
  obtain ⟨g, cur, e1, hg, c0, c1⟩ := h1 i o ho
  exact ⟨g, 0, e1, heap_lt hg, by rw [cell_at hg, Nat.zero_add]; exact c0, by rw [cell_at hg, Nat.zero_add]; exact c1⟩
theorem RdWT.nil (W : World) : RdWT W (.slice none 0 0) [] := ⟨none, 0, rfl, ⟨Nat.le_refl _, fun _ => rfl⟩, fun i o h => by simp at h⟩

/-- Rows of texts and of writes are as they were. -/
def KeepT (W W' : World) : Prop := ∀ (g : Nat) (cur : Array Value) (t : TypeId), t = 9 ∨ t = 57 → W.heap[g]? = some (.cells cur t) → W'.heap[g]? = some (.cells cur t)
theorem RdT.keepT {W W' : World} {v : Value} {l : List ByteArray} (h : RdT W v l) (hk : KeepT W W') : RdT W' v l := h.keep fun g cur hg => hk g cur _ (.inl rfl) hg
theorem RdWT.keepT {W W' : World} {v : Value} {l : List WrD} (h : RdWT W v l) (hk : KeepT W W') : RdWT W' v l := by
  obtain ⟨ao, cp, e, hc, h1⟩ := h
  refine ⟨ao, cp, e, hc, fun i o ho => ?_⟩
  obtain ⟨g, cur, e1, hg, c⟩ := h1 i o ho
  exact ⟨g, cur, e1, hk g cur _ (.inr rfl) hg, c⟩
theorem keepT_only {W W' : World} {S : List Nat} (ho : Only S W W') (hS : ∀ k ∈ S, ∀ (cur : Array Value) (t : TypeId), W.heap[k]? = some (.cells cur t) → t ≠ 9 ∧ t ≠ 57) : KeepT W W' := by
  intro g cur t ht hg
  refine only_heap hg ho (fun hm => ?_)
  obtain ⟨h1, h2⟩ := hS g hm cur t hg
  rcases ht with rfl | rfl
  · exact h1 rfl
  · exact h2 rfl

/-- A pair. -/
structure IsPa (W0 W : World) (A : PA) (wl pl : Bool) (s : DevS) (ja : Int) (M : Nat → List ByteArray) (vl : Value) (late : List WrD) : Prop where
  dev : IsDev W A.p A.bs A.bw s
  wal : IsWal W A.r A.p ja wl
  str : W.heap[A.q]? = some (.cells #[.pointer (some ⟨A.p, 0, none⟩), .pointer (some ⟨A.r, 0, none⟩), .slice (some ⟨A.gm, 0, none⟩) A.N A.cp, vl, .bool pl] 51)
  may : ∃ cur, W.heap[A.gm]? = some (.cells cur 62) ∧ ∀ i, i < A.N → ∃ u, cur[i]? = some u ∧ RdT W u (M i)
  late : RdWT W vl late
  n : s.n = A.N + 25
  lo : 7 ≤ A.N
  cap : A.N ≤ A.cp
  b : Below W0.heap.size W0 W
  lq : W0.heap.size ≤ A.q
  lr : W0.heap.size ≤ A.r
  lp : W0.heap.size ≤ A.p
  ls : W0.heap.size ≤ A.bs
  lw : W0.heap.size ≤ A.bw
  lg : W0.heap.size ≤ A.gm
  kp : ∀ g o, A.K g = some o → W.heap[g]? = some o ∧ g ∉ [A.q, A.r, A.p, A.bs, A.bw, A.gm]

/-- A pair whose journal is of the device's age. -/
abbrev IsP (W0 W : World) (A : PA) (wl pl : Bool) (s : DevS) (M : Nat → List ByteArray) (vl : Value) (late : List WrD) : Prop := IsPa W0 W A wl pl s s.age M vl late

section
variable {W0 W W' : World} {A : PA} {wl wl' pl pl' : Bool} {s s' : DevS} {ja ja' : Int} {M : Nat → List ByteArray} {vl : Value} {late : List WrD}

theorem dw_types (hd : IsDev W A.p A.bs A.bw s) (hw : IsWal W A.r A.p ja wl) : ∀ k ∈ [A.r, A.p, A.bs, A.bw], ∀ (cur : Array Value) (t : TypeId), W.heap[k]? = some (.cells cur t) → t = 80 ∨ t = 71 := by
  intro k hk cur t h
  simp at hk
  rcases hk with rfl | rfl | rfl | rfl
  · rw [hw] at h; cases h; exact .inl rfl
  · rw [hd.str] at h; cases h; exact .inr rfl
  · obtain ⟨es, c, hb, _⟩ := hd.safe
    rw [hb] at h; cases h
  · obtain ⟨es, c, hb, _⟩ := hd.waits
    rw [hb] at h; cases h
theorem IsPa.free (h : IsPa W0 W A wl pl s ja M vl late) {g : Nat} {cur : Array Value} {t : TypeId} (hg : W.heap[g]? = some (.cells cur t)) (h1 : t ≠ 80) (h2 : t ≠ 71) : g ∉ [A.r, A.p, A.bs, A.bw] := fun hm => by
  rcases dw_types h.dev h.wal g hm cur t hg with e | e
  · exact h1 e
  · exact h2 e
theorem IsPa.keepT (h : IsPa W0 W A wl pl s ja M vl late) (ho : Only [A.r, A.p, A.bs, A.bw] W W') : KeepT W W' := keepT_only ho fun k hk cur t hc => by
  rcases dw_types h.dev h.wal k hk cur t hc with rfl | rfl <;> decide

theorem IsPa.step (h : IsPa W0 W A wl pl s ja M vl late) (hd : IsDev W' A.p A.bs A.bw s') (hw : IsWal W' A.r A.p ja' wl') (ho : Only [A.r, A.p, A.bs, A.bw] W W') (hn : s'.n = s.n) : IsPa W0 W' A wl' pl s' ja' M vl late := by
  have hk := h.keepT ho
  obtain ⟨cur, hc, hm⟩ := h.may
  refine ⟨hd, hw, only_heap h.str ho (h.free h.str (by decide) (by decide)), ⟨cur, only_heap hc ho (h.free hc (by decide) (by decide)), fun i hi => ?_⟩, h.late.keepT hk, hn.trans h.n, h.lo, h.cap, ?_, h.lq, h.lr, h.lp, h.ls, h.lw, h.lg, fun g o hg => ?_⟩
  · obtain ⟨u, h1, h2⟩ := hm i hi
    exact ⟨u, h1, h2.keepT hk⟩
  · exact h.b.trans (ho.below h.b.size (by have := h.lr; have := h.lp; have := h.ls; have := h.lw; simp; omega))
  · obtain ⟨h1, h2⟩ := h.kp g o hg
    exact ⟨only_heap h1 ho (fun hm => h2 (by simp at hm ⊢; omega)), h2⟩
theorem keepT_below (hb : Below W.heap.size W W') : KeepT W W' := fun g _ _ _ hg => (hb.block g (heap_lt hg)).trans hg
theorem IsPa.below (h : IsPa W0 W A wl pl s ja M vl late) (hb : Below W.heap.size W W') : IsPa W0 W' A wl pl s ja M vl late := by
  obtain ⟨cur, hc, hm⟩ := h.may
  refine ⟨h.dev.below hb, h.wal.below hb, (hb.block _ (heap_lt h.str)).trans h.str, ⟨cur, (hb.block _ (heap_lt hc)).trans hc, fun i hi => ?_⟩, h.late.keepT (keepT_below hb), h.n, h.lo, h.cap, h.b.trans (hb.mono h.b.size), h.lq, h.lr, h.lp, h.ls, h.lw, h.lg, fun g o hg => ⟨(hb.block g (heap_lt (h.kp g o hg).1)).trans (h.kp g o hg).1, (h.kp g o hg).2⟩⟩
  obtain ⟨u, h1, h2⟩ := hm i hi
  exact ⟨u, h1, h2.below hb⟩
theorem IsPa.cells (h : IsPa W0 W A wl pl s ja M vl late) : W.cell? ⟨A.q, 0, none⟩ = some (.pointer (some ⟨A.p, 0, none⟩)) ∧ W.cell? ⟨A.q, 1, none⟩ = some (.pointer (some ⟨A.r, 0, none⟩)) ∧ W.cell? ⟨A.q, 2, none⟩ = some (.slice (some ⟨A.gm, 0, none⟩) A.N A.cp) ∧ W.cell? ⟨A.q, 3, none⟩ = some vl ∧ W.cell? ⟨A.q, 4, none⟩ = some (.bool pl) :=
  ⟨cell_at h.str 0, cell_at h.str 1, cell_at h.str 2, cell_at h.str 3, cell_at h.str 4⟩
theorem IsPa.frz (h : IsPa W0 W A wl pl s ja M vl late) (j : Nat) : W.frozen? ⟨A.q, j, none⟩ = false := frozen_at h.str j
/-- The sectors that may be at i. -/
theorem IsPa.mayAt (h : IsPa W0 W A wl pl s ja M vl late) (i : Nat) (hi : i < A.N) : ∃ ao cp, W.cell? ⟨A.gm, i, none⟩ = some (.slice ao (M i).length cp) ∧ RdT W (.slice ao (M i).length cp) (M i) ∧ W.frozen? ⟨A.gm, i, none⟩ = false := by
  obtain ⟨cur, hc, hm⟩ := h.may
  obtain ⟨u, h1, h2⟩ := hm i hi
  obtain ⟨ao, cp, rfl, _⟩ := id h2
  exact ⟨ao, cp, by rw [cell_at hc]; exact h1, h2, frozen_at hc i⟩

theorem q_ne {g : Nat} {cur cur' : Array Value} {t t' : TypeId} {q : Nat} (h : W.heap[q]? = some (.cells cur t)) (h' : W.heap[g]? = some (.cells cur' t')) (hne : t ≠ t') : q ≠ g := by
  rintro rfl
  rw [h] at h'
  cases h'
  exact hne rfl

/-- A cell of the pair's own is set. -/
theorem IsPa.keptQ (h : IsPa W0 W A wl pl s ja M vl late) (v : Value) (j : Nat) : KeepT W (W.setCell ⟨A.q, j, none⟩ v) := keepT_only (Only.setCell (S := [A.q]) W (by simp) v) fun k hk cur t hc => by
  simp at hk
  subst hk
  rw [h.str] at hc
  cases hc
  decide
theorem IsPa.setLost (h : IsPa W0 W A wl pl s ja M vl late) (x : Bool) : IsPa W0 (W.setCell ⟨A.q, 4, none⟩ (.bool x)) A wl x s ja M vl late := by
  have ho : Only [A.q] W (W.setCell ⟨A.q, 4, none⟩ (.bool x)) := Only.setCell W (by simp) _
  have hq := h.free h.str (by decide) (by decide)
  simp at hq
  obtain ⟨cur, hc, hm⟩ := h.may
  refine ⟨h.dev.kept ho (by simp; omega) (by simp; omega) (by simp; omega), h.wal.kept ho (by simp; omega), heap_setCell h.str 4 _, ⟨cur, only_heap hc ho (by simp; exact (q_ne h.str hc (by decide)).symm), fun i hi => ?_⟩, h.late.keepT (h.keptQ _ _), h.n, h.lo, h.cap, h.b.setCell (p := ⟨A.q, 4, none⟩) h.lq _, h.lq, h.lr, h.lp, h.ls, h.lw, h.lg, fun g o hg => ⟨only_heap (h.kp g o hg).1 ho (fun hm => (h.kp g o hg).2 (by simp at hm ⊢; omega)), (h.kp g o hg).2⟩⟩
  obtain ⟨u, h1, h2⟩ := hm i hi
  exact ⟨u, h1, h2.keepT (h.keptQ _ _)⟩
theorem IsPa.setLate (h : IsPa W0 W A wl pl s ja M vl late) {v : Value} {l : List WrD} (hv : RdWT W v l) : IsPa W0 (W.setCell ⟨A.q, 3, none⟩ v) A wl pl s ja M v l := by
  have ho : Only [A.q] W (W.setCell ⟨A.q, 3, none⟩ v) := Only.setCell W (by simp) _
  have hq := h.free h.str (by decide) (by decide)
  simp at hq
  obtain ⟨cur, hc, hm⟩ := h.may
  refine ⟨h.dev.kept ho (by simp; omega) (by simp; omega) (by simp; omega), h.wal.kept ho (by simp; omega), heap_setCell h.str 3 _, ⟨cur, only_heap hc ho (by simp; exact (q_ne h.str hc (by decide)).symm), fun i hi => ?_⟩, hv.keepT (h.keptQ _ _), h.n, h.lo, h.cap, h.b.setCell (p := ⟨A.q, 3, none⟩) h.lq _, h.lq, h.lr, h.lp, h.ls, h.lw, h.lg, fun g o hg => ⟨only_heap (h.kp g o hg).1 ho (fun hm => (h.kp g o hg).2 (by simp at hm ⊢; omega)), (h.kp g o hg).2⟩⟩
  obtain ⟨u, h1, h2⟩ := hm i hi
  exact ⟨u, h1, h2.keepT (h.keptQ _ _)⟩
theorem IsPa.setWal (h : IsPa W0 W A wl pl s ja M vl late) {r : Nat} (hw : IsWal W r A.p ja' wl') (hr : W0.heap.size ≤ r) (hrK : ∀ g o, A.K g = some o → g ≠ r) : IsPa W0 (W.setCell ⟨A.q, 1, none⟩ (.pointer (some ⟨r, 0, none⟩))) { A with r := r } wl' pl s ja' M vl late := by
  have ho : Only [A.q] W (W.setCell ⟨A.q, 1, none⟩ (.pointer (some ⟨r, 0, none⟩))) := Only.setCell W (by simp) _
  have hq := h.free h.str (by decide) (by decide)
  simp at hq
  obtain ⟨cur, hc, hm⟩ := h.may
  have hqr : A.q ≠ r := q_ne h.str hw (by decide)
  refine ⟨h.dev.kept ho (by simp; omega) (by simp; omega) (by simp; omega), hw.kept ho (by simp; exact fun e => hqr e.symm), heap_setCell h.str 1 _, ⟨cur, only_heap hc ho (by simp; exact (q_ne h.str hc (by decide)).symm), fun i hi => ?_⟩, h.late.keepT (h.keptQ _ _), h.n, h.lo, h.cap, h.b.setCell (p := ⟨A.q, 1, none⟩) h.lq _, h.lq, hr, h.lp, h.ls, h.lw, h.lg, fun g o hg => ⟨only_heap (h.kp g o hg).1 ho (fun hm => (h.kp g o hg).2 (by simp at hm ⊢; omega)), fun hm => (by have h1 := (h.kp g o hg).2; have h2 := hrK g o hg; simp at hm h1; omega)⟩⟩
  obtain ⟨u, h1, h2⟩ := hm i hi
  exact ⟨u, h1, h2.keepT (h.keptQ _ _)⟩
/-- What may be at k is another list. -/
def setM (M : Nat → List ByteArray) (k : Nat) (L : List ByteArray) (i : Nat) : List ByteArray := if i = k then L else M i
theorem IsPa.setMay (h : IsPa W0 W A wl pl s ja M vl late) {k : Nat} (hk : k < A.N) {u : Value} {L : List ByteArray} (hu : RdT W u L) : IsPa W0 (W.setCell ⟨A.gm, k, none⟩ u) A wl pl s ja (setM M k L) vl late := by
  have ho : Only [A.gm] W (W.setCell ⟨A.gm, k, none⟩ u) := Only.setCell W (by simp) _
  obtain ⟨cur, hc, hm⟩ := h.may
  have hg := h.free hc (by decide) (by decide)
  simp at hg
  have hT : KeepT W (W.setCell ⟨A.gm, k, none⟩ u) := keepT_only ho fun j hj cur' t hc' => by
    simp at hj
    subst hj
    rw [hc] at hc'
    cases hc'
    decide
  refine ⟨h.dev.kept ho (by simp; omega) (by simp; omega) (by simp; omega), h.wal.kept ho (by simp; omega), only_heap h.str ho (by simp; exact q_ne h.str hc (by decide)), ⟨cur.setIfInBounds k u, heap_setCell hc k u, fun i hi => ?_⟩, h.late.keepT hT, h.n, h.lo, h.cap, h.b.setCell (p := ⟨A.gm, k, none⟩) h.lg _, h.lq, h.lr, h.lp, h.ls, h.lw, h.lg, fun g o hg => ⟨only_heap (h.kp g o hg).1 ho (fun hm => (h.kp g o hg).2 (by simp at hm ⊢; omega)), (h.kp g o hg).2⟩⟩
  obtain ⟨v, h1, h2⟩ := hm i hi
  unfold setM
  by_cases e : i = k
  · subst e
    rw [if_pos rfl]
    have : i < cur.size := (Array.getElem?_eq_some_iff.1 h1).1
    exact ⟨u, by simp [this], hu.keepT hT⟩
  · rw [if_neg e]
    refine ⟨v, ?_, h2.keepT hT⟩
    rw [Array.getElem?_setIfInBounds_ne (fun x => e x.symm)]
    exact h1
end

/-- What has answers. -/
def HasAns (x : ByteArray) (l : List ByteArray) (e : Ending) : Prop := ∃ b : Bool, e = .returned (.bool b) ∧ (b = true ↔ x ∈ l)

set_option maxRecDepth 20000 in
set_option maxHeartbeats 2000000 in
/-- Is a text among others? -/
theorem lhas_any {W : World} {ao : Option Addr} {cp : Nat} {l : List ByteArray} (h : RdT W (.slice ao l.length cp) l) (hl : l.length ≤ 5864062014800) (x : ByteArray) :
    Calls Try.prog 68 #[.slice ao l.length cp, .string x] W fun e w' => HasAns x l e ∧ w' = W := by
  obtain ⟨_, _, e, hc, h1⟩ := h
  cases e
  go_enter Try.func68, Try.ntmps68
  go_wp2_with fail
  go_loopw [5] (fun i wr => ∃ k : Nat, k ≤ l.length ∧ i = .int .i64 (k : Int) ∧ x ∉ l.take k ∧ wr = W) (fun i _ => l.length - (intOf i).toNat)
  case atStart => exact ⟨0, Nat.zero_le _, rfl, by simp, rfl⟩
  case round =>
    obtain ⟨k, hk, rfl, hne, rfl⟩ := hrel
    by_cases hlt : k < l.length
    · have hlt' : (k : Int) < (l.length : Int) := by omega
      obtain ⟨g, cur, rfl, hg, hcur⟩ := h1 k l[k] (by simp [hlt])
      have hck : wr.cell? ⟨g, k, none⟩ = some (.string l[k]) := by rw [cell_at hg]; exact hcur
      by_cases hx : l[k] = x
      · have hD : Hid (x ∈ l) := by
          show x ∈ l
          rw [← hx]
          exact List.getElem_mem hlt
        rw [hx] at hck
        clear h1 hne hg hcur hx
        go_wp2_with fail
        go_ret
        exact ⟨⟨true, rfl, fun _ => hD.out, fun _ => rfl⟩, rfl⟩
      · have hx' := list_ne hx
        have hne' : x ∉ l.take (k + 1) := by
          rw [take_snoc l k hlt, List.mem_append, List.mem_singleton]
          rintro (h | h)
          · exact hne h
          · exact hx h.symm
        have HN : Hid (x ∉ l.take (k + 1)) := hne'
        clear h1 hne hg hcur hx hne'
        generalize l[k] = y at *
        go_wp2_with fail
        go_roundw
        case rel => exact ⟨k + 1, by omega, by go_num, HN.out, by first | rfl | trivial⟩
        case measure => simp [intOf]; omega
    · obtain rfl : k = l.length := by omega
      have hlt' : ¬ (l.length : Int) < (l.length : Int) := by omega
      have hD : Hid (x ∉ l) := by
        show x ∉ l
        rw [List.take_length] at hne
        exact hne
      clear h1 hne
      go_wp2_with fail
      go_ret
      exact ⟨⟨false, rfl, fun h => (by cases h), fun h => absurd h hD.out⟩, rfl⟩
end Go.Proofs.Ytblhmfkohbdmeaa
