/-
  The contracts of behind, joined and Normal.
-/
import Derived.Test.YtcdnlkhjlgaaoaaGreatDoorDlA
import Derived.Lib.AppendStr
namespace Go.Proofs.YtcdnlkhjlgaaoaaGreatDoor
open Go.ChangeShapes Go.WideShapes Go.ChangeAt Go.RowKit Go.PlainAid

theorem Tryz.infoOp : (Tryz.prog.info? 59).map (fun i => (i.zero, i.size, i.bytes)) = some (some (.agg #[.int .i64 0, .int .i64 0, .string ⟨#[]⟩]), 3, 32) := by kernel_rfl

/-- Operations as cells. -/
def ocs (l : List OpD) : List Value := (l.map fun o => [Value.int .i64 o.k, .int .i64 o.n, .string o.t]).flatten
theorem ocs_append (a b : List OpD) : ocs (a ++ b) = ocs a ++ ocs b := by simp [ocs]
theorem ocs_one (o : OpD) : ocs [o] = [Value.int .i64 o.k, .int .i64 o.n, .string o.t] := by simp [ocs]
theorem ocs_length (l : List OpD) : (ocs l).length = l.length * 3 := by
  induction l with
  | nil => simp [ocs]
  | cons a l ih =>
    have e : ocs (a :: l) = [Value.int .i64 a.k, .int .i64 a.n, .string a.t] ++ ocs l := by simp [ocs]
    rw [e, List.length_append, ih]; simp; omega
theorem ocs_at (l : List OpD) (i : Nat) (o : OpD) (h : l[i]? = some o) : (ocs l)[i * 3]? = some (.int .i64 o.k) ∧ (ocs l)[i * 3 + 1]? = some (.int .i64 o.n) ∧ (ocs l)[i * 3 + 2]? = some (.string o.t) := by
  have hi := (List.getElem?_eq_some_iff.1 h).1
  have e0 : l = l.take i ++ ([o] ++ l.drop (i + 1)) := by
    have h1 : l[i] = o := (List.getElem?_eq_some_iff.1 h).2
    rw [← h1]
    simp
  have e1 : ocs l = ocs (l.take i) ++ ([Value.int .i64 o.k, .int .i64 o.n, .string o.t] ++ ocs (l.drop (i + 1))) := by
    rw [← ocs_one, ← ocs_append, ← ocs_append, ← e0]
  have e2 : (ocs (l.take i)).length = i * 3 := by rw [ocs_length, List.length_take]; congr 1; omega
  rw [e1]
  refine ⟨?_, ?_, ?_⟩ <;> rw [List.getElem?_append_right (by omega), e2] <;> simp
theorem rdd_own {W : World} {B : Nat} {v : Value} {l : List OpD} (h : W.ownsRow B 59 3 v l.length (ocs l)) : RdD W v l := by
  rcases h.2 with ⟨rfl, h0⟩ | ⟨g, cap, cur, rfl, hb, hg, hn, _, hc, ht⟩
  · have : l = [] := List.eq_nil_of_length_eq_zero h0
    subst this
    exact RdD.nil W
  · refine ⟨_, cap, rfl, ⟨hn, fun h => by cases h⟩, fun i o ho => ⟨g, 0, rfl, (h.lt g rfl).2, ?_⟩⟩
    obtain ⟨c0, c1, c2⟩ := ocs_at l i o ho
    have hadd : ∀ j, (⟨g, 0, none⟩ : Addr).add j = ⟨g, 0 + j, none⟩ := fun j => by unfold Addr.add; split <;> simp_all
    have g0 := h.cells (g := g) rfl _ _ c0
    have g1 := h.cells (g := g) rfl _ _ c1
    have g2 := h.cells (g := g) rfl _ _ c2
    rw [hadd] at g0 g1 g2
    exact ⟨g0, by rw [Nat.add_assoc]; exact g1, by rw [Nat.add_assoc]; exact g2⟩

/-- Rows of unlike elements lie apart. -/
theorem own_apart {w : World} {b1 b2 e1 e2 s1 s2 n1 n2 : Nat} {v1 v2 : Value} {x1 x2 : List Value} (h1 : w.ownsRow b1 e1 s1 v1 n1 x1) (h2 : w.ownsRow b2 e2 s2 v2 n2 x2) (he : e1 ≠ e2) : v1.ownBlock = none ∨ v1.ownBlock ≠ v2.ownBlock := by
  rcases h1.2 with ⟨rfl, _⟩ | ⟨g, cap, cur, rfl, _, hg, _⟩
  · exact .inl rfl
  · rcases h2.2 with ⟨rfl, _⟩ | ⟨g', cap', cur', rfl, _, hg', _⟩
    · exact .inr (by simp [Value.ownBlock])
    · refine .inr (fun e => ?_)
      simp [Value.ownBlock] at e
      subst e
      rw [hg] at hg'
      simp at hg'
      exact he hg'.2

/-- What a stretch becomes. -/
def flushD (kept : Nat) (put : List UInt8) (gone : Nat) : List OpD :=
  (if 0 < kept then [⟨1, kept, ⟨#[]⟩⟩] else []) ++ ((if 0 < put.length then [⟨2, 0, mk put⟩] else []) ++ (if 0 < gone then [⟨3, gone, ⟨#[]⟩⟩] else []))

theorem flushD_len (kept : Nat) (put : List UInt8) (gone : Nat) : (flushD kept put gone).length ≤ 3 := by
  unfold flushD
  split <;> split <;> split <;> simp

theorem own_op {w1 : World} {base n : Nat} {v' : Value} {L : List OpD} {o : OpD} (h : w1.ownsRow base 59 3 v' (n + 1) (ocs L ++ [Value.int .i64 o.k, .int .i64 o.n, .string o.t])) (hn : L.length = n) :
    w1.ownsRow base 59 3 v' (L ++ [o]).length (ocs (L ++ [o])) := by
  subst hn
  rw [ocs_append, ocs_one, List.length_append]
  exact h

theorem own_belowG {w w' : World} {base e z n : Nat} {v : Value} {L : List Value} (h : w.ownsRow base e z v n L) (hb : Below w.heap.size w w') : w'.ownsRow base e z v n L :=
  h.kept (row := none) ⟨hb.os, hb.tape, hb.output, hb.size, fun k hk _ => hb.block k hk⟩ (by cases v.ownBlock <;> simp)
theorem box_apart {w : World} {b e z n p : Nat} {v : Value} {x : List Value} {c : Array Value} {t : TypeId} (h : w.ownsRow b e z v n x) (hb : w.heap[p]? = some (.cells c t)) (he : e ≠ t) : some p ≠ v.ownBlock := by
  rcases h.2 with ⟨rfl, _⟩ | ⟨g, cap, cur, rfl, _, hg, _⟩
  · simp [Value.ownBlock]
  · intro e
    simp [Value.ownBlock] at e
    subst e
    rw [hb] at hg
    simp at hg
    exact he hg.2.symm

/-- A stretch at p, a delta and what is put in, on the way. -/
structure MidJ (base p : Nat) (w W : World) (d pv : Value) (D : List OpD) (put : List UInt8) (kept gone : Nat) : Prop where
  own : W.ownsRow base 59 3 d D.length (ocs D)
  put : W.ownsRow base 5 1 pv put.length (bv put)
  box : W.heap[p]? = some (.cells #[.int .i64 (kept : Int), pv, .int .i64 (gone : Int)] 150)
  bel : Below base w W
  le : base ≤ W.heap.size
  old : ∀ (q : Nat) (c : Array Value), w.heap[q]? = some (.cells c 150) → W.heap[q]? = some (.cells c 150)

theorem heap_lt {W : World} {p : Nat} {o : Obj} (h : W.heap[p]? = some o) : p < W.heap.size := (Array.getElem?_eq_some_iff.1 h).1

theorem MidJ.below {base p : Nat} {w W W' : World} {d pv : Value} {D : List OpD} {put : List UInt8} {kept gone : Nat} (h : MidJ base p w W d pv D put kept gone) (hb : Below W.heap.size W W') : MidJ base p w W' d pv D put kept gone :=
  ⟨own_belowG h.own hb, own_belowG h.put hb, (hb.block p (heap_lt h.box)).trans h.box, h.bel.trans (hb.mono h.le), Nat.le_trans h.le hb.size, fun q c hq => (hb.block q (heap_lt (h.old q c hq))).trans (h.old q c hq)⟩
theorem MidJ.cells {base p : Nat} {w W : World} {d pv : Value} {D : List OpD} {put : List UInt8} {kept gone : Nat} (h : MidJ base p w W d pv D put kept gone) :
    W.cell? ⟨p, 0, none⟩ = some (.int .i64 (kept : Int)) ∧ W.cell? ⟨p, 1, none⟩ = some pv ∧ W.cell? ⟨p, 2, none⟩ = some (.int .i64 (gone : Int)) :=
  ⟨cell_of_row _ _ 0 _ _ (0, 0) h.box, cell_of_row _ _ 1 _ _ (0, 0) h.box, cell_of_row _ _ 2 _ _ (0, 0) h.box⟩
theorem MidJ.app {base p : Nat} {w W W' : World} {d d' pv : Value} {D : List OpD} {put : List UInt8} {kept gone : Nat} {o : OpD} {x : Obj} (h : MidJ base p w W d pv D put kept gone)
    (ho : W'.ownsRow base 59 3 d' (D.length + 1) (ocs D ++ [Value.int .i64 o.k, .int .i64 o.n, .string o.t])) (hg : (W.alloc x).grownBy W' d.ownBlock) : MidJ base p w W' d' pv (D ++ [o]) put kept gone := by
  have hbox : (W.alloc x).heap[p]? = some (.cells #[.int .i64 (kept : Int), pv, .int .i64 (gone : Int)] 150) := by
    have := ((Below.refl W.heap.size W).alloc (Nat.le_refl _) x).block p (heap_lt h.box)
    rw [this]; exact h.box
  refine ⟨own_op ho rfl, (h.put.alloc x).kept hg (own_apart h.put h.own (by decide)), ?_, ?_, ?_, ?_⟩
  · rw [hg.block p (by have := heap_lt h.box; simp; omega) (box_apart h.own h.box (by decide))]
    exact hbox
  · exact (h.bel.alloc h.le x).grown hg (by have := h.le; simp; omega) (fun k hk => (h.own.lt k hk).1)
  · have := hg.size; have := h.le; simp at *; omega
  · intro q c hq
    have h1 := h.old q c hq
    rw [hg.block q (by have := heap_lt h1; simp; omega) (box_apart h.own h1 (by decide)), ((Below.refl W.heap.size W).alloc (Nat.le_refl _) x).block q (heap_lt h1)]
    exact h1

theorem three_one (a b : Int) (t : ByteArray) : ∀ u ∈ [Value.int .i64 a, .int .i64 b, .string t], u.oneCell' = true := by
  intro u hu
  simp at hu
  rcases hu with rfl | rfl | rfl <;> rfl
theorem midJ_conv {base p : Nat} {w W : World} {d pv : Value} {D : List OpD} {put : List UInt8} {kept gone : Nat} (h : MidJ base p w W d pv D put kept gone) : (convert 71 135 pv).run Tryz.prog W = .ok (.string (mk put)) W :=
  conv_own (dst := 135) Tryz.underlying71 Tryz.underlying5 Tryz.underlying135 h.put

set_option maxRecDepth 20000 in
set_option maxHeartbeats 8000000 in
theorem behind_any (base : Nat) (d pv : Value) (D : List OpD) (kept gone : Nat) (put : List UInt8) (w : World) (hb : base ≤ w.heap.size) (hD : D.length ≤ 100000) (hk : kept ≤ 1000000) (hg : gone ≤ 1000000) (hp : put.length ≤ 1000000)
    (ho : w.ownsRow base 59 3 d D.length (ocs D)) (hpo : w.ownsRow base 5 1 pv put.length (bv put)) :
    Calls Tryz.prog 103 #[.agg #[.int .i64 (kept : Int), pv, .int .i64 (gone : Int)], d] w fun e w' => ∃ u, e = .returned u ∧ w'.ownsRow base 59 3 u (D ++ flushD kept put gone).length (ocs (D ++ flushD kept put gone)) ∧ Below base w w' ∧ ∀ (q : Nat) (c : Array Value), w.heap[q]? = some (.cells c 150) → w'.heap[q]? = some (.cells c 150) := by
  obtain ⟨i0, hin, hz0, hz1, hz2⟩ := info_parts Tryz.infoOp
  obtain ⟨ao, cp, hpv, _⟩ := rdv_own hpo
  rw [bv_length] at hpv
  have hM : MidJ base w.heap.size w (w.alloc (.cells #[.int .i64 (kept : Int), pv, .int .i64 (gone : Int)] 150)) d pv D put kept gone :=
    ⟨ho.alloc _, hpo.alloc _, heap_alloc_new w _, (Below.refl _ _).alloc hb _, by simp; omega, fun q c hq => (((Below.refl w.heap.size w).alloc (Nat.le_refl _) _).block q (heap_lt hq)).trans hq⟩
  subst hpv
  have hc := midJ_conv hM
  clear ho hpo
  have hk' : (kept : Int) ≤ 1000000 := by omega
  have hg' : (gone : Int) ≤ 1000000 := by omega
  have hp' : (put.length : Int) ≤ 1000000 := by omega
  by_cases c1 : (0 : Int) < (kept : Int)
  · by_cases c2 : (0 : Int) < (put.length : Int)
    · by_cases c3 : (0 : Int) < (gone : Int)
      · have HF : Hid (flushD kept put gone = [⟨1, kept, ⟨#[]⟩⟩, ⟨2, 0, mk put⟩, ⟨3, gone, ⟨#[]⟩⟩]) := by show _ = _; rw [flushD, if_pos (by omega), if_pos (by omega), if_pos (by omega)]; rfl
        go_enter Tryz.func103, Tryz.ntmps103
        go_wp2_with (first | (go_at_call 112; refine (keepOp_any _ _).mono ?_; rintro e w1 ⟨rfl, hb1⟩; have hM := hM.below hb1; clear hb1) | (go_at_call 114; refine (remOp_any _ _).mono ?_; rintro e w1 ⟨rfl, hb1⟩; have hM := hM.below hb1; clear hb1) | (go_at_call 113; refine (insOp_any _ _).mono ?_; rintro e w1 ⟨rfl, hb1⟩; have hM := hM.below hb1; clear hb1) | (at_builtin; refine wpList_append_own _ rfl (.tmp 8) (.tmp 12) 39 rfl base 59 i0 (.agg #[.int .i64 0, .int .i64 0, .string ⟨#[]⟩]) 3 32 Tryz.underlying39 hin hz0 hz1 hz2 rfl (by decide) _ _ _ rfl (hM.own.alloc _) ⟨_, 0, none⟩ 1 1 [.int .i64 1, .int .i64 (kept : Int), .string ⟨#[]⟩] rfl rfl (many_new _ _ _) (three_one _ _ _) (by (try simp only [List.length_append, List.length_cons, List.length_nil]); (unfold maxLen; omega)) (by (try simp only [List.length_append, List.length_cons, List.length_nil]); omega) (by have := hM.le; simp; omega) ?_; intro v2 w2 ho2 hg2 _; have hM := hM.app (o := ⟨1, kept, ⟨#[]⟩⟩) ho2 hg2; clear ho2 hg2; obtain ⟨g0, g1, g2⟩ := hM.cells; have hc := midJ_conv hM) | (at_builtin; refine wpList_append_own _ rfl (.tmp 18) (.tmp 23) 39 rfl base 59 i0 (.agg #[.int .i64 0, .int .i64 0, .string ⟨#[]⟩]) 3 32 Tryz.underlying39 hin hz0 hz1 hz2 rfl (by decide) _ _ _ rfl (hM.own.alloc _) ⟨_, 0, none⟩ 1 1 [.int .i64 2, .int .i64 0, .string (mk put)] rfl rfl (many_new _ _ _) (three_one _ _ _) (by (try simp only [List.length_append, List.length_cons, List.length_nil]); (unfold maxLen; omega)) (by (try simp only [List.length_append, List.length_cons, List.length_nil]); omega) (by have := hM.le; simp; omega) ?_; intro v2 w2 ho2 hg2 _; have hM := hM.app (o := ⟨2, 0, mk put⟩) ho2 hg2; clear ho2 hg2; obtain ⟨g0, g1, g2⟩ := hM.cells; have hc := midJ_conv hM) | (at_builtin; refine wpList_append_own _ rfl (.tmp 28) (.tmp 32) 39 rfl base 59 i0 (.agg #[.int .i64 0, .int .i64 0, .string ⟨#[]⟩]) 3 32 Tryz.underlying39 hin hz0 hz1 hz2 rfl (by decide) _ _ _ rfl (hM.own.alloc _) ⟨_, 0, none⟩ 1 1 [.int .i64 3, .int .i64 (gone : Int), .string ⟨#[]⟩] rfl rfl (many_new _ _ _) (three_one _ _ _) (by (try simp only [List.length_append, List.length_cons, List.length_nil]); (unfold maxLen; omega)) (by (try simp only [List.length_append, List.length_cons, List.length_nil]); omega) (by have := hM.le; simp; omega) ?_; intro v2 w2 ho2 hg2 _; have hM := hM.app (o := ⟨3, gone, ⟨#[]⟩⟩) ho2 hg2; clear ho2 hg2; obtain ⟨g0, g1, g2⟩ := hM.cells; have hc := midJ_conv hM))
        go_ret
        exact ⟨_, rfl, by rw [HF.out]; simpa using hM.own, hM.bel, hM.old⟩
      · have HF : Hid (flushD kept put gone = [⟨1, kept, ⟨#[]⟩⟩, ⟨2, 0, mk put⟩]) := by show _ = _; rw [flushD, if_pos (by omega), if_pos (by omega), if_neg (by omega)]; rfl
        go_enter Tryz.func103, Tryz.ntmps103
        go_wp2_with (first | (go_at_call 112; refine (keepOp_any _ _).mono ?_; rintro e w1 ⟨rfl, hb1⟩; have hM := hM.below hb1; clear hb1) | (go_at_call 114; refine (remOp_any _ _).mono ?_; rintro e w1 ⟨rfl, hb1⟩; have hM := hM.below hb1; clear hb1) | (go_at_call 113; refine (insOp_any _ _).mono ?_; rintro e w1 ⟨rfl, hb1⟩; have hM := hM.below hb1; clear hb1) | (at_builtin; refine wpList_append_own _ rfl (.tmp 8) (.tmp 12) 39 rfl base 59 i0 (.agg #[.int .i64 0, .int .i64 0, .string ⟨#[]⟩]) 3 32 Tryz.underlying39 hin hz0 hz1 hz2 rfl (by decide) _ _ _ rfl (hM.own.alloc _) ⟨_, 0, none⟩ 1 1 [.int .i64 1, .int .i64 (kept : Int), .string ⟨#[]⟩] rfl rfl (many_new _ _ _) (three_one _ _ _) (by (try simp only [List.length_append, List.length_cons, List.length_nil]); (unfold maxLen; omega)) (by (try simp only [List.length_append, List.length_cons, List.length_nil]); omega) (by have := hM.le; simp; omega) ?_; intro v2 w2 ho2 hg2 _; have hM := hM.app (o := ⟨1, kept, ⟨#[]⟩⟩) ho2 hg2; clear ho2 hg2; obtain ⟨g0, g1, g2⟩ := hM.cells; have hc := midJ_conv hM) | (at_builtin; refine wpList_append_own _ rfl (.tmp 18) (.tmp 23) 39 rfl base 59 i0 (.agg #[.int .i64 0, .int .i64 0, .string ⟨#[]⟩]) 3 32 Tryz.underlying39 hin hz0 hz1 hz2 rfl (by decide) _ _ _ rfl (hM.own.alloc _) ⟨_, 0, none⟩ 1 1 [.int .i64 2, .int .i64 0, .string (mk put)] rfl rfl (many_new _ _ _) (three_one _ _ _) (by (try simp only [List.length_append, List.length_cons, List.length_nil]); (unfold maxLen; omega)) (by (try simp only [List.length_append, List.length_cons, List.length_nil]); omega) (by have := hM.le; simp; omega) ?_; intro v2 w2 ho2 hg2 _; have hM := hM.app (o := ⟨2, 0, mk put⟩) ho2 hg2; clear ho2 hg2; obtain ⟨g0, g1, g2⟩ := hM.cells; have hc := midJ_conv hM) | (at_builtin; refine wpList_append_own _ rfl (.tmp 28) (.tmp 32) 39 rfl base 59 i0 (.agg #[.int .i64 0, .int .i64 0, .string ⟨#[]⟩]) 3 32 Tryz.underlying39 hin hz0 hz1 hz2 rfl (by decide) _ _ _ rfl (hM.own.alloc _) ⟨_, 0, none⟩ 1 1 [.int .i64 3, .int .i64 (gone : Int), .string ⟨#[]⟩] rfl rfl (many_new _ _ _) (three_one _ _ _) (by (try simp only [List.length_append, List.length_cons, List.length_nil]); (unfold maxLen; omega)) (by (try simp only [List.length_append, List.length_cons, List.length_nil]); omega) (by have := hM.le; simp; omega) ?_; intro v2 w2 ho2 hg2 _; have hM := hM.app (o := ⟨3, gone, ⟨#[]⟩⟩) ho2 hg2; clear ho2 hg2; obtain ⟨g0, g1, g2⟩ := hM.cells; have hc := midJ_conv hM))
        go_ret
        exact ⟨_, rfl, by rw [HF.out]; simpa using hM.own, hM.bel, hM.old⟩
    · by_cases c3 : (0 : Int) < (gone : Int)
      · have HF : Hid (flushD kept put gone = [⟨1, kept, ⟨#[]⟩⟩, ⟨3, gone, ⟨#[]⟩⟩]) := by show _ = _; rw [flushD, if_pos (by omega), if_neg (by omega), if_pos (by omega)]; rfl
        go_enter Tryz.func103, Tryz.ntmps103
        go_wp2_with (first | (go_at_call 112; refine (keepOp_any _ _).mono ?_; rintro e w1 ⟨rfl, hb1⟩; have hM := hM.below hb1; clear hb1) | (go_at_call 114; refine (remOp_any _ _).mono ?_; rintro e w1 ⟨rfl, hb1⟩; have hM := hM.below hb1; clear hb1) | (go_at_call 113; refine (insOp_any _ _).mono ?_; rintro e w1 ⟨rfl, hb1⟩; have hM := hM.below hb1; clear hb1) | (at_builtin; refine wpList_append_own _ rfl (.tmp 8) (.tmp 12) 39 rfl base 59 i0 (.agg #[.int .i64 0, .int .i64 0, .string ⟨#[]⟩]) 3 32 Tryz.underlying39 hin hz0 hz1 hz2 rfl (by decide) _ _ _ rfl (hM.own.alloc _) ⟨_, 0, none⟩ 1 1 [.int .i64 1, .int .i64 (kept : Int), .string ⟨#[]⟩] rfl rfl (many_new _ _ _) (three_one _ _ _) (by (try simp only [List.length_append, List.length_cons, List.length_nil]); (unfold maxLen; omega)) (by (try simp only [List.length_append, List.length_cons, List.length_nil]); omega) (by have := hM.le; simp; omega) ?_; intro v2 w2 ho2 hg2 _; have hM := hM.app (o := ⟨1, kept, ⟨#[]⟩⟩) ho2 hg2; clear ho2 hg2; obtain ⟨g0, g1, g2⟩ := hM.cells; have hc := midJ_conv hM) | (at_builtin; refine wpList_append_own _ rfl (.tmp 18) (.tmp 23) 39 rfl base 59 i0 (.agg #[.int .i64 0, .int .i64 0, .string ⟨#[]⟩]) 3 32 Tryz.underlying39 hin hz0 hz1 hz2 rfl (by decide) _ _ _ rfl (hM.own.alloc _) ⟨_, 0, none⟩ 1 1 [.int .i64 2, .int .i64 0, .string (mk put)] rfl rfl (many_new _ _ _) (three_one _ _ _) (by (try simp only [List.length_append, List.length_cons, List.length_nil]); (unfold maxLen; omega)) (by (try simp only [List.length_append, List.length_cons, List.length_nil]); omega) (by have := hM.le; simp; omega) ?_; intro v2 w2 ho2 hg2 _; have hM := hM.app (o := ⟨2, 0, mk put⟩) ho2 hg2; clear ho2 hg2; obtain ⟨g0, g1, g2⟩ := hM.cells; have hc := midJ_conv hM) | (at_builtin; refine wpList_append_own _ rfl (.tmp 28) (.tmp 32) 39 rfl base 59 i0 (.agg #[.int .i64 0, .int .i64 0, .string ⟨#[]⟩]) 3 32 Tryz.underlying39 hin hz0 hz1 hz2 rfl (by decide) _ _ _ rfl (hM.own.alloc _) ⟨_, 0, none⟩ 1 1 [.int .i64 3, .int .i64 (gone : Int), .string ⟨#[]⟩] rfl rfl (many_new _ _ _) (three_one _ _ _) (by (try simp only [List.length_append, List.length_cons, List.length_nil]); (unfold maxLen; omega)) (by (try simp only [List.length_append, List.length_cons, List.length_nil]); omega) (by have := hM.le; simp; omega) ?_; intro v2 w2 ho2 hg2 _; have hM := hM.app (o := ⟨3, gone, ⟨#[]⟩⟩) ho2 hg2; clear ho2 hg2; obtain ⟨g0, g1, g2⟩ := hM.cells; have hc := midJ_conv hM))
        go_ret
        exact ⟨_, rfl, by rw [HF.out]; simpa using hM.own, hM.bel, hM.old⟩
      · have HF : Hid (flushD kept put gone = [⟨1, kept, ⟨#[]⟩⟩]) := by show _ = _; rw [flushD, if_pos (by omega), if_neg (by omega), if_neg (by omega)]; rfl
        go_enter Tryz.func103, Tryz.ntmps103
        go_wp2_with (first | (go_at_call 112; refine (keepOp_any _ _).mono ?_; rintro e w1 ⟨rfl, hb1⟩; have hM := hM.below hb1; clear hb1) | (go_at_call 114; refine (remOp_any _ _).mono ?_; rintro e w1 ⟨rfl, hb1⟩; have hM := hM.below hb1; clear hb1) | (go_at_call 113; refine (insOp_any _ _).mono ?_; rintro e w1 ⟨rfl, hb1⟩; have hM := hM.below hb1; clear hb1) | (at_builtin; refine wpList_append_own _ rfl (.tmp 8) (.tmp 12) 39 rfl base 59 i0 (.agg #[.int .i64 0, .int .i64 0, .string ⟨#[]⟩]) 3 32 Tryz.underlying39 hin hz0 hz1 hz2 rfl (by decide) _ _ _ rfl (hM.own.alloc _) ⟨_, 0, none⟩ 1 1 [.int .i64 1, .int .i64 (kept : Int), .string ⟨#[]⟩] rfl rfl (many_new _ _ _) (three_one _ _ _) (by (try simp only [List.length_append, List.length_cons, List.length_nil]); (unfold maxLen; omega)) (by (try simp only [List.length_append, List.length_cons, List.length_nil]); omega) (by have := hM.le; simp; omega) ?_; intro v2 w2 ho2 hg2 _; have hM := hM.app (o := ⟨1, kept, ⟨#[]⟩⟩) ho2 hg2; clear ho2 hg2; obtain ⟨g0, g1, g2⟩ := hM.cells; have hc := midJ_conv hM) | (at_builtin; refine wpList_append_own _ rfl (.tmp 18) (.tmp 23) 39 rfl base 59 i0 (.agg #[.int .i64 0, .int .i64 0, .string ⟨#[]⟩]) 3 32 Tryz.underlying39 hin hz0 hz1 hz2 rfl (by decide) _ _ _ rfl (hM.own.alloc _) ⟨_, 0, none⟩ 1 1 [.int .i64 2, .int .i64 0, .string (mk put)] rfl rfl (many_new _ _ _) (three_one _ _ _) (by (try simp only [List.length_append, List.length_cons, List.length_nil]); (unfold maxLen; omega)) (by (try simp only [List.length_append, List.length_cons, List.length_nil]); omega) (by have := hM.le; simp; omega) ?_; intro v2 w2 ho2 hg2 _; have hM := hM.app (o := ⟨2, 0, mk put⟩) ho2 hg2; clear ho2 hg2; obtain ⟨g0, g1, g2⟩ := hM.cells; have hc := midJ_conv hM) | (at_builtin; refine wpList_append_own _ rfl (.tmp 28) (.tmp 32) 39 rfl base 59 i0 (.agg #[.int .i64 0, .int .i64 0, .string ⟨#[]⟩]) 3 32 Tryz.underlying39 hin hz0 hz1 hz2 rfl (by decide) _ _ _ rfl (hM.own.alloc _) ⟨_, 0, none⟩ 1 1 [.int .i64 3, .int .i64 (gone : Int), .string ⟨#[]⟩] rfl rfl (many_new _ _ _) (three_one _ _ _) (by (try simp only [List.length_append, List.length_cons, List.length_nil]); (unfold maxLen; omega)) (by (try simp only [List.length_append, List.length_cons, List.length_nil]); omega) (by have := hM.le; simp; omega) ?_; intro v2 w2 ho2 hg2 _; have hM := hM.app (o := ⟨3, gone, ⟨#[]⟩⟩) ho2 hg2; clear ho2 hg2; obtain ⟨g0, g1, g2⟩ := hM.cells; have hc := midJ_conv hM))
        go_ret
        exact ⟨_, rfl, by rw [HF.out]; simpa using hM.own, hM.bel, hM.old⟩
  · by_cases c2 : (0 : Int) < (put.length : Int)
    · by_cases c3 : (0 : Int) < (gone : Int)
      · have HF : Hid (flushD kept put gone = [⟨2, 0, mk put⟩, ⟨3, gone, ⟨#[]⟩⟩]) := by show _ = _; rw [flushD, if_neg (by omega), if_pos (by omega), if_pos (by omega)]; rfl
        go_enter Tryz.func103, Tryz.ntmps103
        go_wp2_with (first | (go_at_call 112; refine (keepOp_any _ _).mono ?_; rintro e w1 ⟨rfl, hb1⟩; have hM := hM.below hb1; clear hb1) | (go_at_call 114; refine (remOp_any _ _).mono ?_; rintro e w1 ⟨rfl, hb1⟩; have hM := hM.below hb1; clear hb1) | (go_at_call 113; refine (insOp_any _ _).mono ?_; rintro e w1 ⟨rfl, hb1⟩; have hM := hM.below hb1; clear hb1) | (at_builtin; refine wpList_append_own _ rfl (.tmp 8) (.tmp 12) 39 rfl base 59 i0 (.agg #[.int .i64 0, .int .i64 0, .string ⟨#[]⟩]) 3 32 Tryz.underlying39 hin hz0 hz1 hz2 rfl (by decide) _ _ _ rfl (hM.own.alloc _) ⟨_, 0, none⟩ 1 1 [.int .i64 1, .int .i64 (kept : Int), .string ⟨#[]⟩] rfl rfl (many_new _ _ _) (three_one _ _ _) (by (try simp only [List.length_append, List.length_cons, List.length_nil]); (unfold maxLen; omega)) (by (try simp only [List.length_append, List.length_cons, List.length_nil]); omega) (by have := hM.le; simp; omega) ?_; intro v2 w2 ho2 hg2 _; have hM := hM.app (o := ⟨1, kept, ⟨#[]⟩⟩) ho2 hg2; clear ho2 hg2; obtain ⟨g0, g1, g2⟩ := hM.cells; have hc := midJ_conv hM) | (at_builtin; refine wpList_append_own _ rfl (.tmp 18) (.tmp 23) 39 rfl base 59 i0 (.agg #[.int .i64 0, .int .i64 0, .string ⟨#[]⟩]) 3 32 Tryz.underlying39 hin hz0 hz1 hz2 rfl (by decide) _ _ _ rfl (hM.own.alloc _) ⟨_, 0, none⟩ 1 1 [.int .i64 2, .int .i64 0, .string (mk put)] rfl rfl (many_new _ _ _) (three_one _ _ _) (by (try simp only [List.length_append, List.length_cons, List.length_nil]); (unfold maxLen; omega)) (by (try simp only [List.length_append, List.length_cons, List.length_nil]); omega) (by have := hM.le; simp; omega) ?_; intro v2 w2 ho2 hg2 _; have hM := hM.app (o := ⟨2, 0, mk put⟩) ho2 hg2; clear ho2 hg2; obtain ⟨g0, g1, g2⟩ := hM.cells; have hc := midJ_conv hM) | (at_builtin; refine wpList_append_own _ rfl (.tmp 28) (.tmp 32) 39 rfl base 59 i0 (.agg #[.int .i64 0, .int .i64 0, .string ⟨#[]⟩]) 3 32 Tryz.underlying39 hin hz0 hz1 hz2 rfl (by decide) _ _ _ rfl (hM.own.alloc _) ⟨_, 0, none⟩ 1 1 [.int .i64 3, .int .i64 (gone : Int), .string ⟨#[]⟩] rfl rfl (many_new _ _ _) (three_one _ _ _) (by (try simp only [List.length_append, List.length_cons, List.length_nil]); (unfold maxLen; omega)) (by (try simp only [List.length_append, List.length_cons, List.length_nil]); omega) (by have := hM.le; simp; omega) ?_; intro v2 w2 ho2 hg2 _; have hM := hM.app (o := ⟨3, gone, ⟨#[]⟩⟩) ho2 hg2; clear ho2 hg2; obtain ⟨g0, g1, g2⟩ := hM.cells; have hc := midJ_conv hM))
        go_ret
        exact ⟨_, rfl, by rw [HF.out]; simpa using hM.own, hM.bel, hM.old⟩
      · have HF : Hid (flushD kept put gone = [⟨2, 0, mk put⟩]) := by show _ = _; rw [flushD, if_neg (by omega), if_pos (by omega), if_neg (by omega)]; rfl
        go_enter Tryz.func103, Tryz.ntmps103
        go_wp2_with (first | (go_at_call 112; refine (keepOp_any _ _).mono ?_; rintro e w1 ⟨rfl, hb1⟩; have hM := hM.below hb1; clear hb1) | (go_at_call 114; refine (remOp_any _ _).mono ?_; rintro e w1 ⟨rfl, hb1⟩; have hM := hM.below hb1; clear hb1) | (go_at_call 113; refine (insOp_any _ _).mono ?_; rintro e w1 ⟨rfl, hb1⟩; have hM := hM.below hb1; clear hb1) | (at_builtin; refine wpList_append_own _ rfl (.tmp 8) (.tmp 12) 39 rfl base 59 i0 (.agg #[.int .i64 0, .int .i64 0, .string ⟨#[]⟩]) 3 32 Tryz.underlying39 hin hz0 hz1 hz2 rfl (by decide) _ _ _ rfl (hM.own.alloc _) ⟨_, 0, none⟩ 1 1 [.int .i64 1, .int .i64 (kept : Int), .string ⟨#[]⟩] rfl rfl (many_new _ _ _) (three_one _ _ _) (by (try simp only [List.length_append, List.length_cons, List.length_nil]); (unfold maxLen; omega)) (by (try simp only [List.length_append, List.length_cons, List.length_nil]); omega) (by have := hM.le; simp; omega) ?_; intro v2 w2 ho2 hg2 _; have hM := hM.app (o := ⟨1, kept, ⟨#[]⟩⟩) ho2 hg2; clear ho2 hg2; obtain ⟨g0, g1, g2⟩ := hM.cells; have hc := midJ_conv hM) | (at_builtin; refine wpList_append_own _ rfl (.tmp 18) (.tmp 23) 39 rfl base 59 i0 (.agg #[.int .i64 0, .int .i64 0, .string ⟨#[]⟩]) 3 32 Tryz.underlying39 hin hz0 hz1 hz2 rfl (by decide) _ _ _ rfl (hM.own.alloc _) ⟨_, 0, none⟩ 1 1 [.int .i64 2, .int .i64 0, .string (mk put)] rfl rfl (many_new _ _ _) (three_one _ _ _) (by (try simp only [List.length_append, List.length_cons, List.length_nil]); (unfold maxLen; omega)) (by (try simp only [List.length_append, List.length_cons, List.length_nil]); omega) (by have := hM.le; simp; omega) ?_; intro v2 w2 ho2 hg2 _; have hM := hM.app (o := ⟨2, 0, mk put⟩) ho2 hg2; clear ho2 hg2; obtain ⟨g0, g1, g2⟩ := hM.cells; have hc := midJ_conv hM) | (at_builtin; refine wpList_append_own _ rfl (.tmp 28) (.tmp 32) 39 rfl base 59 i0 (.agg #[.int .i64 0, .int .i64 0, .string ⟨#[]⟩]) 3 32 Tryz.underlying39 hin hz0 hz1 hz2 rfl (by decide) _ _ _ rfl (hM.own.alloc _) ⟨_, 0, none⟩ 1 1 [.int .i64 3, .int .i64 (gone : Int), .string ⟨#[]⟩] rfl rfl (many_new _ _ _) (three_one _ _ _) (by (try simp only [List.length_append, List.length_cons, List.length_nil]); (unfold maxLen; omega)) (by (try simp only [List.length_append, List.length_cons, List.length_nil]); omega) (by have := hM.le; simp; omega) ?_; intro v2 w2 ho2 hg2 _; have hM := hM.app (o := ⟨3, gone, ⟨#[]⟩⟩) ho2 hg2; clear ho2 hg2; obtain ⟨g0, g1, g2⟩ := hM.cells; have hc := midJ_conv hM))
        go_ret
        exact ⟨_, rfl, by rw [HF.out]; simpa using hM.own, hM.bel, hM.old⟩
    · by_cases c3 : (0 : Int) < (gone : Int)
      · have HF : Hid (flushD kept put gone = [⟨3, gone, ⟨#[]⟩⟩]) := by show _ = _; rw [flushD, if_neg (by omega), if_neg (by omega), if_pos (by omega)]; rfl
        go_enter Tryz.func103, Tryz.ntmps103
        go_wp2_with (first | (go_at_call 112; refine (keepOp_any _ _).mono ?_; rintro e w1 ⟨rfl, hb1⟩; have hM := hM.below hb1; clear hb1) | (go_at_call 114; refine (remOp_any _ _).mono ?_; rintro e w1 ⟨rfl, hb1⟩; have hM := hM.below hb1; clear hb1) | (go_at_call 113; refine (insOp_any _ _).mono ?_; rintro e w1 ⟨rfl, hb1⟩; have hM := hM.below hb1; clear hb1) | (at_builtin; refine wpList_append_own _ rfl (.tmp 8) (.tmp 12) 39 rfl base 59 i0 (.agg #[.int .i64 0, .int .i64 0, .string ⟨#[]⟩]) 3 32 Tryz.underlying39 hin hz0 hz1 hz2 rfl (by decide) _ _ _ rfl (hM.own.alloc _) ⟨_, 0, none⟩ 1 1 [.int .i64 1, .int .i64 (kept : Int), .string ⟨#[]⟩] rfl rfl (many_new _ _ _) (three_one _ _ _) (by (try simp only [List.length_append, List.length_cons, List.length_nil]); (unfold maxLen; omega)) (by (try simp only [List.length_append, List.length_cons, List.length_nil]); omega) (by have := hM.le; simp; omega) ?_; intro v2 w2 ho2 hg2 _; have hM := hM.app (o := ⟨1, kept, ⟨#[]⟩⟩) ho2 hg2; clear ho2 hg2; obtain ⟨g0, g1, g2⟩ := hM.cells; have hc := midJ_conv hM) | (at_builtin; refine wpList_append_own _ rfl (.tmp 18) (.tmp 23) 39 rfl base 59 i0 (.agg #[.int .i64 0, .int .i64 0, .string ⟨#[]⟩]) 3 32 Tryz.underlying39 hin hz0 hz1 hz2 rfl (by decide) _ _ _ rfl (hM.own.alloc _) ⟨_, 0, none⟩ 1 1 [.int .i64 2, .int .i64 0, .string (mk put)] rfl rfl (many_new _ _ _) (three_one _ _ _) (by (try simp only [List.length_append, List.length_cons, List.length_nil]); (unfold maxLen; omega)) (by (try simp only [List.length_append, List.length_cons, List.length_nil]); omega) (by have := hM.le; simp; omega) ?_; intro v2 w2 ho2 hg2 _; have hM := hM.app (o := ⟨2, 0, mk put⟩) ho2 hg2; clear ho2 hg2; obtain ⟨g0, g1, g2⟩ := hM.cells; have hc := midJ_conv hM) | (at_builtin; refine wpList_append_own _ rfl (.tmp 28) (.tmp 32) 39 rfl base 59 i0 (.agg #[.int .i64 0, .int .i64 0, .string ⟨#[]⟩]) 3 32 Tryz.underlying39 hin hz0 hz1 hz2 rfl (by decide) _ _ _ rfl (hM.own.alloc _) ⟨_, 0, none⟩ 1 1 [.int .i64 3, .int .i64 (gone : Int), .string ⟨#[]⟩] rfl rfl (many_new _ _ _) (three_one _ _ _) (by (try simp only [List.length_append, List.length_cons, List.length_nil]); (unfold maxLen; omega)) (by (try simp only [List.length_append, List.length_cons, List.length_nil]); omega) (by have := hM.le; simp; omega) ?_; intro v2 w2 ho2 hg2 _; have hM := hM.app (o := ⟨3, gone, ⟨#[]⟩⟩) ho2 hg2; clear ho2 hg2; obtain ⟨g0, g1, g2⟩ := hM.cells; have hc := midJ_conv hM))
        go_ret
        exact ⟨_, rfl, by rw [HF.out]; simpa using hM.own, hM.bel, hM.old⟩
      · have HF : Hid (flushD kept put gone = []) := by show _ = _; rw [flushD, if_neg (by omega), if_neg (by omega), if_neg (by omega)]; rfl
        go_enter Tryz.func103, Tryz.ntmps103
        go_wp2_with (first | (go_at_call 112; refine (keepOp_any _ _).mono ?_; rintro e w1 ⟨rfl, hb1⟩; have hM := hM.below hb1; clear hb1) | (go_at_call 114; refine (remOp_any _ _).mono ?_; rintro e w1 ⟨rfl, hb1⟩; have hM := hM.below hb1; clear hb1) | (go_at_call 113; refine (insOp_any _ _).mono ?_; rintro e w1 ⟨rfl, hb1⟩; have hM := hM.below hb1; clear hb1) | (at_builtin; refine wpList_append_own _ rfl (.tmp 8) (.tmp 12) 39 rfl base 59 i0 (.agg #[.int .i64 0, .int .i64 0, .string ⟨#[]⟩]) 3 32 Tryz.underlying39 hin hz0 hz1 hz2 rfl (by decide) _ _ _ rfl (hM.own.alloc _) ⟨_, 0, none⟩ 1 1 [.int .i64 1, .int .i64 (kept : Int), .string ⟨#[]⟩] rfl rfl (many_new _ _ _) (three_one _ _ _) (by (try simp only [List.length_append, List.length_cons, List.length_nil]); (unfold maxLen; omega)) (by (try simp only [List.length_append, List.length_cons, List.length_nil]); omega) (by have := hM.le; simp; omega) ?_; intro v2 w2 ho2 hg2 _; have hM := hM.app (o := ⟨1, kept, ⟨#[]⟩⟩) ho2 hg2; clear ho2 hg2; obtain ⟨g0, g1, g2⟩ := hM.cells; have hc := midJ_conv hM) | (at_builtin; refine wpList_append_own _ rfl (.tmp 18) (.tmp 23) 39 rfl base 59 i0 (.agg #[.int .i64 0, .int .i64 0, .string ⟨#[]⟩]) 3 32 Tryz.underlying39 hin hz0 hz1 hz2 rfl (by decide) _ _ _ rfl (hM.own.alloc _) ⟨_, 0, none⟩ 1 1 [.int .i64 2, .int .i64 0, .string (mk put)] rfl rfl (many_new _ _ _) (three_one _ _ _) (by (try simp only [List.length_append, List.length_cons, List.length_nil]); (unfold maxLen; omega)) (by (try simp only [List.length_append, List.length_cons, List.length_nil]); omega) (by have := hM.le; simp; omega) ?_; intro v2 w2 ho2 hg2 _; have hM := hM.app (o := ⟨2, 0, mk put⟩) ho2 hg2; clear ho2 hg2; obtain ⟨g0, g1, g2⟩ := hM.cells; have hc := midJ_conv hM) | (at_builtin; refine wpList_append_own _ rfl (.tmp 28) (.tmp 32) 39 rfl base 59 i0 (.agg #[.int .i64 0, .int .i64 0, .string ⟨#[]⟩]) 3 32 Tryz.underlying39 hin hz0 hz1 hz2 rfl (by decide) _ _ _ rfl (hM.own.alloc _) ⟨_, 0, none⟩ 1 1 [.int .i64 3, .int .i64 (gone : Int), .string ⟨#[]⟩] rfl rfl (many_new _ _ _) (three_one _ _ _) (by (try simp only [List.length_append, List.length_cons, List.length_nil]); (unfold maxLen; omega)) (by (try simp only [List.length_append, List.length_cons, List.length_nil]); omega) (by have := hM.le; simp; omega) ?_; intro v2 w2 ho2 hg2 _; have hM := hM.app (o := ⟨3, gone, ⟨#[]⟩⟩) ho2 hg2; clear ho2 hg2; obtain ⟨g0, g1, g2⟩ := hM.cells; have hc := midJ_conv hM))
        go_ret
        exact ⟨_, rfl, by rw [HF.out]; simpa using hM.own, hM.bel, hM.old⟩
end Go.Proofs.YtcdnlkhjlgaaoaaGreatDoor

/-
  The contracts of joined and Normal.
-/
namespace Go.Proofs.YtcdnlkhjlgaaoaaGreatDoor
open Go.ChangeShapes Go.WideShapes Go.ChangeAt Go.RowKit Go.PlainAid

/-- What joined has on its way. -/
structure JS where
  D : List OpD
  kept : Nat
  put : List UInt8
  gone : Nat
def JS.add (σ : JS) : St → JS
  | .keep n => if 0 < σ.put.length ∨ 0 < σ.gone then ⟨σ.D ++ flushD σ.kept σ.put σ.gone, n, [], 0⟩ else ⟨σ.D, σ.kept + n, σ.put, σ.gone⟩
  | .rem n => ⟨σ.D, σ.kept, σ.put, σ.gone + n⟩
  | .ins t => ⟨σ.D, σ.kept, σ.put ++ t.data.toList, σ.gone⟩
def JS.out (σ : JS) : List OpD := σ.D ++ flushD σ.kept σ.put σ.gone
def jrun (l : List St) : JS := l.foldl JS.add ⟨[], 0, [], 0⟩
/-- What joined gives. -/
def jn (l : List St) : List OpD := (jrun l).out

theorem rev_ind {α : Type _} {P : List α → Prop} (h0 : P []) (h1 : ∀ l a, P l → P (l ++ [a])) (l : List α) : P l := by
  have key : ∀ l : List α, P l.reverse := by
    intro l
    induction l with
    | nil => exact h0
    | cons a l ih => rw [List.reverse_cons]; exact h1 _ _ ih
  have := key l.reverse
  rwa [List.reverse_reverse] at this

theorem jrun_snoc (l : List St) (s : St) : jrun (l ++ [s]) = (jrun l).add s := by simp [jrun]
theorem jrun_take {l : List St} {k : Nat} (h : k < l.length) : jrun (l.take (k + 1)) = (jrun (l.take k)).add l[k] := by
  rw [List.take_succ_eq_append_getElem h, jrun_snoc]
theorem size_cpl {t : ByteArray} (h : 0 < cpl t) : t.size ≤ 4 * (cpl t).toNat := by
  have hv := cpl_valid (s := t) (by omega)
  have h1 := (whole_eq hv).1
  have h2 := enc_len (ptL t (cpl t).toNat)
  rw [ptL_length] at h2
  have h3 : (mk (enc (ptL t (cpl t).toNat))).size = t.size := by rw [h1]
  rw [mk_size] at h3
  omega
theorem jrun_bd (l : List St) : (∀ s ∈ l, s.Ok) → (jrun l).D.length ≤ 3 * l.length ∧ (jrun l).kept ≤ bsum l ∧ (jrun l).gone ≤ bsum l ∧ (jrun l).put.length ≤ 4 * tsum l := by
  induction l using rev_ind with
  | h0 => intro _; simp [jrun]
  | h1 l s ih =>
    intro h
    obtain ⟨h1, h2, h3, h4⟩ := ih (fun x hx => h x (by simp [hx]))
    have hs := h s (by simp)
    rw [jrun_snoc, bsum_append, tsum_append, List.length_append]
    have hf := flushD_len (jrun l).kept (jrun l).put (jrun l).gone
    have e1 : bsum [s] = s.b := by simp [bsum]
    have e2 : tsum [s] = s.c := by simp [tsum]
    rw [e1, e2]
    cases s with
    | keep n =>
      simp only [JS.add, St.b, St.c]
      split
      · simp only [List.length_append, List.length_cons, List.length_nil]; omega
      · simp only [List.length_cons, List.length_nil]; omega
    | rem n => simp only [JS.add, St.b, St.c, List.length_cons, List.length_nil]; omega
    | ins t =>
      have := size_cpl hs.1
      have hd := data_len t
      simp only [JS.add, St.b, St.c, List.length_append, List.length_cons, List.length_nil]; omega
theorem sum_take (l : List St) (k : Nat) : bsum (l.take k) ≤ bsum l ∧ tsum (l.take k) ≤ tsum l := by
  have e1 := bsum_append (l.take k) (l.drop k)
  have e2 := tsum_append (l.take k) (l.drop k)
  rw [List.take_append_drop] at e1 e2
  omega

theorem grown_set (w : World) (p j : Nat) (v : Value) : w.grownBy (w.setCell ⟨p, j, none⟩ v) (some p) :=
  ⟨rfl, rfl, rfl, by simp [World.setCell], fun k _ hn => Below.heap_setCell w ⟨p, j, none⟩ v k (fun e => hn (by rw [e]))⟩
theorem heap_setCell {w : World} {g : Nat} {cs : Array Value} {t : TypeId} (h : w.heap[g]? = some (.cells cs t)) (j : Nat) (v : Value) : (w.setCell ⟨g, j, none⟩ v).heap[g]? = some (.cells (cs.setIfInBounds j v) t) := by
  simp [World.setCell, Array.getElem?_modify, h]
theorem own_set {w : World} {b e z n p j : Nat} {v x : Value} {L : List Value} {c : Array Value} {t : TypeId} (h : w.ownsRow b e z v n L) (hb : w.heap[p]? = some (.cells c t)) (he : e ≠ t) : (w.setCell ⟨p, j, none⟩ x).ownsRow b e z v n L :=
  h.kept (grown_set w p j x) (.inr (fun e => box_apart h hb he e.symm))
theorem below_set {base : Nat} {w W : World} {p j : Nat} {x : Value} (h : Below base w W) (hp : base ≤ p) (hw : base ≤ W.heap.size) : Below base w (W.setCell ⟨p, j, none⟩ x) :=
  h.grown (grown_set W p j x) hw (fun k hk => by simp at hk; omega)
theorem frz {W : World} {p : Nat} {c : Array Value} {t : TypeId} (h : W.heap[p]? = some (.cells c t)) (j : Nat) : W.frozen? ⟨p, j, none⟩ = false := by
  simp [World.frozen?, h]

theorem old_set {w W : World} {p j : Nat} {x : Value} (h : ∀ (q : Nat) (c : Array Value), w.heap[q]? = some (.cells c 150) → W.heap[q]? = some (.cells c 150)) (hp : w.heap.size ≤ p) :
    ∀ (q : Nat) (c : Array Value), w.heap[q]? = some (.cells c 150) → (W.setCell ⟨p, j, none⟩ x).heap[q]? = some (.cells c 150) := fun q c hq => by
  have := heap_lt hq
  rw [Below.heap_setCell W ⟨p, j, none⟩ x q (by simp; omega)]
  exact h q c hq

section
variable {base p : Nat} {w W : World} {d pv : Value} {D : List OpD} {put : List UInt8} {kept gone : Nat}
theorem midJ_set0 (h : MidJ base p w W d pv D put kept gone) (hp : base ≤ p) (hq : w.heap.size ≤ p) (k' : Nat) : MidJ base p w (W.setCell ⟨p, 0, none⟩ (.int .i64 (k' : Int))) d pv D put k' gone :=
  ⟨own_set h.own h.box (by decide), own_set h.put h.box (by decide), heap_setCell h.box 0 _, below_set h.bel hp h.le, Nat.le_trans h.le (grown_set W p 0 _).size, old_set h.old hq⟩
theorem midJ_set2 (h : MidJ base p w W d pv D put kept gone) (hp : base ≤ p) (hq : w.heap.size ≤ p) (g' : Nat) : MidJ base p w (W.setCell ⟨p, 2, none⟩ (.int .i64 (g' : Int))) d pv D put kept g' :=
  ⟨own_set h.own h.box (by decide), own_set h.put h.box (by decide), heap_setCell h.box 2 _, below_set h.bel hp h.le, Nat.le_trans h.le (grown_set W p 2 _).size, old_set h.old hq⟩
theorem midJ_set1 (h : MidJ base p w W d pv D put kept gone) (hp : base ≤ p) (hq : w.heap.size ≤ p) {q : Value} {put' : List UInt8} (ho : W.ownsRow base 5 1 q put'.length (bv put')) : MidJ base p w (W.setCell ⟨p, 1, none⟩ q) d q D put' kept gone :=
  ⟨own_set h.own h.box (by decide), own_set ho h.box (by decide), heap_setCell h.box 1 _, below_set h.bel hp h.le, Nat.le_trans h.le (grown_set W p 1 _).size, old_set h.old hq⟩
/-- The delta has grown by a stretch. -/
theorem midJ_flush {W' : World} {u : Value} {D' : List OpD} (h : MidJ base p w W d pv D put kept gone) (ho : W'.ownsRow base 59 3 u D'.length (ocs D')) (hb : Below base W W')
    (hold : ∀ (q : Nat) (c : Array Value), W.heap[q]? = some (.cells c 150) → W'.heap[q]? = some (.cells c 150)) (hp : base ≤ p) (hq : w.heap.size ≤ p) :
    W'.heap[p]? = some (.cells #[.int .i64 (kept : Int), pv, .int .i64 (gone : Int)] 150) ∧
    MidJ base p w (((W'.setCell ⟨p, 0, none⟩ (.int .i64 ((0 : Nat) : Int))).setCell ⟨p, 1, none⟩ (.slice none 0 0)).setCell ⟨p, 2, none⟩ (.int .i64 ((0 : Nat) : Int))) u (.slice none 0 0) D' [] 0 0 := by
  have hbox := hold _ _ h.box
  have hb1 := h.bel.trans hb
  have hl1 := Nat.le_trans h.le hb.size
  have ho1 : ∀ (q : Nat) (c : Array Value), w.heap[q]? = some (.cells c 150) → W'.heap[q]? = some (.cells c 150) := fun q c hq => hold q c (h.old q c hq)
  have x0 := heap_setCell hbox 0 (.int .i64 ((0 : Nat) : Int))
  have x1 := heap_setCell x0 1 (.slice none 0 0)
  have x2 := heap_setCell x1 2 (.int .i64 ((0 : Nat) : Int))
  have s0 := (grown_set W' p 0 (.int .i64 ((0 : Nat) : Int))).size
  have s1 := (grown_set (W'.setCell ⟨p, 0, none⟩ (.int .i64 ((0 : Nat) : Int))) p 1 (.slice none 0 0)).size
  have s2 := (grown_set ((W'.setCell ⟨p, 0, none⟩ (.int .i64 ((0 : Nat) : Int))).setCell ⟨p, 1, none⟩ (.slice none 0 0)) p 2 (.int .i64 ((0 : Nat) : Int))).size
  exact ⟨hbox, ⟨own_set (own_set (own_set ho hbox (by decide)) x0 (by decide)) x1 (by decide), World.ownsRow_nil _ _ _ _, x2, below_set (below_set (below_set hb1 hp hl1) hp (by omega)) hp (by omega), by omega, old_set (old_set (old_set ho1 hq) hq) hq⟩⟩
/-- What is put in has grown. -/
theorem midJ_grow {W' : World} {q : Value} {t : ByteArray} (h : MidJ base p w W d pv D put kept gone) (ho : W'.ownsRow base 5 1 q (put.length + t.size) (bv put ++ Lib.strCells t)) (hg : W.grownBy W' pv.ownBlock) (hp : base ≤ p) (hq : w.heap.size ≤ p) :
    W'.heap[p]? = some (.cells #[.int .i64 (kept : Int), pv, .int .i64 (gone : Int)] 150) ∧ MidJ base p w (W'.setCell ⟨p, 1, none⟩ q) d q D (put ++ t.data.toList) kept gone := by
  have hbox : W'.heap[p]? = some (.cells #[.int .i64 (kept : Int), pv, .int .i64 (gone : Int)] 150) := by
    rw [hg.block p (heap_lt h.box) (box_apart h.put h.box (by decide))]
    exact h.box
  have ho' : W'.ownsRow base 5 1 q (put ++ t.data.toList).length (bv (put ++ t.data.toList)) := own_text (M := t.data.toList) (by rw [mk_data]; exact ho) rfl
  have hown := h.own.kept hg (own_apart h.own h.put (by decide))
  have hbel : Below base w W' := h.bel.grown hg h.le (fun k hk => (h.put.lt k hk).1)
  have hold : ∀ (q : Nat) (c : Array Value), w.heap[q]? = some (.cells c 150) → W'.heap[q]? = some (.cells c 150) := fun q c hq => by
    have h1 := h.old q c hq
    rw [hg.block q (heap_lt h1) (box_apart h.put h1 (by decide))]
    exact h1
  have hle := Nat.le_trans h.le hg.size
  exact ⟨hbox, own_set hown hbox (by decide), own_set ho' hbox (by decide), heap_setCell hbox 1 _, below_set hbel hp hle, Nat.le_trans hle (grown_set W' p 1 _).size, old_set hold hq⟩
end

theorem own_lower {w : World} {b b' e z n : Nat} {v : Value} {L : List Value} (h : w.ownsRow b e z v n L) (hb : b' ≤ b) : w.ownsRow b' e z v n L := by
  refine ⟨h.1, ?_⟩
  rcases h.2 with h1 | ⟨g, cap, cur, e1, h2, h3⟩
  · exact .inl h1
  · exact .inr ⟨g, cap, cur, e1, Nat.le_trans hb h2, h3⟩
theorem own_form {w : World} {b e z n : Nat} {v : Value} {L : List Value} (h : w.ownsRow b e z v n L) : ∃ ao cp, v = .slice ao n cp := by
  rcases h.2 with ⟨rfl, rfl⟩ | ⟨g, cap, cur, rfl, _⟩
  · exact ⟨_, _, rfl⟩
  · exact ⟨_, _, rfl⟩

set_option maxRecDepth 20000 in
set_option maxHeartbeats 2000000 in
theorem joined_any (v : Value) (l : List St) (w : World) (hr : RdV w v (sv l)) (hl : l.length ≤ 3000) (ho : ∀ s ∈ l, s.Ok) (hB : bsum l ≤ 1000) (hT : tsum l ≤ 1000) :
    Calls Tryz.prog 95 #[v] w fun e w' => ∃ u, e = .returned u ∧ w'.ownsRow w.heap.size 59 3 u (jn l).length (ocs (jn l)) ∧ Below w.heap.size w w' := by
  obtain ⟨i0, hin, hz0, hz1, hz2⟩ := info_parts Tryz.info5
  obtain ⟨ao, cp, rfl, hc⟩ := hr
  rw [sv_length]
  have kk := ta_kk
  have rk := ta_rk
  have rr := ta_rr
  have ik := ta_ik
  have ir := ta_ir
  have ii := ta_ii
  have hM0 : MidJ w.heap.size w.heap.size w (w.alloc (.cells #[.int .i64 ((0 : Nat) : Int), .slice none 0 0, .int .i64 ((0 : Nat) : Int)] 150)) (.slice none 0 0) (.slice none 0 0) [] [] 0 0 :=
    ⟨World.ownsRow_nil _ _ _ _, World.ownsRow_nil _ _ _ _, heap_alloc_new w _, (Below.refl _ _).alloc (Nat.le_refl _) _, by simp, fun q c hq => (((Below.refl w.heap.size w).alloc (Nat.le_refl _) _).block q (heap_lt hq)).trans hq⟩
  go_enter Tryz.func95, Tryz.ntmps95
  go_wp2
  go_loopw [3, 12] (fun d i wr => ∃ (k : Nat) (pv : Value), k ≤ l.length ∧ i = .int .i64 (k : Int) ∧ MidJ w.heap.size w.heap.size w wr d pv (jrun (l.take k)).D (jrun (l.take k)).put (jrun (l.take k)).kept (jrun (l.take k)).gone) (fun _ i _ => l.length - (intOf i).toNat)
  case atStart => exact ⟨0, _, by omega, rfl, hM0⟩
  case round =>
    obtain ⟨k, pv, hk, rfl, hM⟩ := hrel
    clear hM0
    have hbd := jrun_bd _ (ok_take ho k)
    have hst := sum_take l k
    have hkl : (l.take k).length ≤ 3000 := by rw [List.length_take]; omega
    have b1 : (jrun (l.take k)).D.length ≤ 9000 := by omega
    have b2 : (jrun (l.take k)).kept ≤ 1000 := by omega
    have b3 : (jrun (l.take k)).gone ≤ 1000 := by omega
    have b4 : (jrun (l.take k)).put.length ≤ 4000 := by omega
    clear hbd hst hkl
    obtain ⟨po, pc, hpv, _⟩ := rdv_own hM.put
    rw [bv_length] at hpv
    by_cases hlt : k < l.length
    · have hlt' : (k : Int) < (l.length : Int) := by omega
      have hsk := ho l[k] (List.getElem_mem hlt)
      have HB : Hid (jrun (l.take (k + 1)) = (jrun (l.take k)).add l[k]) := jrun_take hlt
      have hck : (l[k]).c ≤ 1000 := by have h1 := tsum_take l k hlt; have h2 := sum_take l (k + 1); omega
      obtain ⟨b, off, rfl, hbl, c0'⟩ := hc k (l[k]).val (by simp [sv, hlt])
      have c0 := (hM.bel.cell (p := ⟨b, off + k, none⟩) hbl).trans c0'
      clear c0' hc ho
      generalize l[k] = s at hsk HB c0 hck
      generalize hσ : jrun (l.take k) = σ at *
      clear hσ
      obtain ⟨D, kept, put, gone⟩ := σ
      simp only at hM b1 b2 b3 b4 hpv
      have b2' : (kept : Int) ≤ 1000 := by omega
      have b3' : (gone : Int) ≤ 1000 := by omega
      obtain ⟨m, hm⟩ : ∃ m, m = put.length := ⟨_, rfl⟩
      rw [← hm] at hpv
      have b4' : (m : Int) ≤ 4000 := by omega
      subst hpv
      obtain ⟨g0, g1, g2⟩ := hM.cells
      have f0 := frz hM.box 0
      have f1 := frz hM.box 1
      have f2 := frz hM.box 2
      cases s with
      | keep n =>
        simp only [St.val, St.Ok, JS.add] at c0 hsk HB
        have n1 : (n : Int) ≤ 1000 := by omega
        by_cases c1 : (0 : Int) < (m : Int)
        · rw [if_pos (.inl (by omega))] at HB
          have hC := behind_any w.heap.size _ _ D kept gone put wr hM.le (by omega) (by omega) (by omega) (by omega) hM.own hM.put
          have HM : Hid (MidJ w.heap.size w.heap.size w wr _ _ D put kept gone) := hM
          clear hM hm
          go_wp2_with (go_at_call 103; refine hC.mono ?_; rintro e w3 ⟨u, rfl, ho3, hb3, hold3⟩; obtain ⟨hbx3, hM3⟩ := midJ_flush HM.out ho3 hb3 hold3 (Nat.le_refl _) (Nat.le_refl _); have R := midJ_set0 hM3 (Nat.le_refl _) (Nat.le_refl _) n; clear hM3 ho3 hb3 hold3; have q0 := cell_of_row _ _ 0 _ _ (0, 0) hbx3; have q1 := cell_of_row _ _ 1 _ _ (0, 0) hbx3; have q2 := cell_of_row _ _ 2 _ _ (0, 0) hbx3; have z0 := frz hbx3 0; have z1 := frz hbx3 1; have z2 := frz hbx3 2; clear hbx3)
          go_roundw
          case rel => exact ⟨k + 1, _, by omega, by go_num, by rw [HB.out]; exact R⟩
          case measure => simp [intOf]; omega
        · obtain rfl : m = 0 := by omega
          by_cases c2 : (0 : Int) < (gone : Int)
          · rw [if_pos (.inr (by omega))] at HB
            have hC := behind_any w.heap.size _ _ D kept gone put wr hM.le (by omega) (by omega) (by omega) (by omega) hM.own hM.put
            have HM : Hid (MidJ w.heap.size w.heap.size w wr _ _ D put kept gone) := hM
            clear hM hm
            go_wp2_with (go_at_call 103; refine hC.mono ?_; rintro e w3 ⟨u, rfl, ho3, hb3, hold3⟩; obtain ⟨hbx3, hM3⟩ := midJ_flush HM.out ho3 hb3 hold3 (Nat.le_refl _) (Nat.le_refl _); have R := midJ_set0 hM3 (Nat.le_refl _) (Nat.le_refl _) n; clear hM3 ho3 hb3 hold3; have q0 := cell_of_row _ _ 0 _ _ (0, 0) hbx3; have q1 := cell_of_row _ _ 1 _ _ (0, 0) hbx3; have q2 := cell_of_row _ _ 2 _ _ (0, 0) hbx3; have z0 := frz hbx3 0; have z1 := frz hbx3 1; have z2 := frz hbx3 2; clear hbx3)
            go_roundw
            case rel => exact ⟨k + 1, _, by omega, by go_num, by rw [HB.out]; exact R⟩
            case measure => simp [intOf]; omega
          · rw [if_neg (by omega)] at HB
            have R := midJ_set0 hM (Nat.le_refl _) (Nat.le_refl _) (kept + n)
            have e : ((kept + n : Nat) : Int) = (kept : Int) + (n : Int) := by omega
            rw [e] at R
            clear e hM hm
            go_wp2
            go_roundw
            case rel => exact ⟨k + 1, _, by omega, by go_num, by rw [HB.out]; exact R⟩
            case measure => simp [intOf]; omega
      | rem n =>
        simp only [St.val, St.Ok, JS.add] at c0 hsk HB
        have n1 : (n : Int) ≤ 1000 := by omega
        have R := midJ_set2 hM (Nat.le_refl _) (Nat.le_refl _) (gone + n)
        have e : ((gone + n : Nat) : Int) = (gone : Int) + (n : Int) := by omega
        rw [e] at R
        clear e hM hm
        go_wp2
        go_roundw
        case rel => exact ⟨k + 1, _, by omega, by go_num, by rw [HB.out]; exact R⟩
        case measure => simp [intOf]; omega
      | ins t =>
        simp only [St.val, St.Ok, JS.add] at c0 hsk HB
        have hts := size_cpl hsk.1
        simp only [St.c] at hck
        have hts' : t.size ≤ 4000 := by omega
        clear hsk hm hts hck
        go_wp2_with (at_builtin; refine Lib.wpList_append_own_string _ rfl (.tmp 50) (.tmp 51) 71 135 rfl w.heap.size 5 i0 Tryz.underlying71 Tryz.underlying135 hin hz0 hz1 hz2 _ _ _ rfl hM.put t rfl (by unfold maxLen; omega) (by omega) hM.le ?_; intro v4 w4 ho4 hg4 _; obtain ⟨a4, c4, rfl⟩ := own_form ho4; obtain ⟨hbx4, R⟩ := midJ_grow hM ho4 hg4 (Nat.le_refl _) (Nat.le_refl _); have q1 := cell_of_row _ _ 1 _ _ (0, 0) hbx4; have z1 := frz hbx4 1; simp at q1)
        clear hM ho4 hg4
        go_roundw
        case rel => exact ⟨k + 1, _, by omega, by go_num, by rw [HB.out]; exact R⟩
        case measure => simp [intOf]; omega
    · have e : k = l.length := by omega
      subst e
      rw [List.take_length] at hM hpv b1 b2 b3 b4
      have HJ : Hid (jn l = (jrun l).D ++ flushD (jrun l).kept (jrun l).put (jrun l).gone) := rfl
      generalize jrun l = σ at *
      obtain ⟨D, kept, put, gone⟩ := σ
      simp only at hM b1 b2 b3 b4 hpv HJ
      subst hpv
      obtain ⟨g0, g1, g2⟩ := hM.cells
      have hC := behind_any w.heap.size _ _ D kept gone put wr hM.le (by omega) (by omega) (by omega) (by omega) hM.own hM.put
      have hbel := hM.bel
      clear hM hc ho
      go_wp2_with (go_at_call 103; refine hC.mono ?_; rintro e w3 ⟨u, rfl, ho3, hb3, _⟩)
      go_ret
      exact ⟨_, rfl, by rw [HJ.out]; exact ho3, hbel.trans hb3⟩

theorem normal_any (v : Value) (ds : List OpD) (w : World) (hr : RdD w v ds) (hm : ds.length ≤ maxLen) (hi : ∀ o ∈ ds, o.In) :
    Calls Tryz.prog 82 #[v] w fun e w' => ∃ u, e = .returned (.tuple #[u, .int .i64 (chk ds)]) ∧ w'.ownsRow w.heap.size 59 3 u (jn (stR ds)).length (ocs (jn (stR ds))) ∧ Below w.heap.size w w' := by
  have hS := stepsOf_any v ds w hr hm hi
  have hbd := stR_bd ds
  have hL := fun u W h => joined_any u (stR ds) W h (stR_len ds) (stR_ok hi) hbd.1 hbd.2
  clear hbd
  go_enter Tryz.func82, Tryz.ntmps82
  go_wp2_with (first | (go_at_call 69; refine hS.mono ?_; rintro e w1 ⟨u, rfl, ho1, hb1⟩) | (go_at_call 95; refine (hL _ _ (rdv_own ho1)).mono ?_; rintro e w2 ⟨u2, rfl, ho2, hb2⟩))
  go_ret2
  refine ⟨_, rfl, ?_, hb1.trans (hb2.mono hb1.size)⟩
  exact own_lower ho2 hb1.size
end Go.Proofs.YtcdnlkhjlgaaoaaGreatDoor
