/-
  The contracts of behind, joined and Normal.
-/
import Derived.Test.YtfhbkaiioiihjaaDoorDlC
import Derived.Lib.AppendStr
namespace Go.Proofs.YtfhbkaiioiihjaaDoor
open Go.ChangeShapes Go.WideShapes Go.ChangeAt Go.RowKit Go.PlainAid

theorem Tryd.infoOp : (Tryd.prog.info? 60).map (fun i => (i.zero, i.size, i.bytes)) = some (some (.agg #[.int .i64 0, .int .i64 0, .string ⟨#[]⟩]), 3, 32) := by kernel_rfl

/-- Operations as cells. -/
def ocs (l : List OpD) : List Value := (l.map fun o => [Value.int .i64 o.k, .int .i64 o.n, .string o.t]).flatten
theorem ocs_append (a b : List OpD) : ocs (a ++ b) = ocs a ++ ocs b := by simp [ocs]
theorem ocs_one (o : OpD) : ocs [o] = [Value.int .i64 o.k, .int .i64 o.n, .string o.t] := by simp [ocs]
theorem ocs_length (l : List OpD) : (ocs l).length = l.length * 3 := by
  induction l with
  | nil => simp [ocs]
  | cons a l ih =>
    have e : ocs (a :: l) = [Value.int .i64 a.k, .int .i64 a.n, .string a.t] ++ ocs l := by simp [ocs]
    rw [e, List.length_append, ih]; simp; omega
theorem ocs_at (l : List OpD) (i : Nat) (o : OpD) (h : l[i]? = some o) : (ocs l)[i * 3]? = some (.int .i64 o.k) ∧ (ocs l)[i * 3 + 1]? = some (.int .i64 o.n) ∧ (ocs l)[i * 3 + 2]? = some (.string o.t) := by
  have hi := (List.getElem?_eq_some_iff.1 h).1
  have e0 : l = l.take i ++ ([o] ++ l.drop (i + 1)) := by
    have h1 : l[i] = o := (List.getElem?_eq_some_iff.1 h).2
    rw [← h1]
    simp
  have e1 : ocs l = ocs (l.take i) ++ ([Value.int .i64 o.k, .int .i64 o.n, .string o.t] ++ ocs (l.drop (i + 1))) := by
    rw [← ocs_one, ← ocs_append, ← ocs_append, ← e0]
  have e2 : (ocs (l.take i)).length = i * 3 := by rw [ocs_length, List.length_take]; congr 1; omega
  rw [e1]
  refine ⟨?_, ?_, ?_⟩ <;> rw [List.getElem?_append_right (by omega), e2] <;> simp
theorem rdd_own {W : World} {B : Nat} {v : Value} {l : List OpD} (h : W.ownsRow B 60 3 v l.length (ocs l)) : RdD W v l := by
  rcases h.2 with ⟨rfl, h0⟩ | ⟨g, cap, cur, rfl, hb, hg, hn, _, hc, ht⟩
  · have : l = [] := List.eq_nil_of_length_eq_zero h0
    subst this
    exact RdD.nil W
  · refine ⟨_, cap, rfl, ⟨hn, fun h => by cases h⟩, fun i o ho => ⟨g, 0, rfl, (h.lt g rfl).2, ?_⟩⟩
    obtain ⟨c0, c1, c2⟩ := ocs_at l i o ho
    have hadd : ∀ j, (⟨g, 0, none⟩ : Addr).add j = ⟨g, 0 + j, none⟩ := fun j => by unfold Addr.add; split <;> simp_all
    have g0 := h.cells (g := g) rfl _ _ c0
    have g1 := h.cells (g := g) rfl _ _ c1
    have g2 := h.cells (g := g) rfl _ _ c2
    rw [hadd] at g0 g1 g2
    exact ⟨g0, by rw [Nat.add_assoc]; exact g1, by rw [Nat.add_assoc]; exact g2⟩

/-- Rows of unlike elements lie apart. -/
theorem own_apart {w : World} {b1 b2 e1 e2 s1 s2 n1 n2 : Nat} {v1 v2 : Value} {x1 x2 : List Value} (h1 : w.ownsRow b1 e1 s1 v1 n1 x1) (h2 : w.ownsRow b2 e2 s2 v2 n2 x2) (he : e1 ≠ e2) : v1.ownBlock = none ∨ v1.ownBlock ≠ v2.ownBlock := by
  rcases h1.2 with ⟨rfl, _⟩ | ⟨g, cap, cur, rfl, _, hg, _⟩
  · exact .inl rfl
  · rcases h2.2 with ⟨rfl, _⟩ | ⟨g', cap', cur', rfl, _, hg', _⟩
    · exact .inr (by simp [Value.ownBlock])
    · refine .inr (fun e => ?_)
      simp [Value.ownBlock] at e
      subst e
      rw [hg] at hg'
      simp at hg'
      exact he hg'.2

/-- What a stretch becomes. -/
def flushD (kept : Nat) (put : List UInt8) (gone : Nat) : List OpD :=
  (if 0 < kept then [⟨1, kept, ⟨#[]⟩⟩] else []) ++ ((if 0 < put.length then [⟨2, 0, mk put⟩] else []) ++ (if 0 < gone then [⟨3, gone, ⟨#[]⟩⟩] else []))

theorem flushD_len (kept : Nat) (put : List UInt8) (gone : Nat) : (flushD kept put gone).length ≤ 3 := by
  unfold flushD
  split <;> split <;> split <;> simp

theorem own_op {w1 : World} {base n : Nat} {v' : Value} {L : List OpD} {o : OpD} (h : w1.ownsRow base 60 3 v' (n + 1) (ocs L ++ [Value.int .i64 o.k, .int .i64 o.n, .string o.t])) (hn : L.length = n) :
    w1.ownsRow base 60 3 v' (L ++ [o]).length (ocs (L ++ [o])) := by
  subst hn
  rw [ocs_append, ocs_one, List.length_append]
  exact h

theorem own_belowG {w w' : World} {base e z n : Nat} {v : Value} {L : List Value} (h : w.ownsRow base e z v n L) (hb : Below w.heap.size w w') : w'.ownsRow base e z v n L :=
  h.kept (row := none) ⟨hb.os, hb.tape, hb.output, hb.size, fun k hk _ => hb.block k hk⟩ (by cases v.ownBlock <;> simp)
theorem box_apart {w : World} {b e z n p : Nat} {v : Value} {x : List Value} {c : Array Value} {t : TypeId} (h : w.ownsRow b e z v n x) (hb : w.heap[p]? = some (.cells c t)) (he : e ≠ t) : some p ≠ v.ownBlock := by
  rcases h.2 with ⟨rfl, _⟩ | ⟨g, cap, cur, rfl, _, hg, _⟩
  · simp [Value.ownBlock]
  · intro e
    simp [Value.ownBlock] at e
    subst e
    rw [hb] at hg
    simp at hg
    exact he hg.2.symm

/-- A stretch at p, a delta and what is put in, on the way. -/
structure MidJ (base p : Nat) (w W : World) (d pv : Value) (D : List OpD) (put : List UInt8) (kept gone : Nat) : Prop where
  own : W.ownsRow base 60 3 d D.length (ocs D)
  put : W.ownsRow base 5 1 pv put.length (bv put)
  box : W.heap[p]? = some (.cells #[.int .i64 (kept : Int), pv, .int .i64 (gone : Int)] 87)
  bel : Below base w W
  le : base ≤ W.heap.size
  old : ∀ (q : Nat) (c : Array Value), w.heap[q]? = some (.cells c 87) → W.heap[q]? = some (.cells c 87)

theorem heap_lt {W : World} {p : Nat} {o : Obj} (h : W.heap[p]? = some o) : p < W.heap.size := (Array.getElem?_eq_some_iff.1 h).1

theorem MidJ.below {base p : Nat} {w W W' : World} {d pv : Value} {D : List OpD} {put : List UInt8} {kept gone : Nat} (h : MidJ base p w W d pv D put kept gone) (hb : Below W.heap.size W W') : MidJ base p w W' d pv D put kept gone :=
  ⟨own_belowG h.own hb, own_belowG h.put hb, (hb.block p (heap_lt h.box)).trans h.box, h.bel.trans (hb.mono h.le), Nat.le_trans h.le hb.size, fun q c hq => (hb.block q (heap_lt (h.old q c hq))).trans (h.old q c hq)⟩
theorem MidJ.cells {base p : Nat} {w W : World} {d pv : Value} {D : List OpD} {put : List UInt8} {kept gone : Nat} (h : MidJ base p w W d pv D put kept gone) :
    W.cell? ⟨p, 0, none⟩ = some (.int .i64 (kept : Int)) ∧ W.cell? ⟨p, 1, none⟩ = some pv ∧ W.cell? ⟨p, 2, none⟩ = some (.int .i64 (gone : Int)) :=
  ⟨cell_of_row _ _ 0 _ _ (0, 0) h.box, cell_of_row _ _ 1 _ _ (0, 0) h.box, cell_of_row _ _ 2 _ _ (0, 0) h.box⟩
theorem MidJ.app {base p : Nat} {w W W' : World} {d d' pv : Value} {D : List OpD} {put : List UInt8} {kept gone : Nat} {o : OpD} {x : Obj} (h : MidJ base p w W d pv D put kept gone)
    (ho : W'.ownsRow base 60 3 d' (D.length + 1) (ocs D ++ [Value.int .i64 o.k, .int .i64 o.n, .string o.t])) (hg : (W.alloc x).grownBy W' d.ownBlock) : MidJ base p w W' d' pv (D ++ [o]) put kept gone := by
  have hbox : (W.alloc x).heap[p]? = some (.cells #[.int .i64 (kept : Int), pv, .int .i64 (gone : Int)] 87) := by
    have := ((Below.refl W.heap.size W).alloc (Nat.le_refl _) x).block p (heap_lt h.box)
    rw [this]; exact h.box
  refine ⟨own_op ho rfl, (h.put.alloc x).kept hg (own_apart h.put h.own (by decide)), ?_, ?_, ?_, ?_⟩
  · rw [hg.block p (by have := heap_lt h.box; simp; omega) (box_apart h.own h.box (by decide))]
    exact hbox
  · exact (h.bel.alloc h.le x).grown hg (by have := h.le; simp; omega) (fun k hk => (h.own.lt k hk).1)
  · have := hg.size; have := h.le; simp at *; omega
  · intro q c hq
    have h1 := h.old q c hq
    rw [hg.block q (by have := heap_lt h1; simp; omega) (box_apart h.own h1 (by decide)), ((Below.refl W.heap.size W).alloc (Nat.le_refl _) x).block q (heap_lt h1)]
    exact h1

theorem three_one (a b : Int) (t : ByteArray) : ∀ u ∈ [Value.int .i64 a, .int .i64 b, .string t], u.oneCell' = true := by
  intro u hu
  simp at hu
  rcases hu with rfl | rfl | rfl <;> rfl
theorem midJ_conv {base p : Nat} {w W : World} {d pv : Value} {D : List OpD} {put : List UInt8} {kept gone : Nat} (h : MidJ base p w W d pv D put kept gone) : (convert 73 83 pv).run Tryd.prog W = .ok (.string (mk put)) W :=
  conv_own (dst := 83) Tryd.underlying73 Tryd.underlying5 Tryd.underlying83 h.put

set_option maxRecDepth 20000 in
set_option maxHeartbeats 8000000 in
theorem behind_any (base : Nat) (d pv : Value) (D : List OpD) (kept gone : Nat) (put : List UInt8) (w : World) (hb : base ≤ w.heap.size) (hD : D.length ≤ 100000) (hk : kept ≤ 1000000) (hg : gone ≤ 1000000) (hp : put.length ≤ 1000000)
    (ho : w.ownsRow base 60 3 d D.length (ocs D)) (hpo : w.ownsRow base 5 1 pv put.length (bv put)) :
    Calls Tryd.prog 42 #[.agg #[.int .i64 (kept : Int), pv, .int .i64 (gone : Int)], d] w fun e w' => ∃ u, e = .returned u ∧ w'.ownsRow base 60 3 u (D ++ flushD kept put gone).length (ocs (D ++ flushD kept put gone)) ∧ Below base w w' ∧ ∀ (q : Nat) (c : Array Value), w.heap[q]? = some (.cells c 87) → w'.heap[q]? = some (.cells c 87) := by
  obtain ⟨i0, hin, hz0, hz1, hz2⟩ := info_parts Tryd.infoOp
  obtain ⟨ao, cp, hpv, _⟩ := rdv_own hpo
  rw [bv_length] at hpv
  have hM : MidJ base w.heap.size w (w.alloc (.cells #[.int .i64 (kept : Int), pv, .int .i64 (gone : Int)] 87)) d pv D put kept gone :=
    ⟨ho.alloc _, hpo.alloc _, heap_alloc_new w _, (Below.refl _ _).alloc hb _, by simp; omega, fun q c hq => (((Below.refl w.heap.size w).alloc (Nat.le_refl _) _).block q (heap_lt hq)).trans hq⟩
  subst hpv
  have hc := midJ_conv hM
  clear ho hpo
  have hk' : (kept : Int) ≤ 1000000 := by omega
  have hg' : (gone : Int) ≤ 1000000 := by omega
  have hp' : (put.length : Int) ≤ 1000000 := by omega
  by_cases c1 : (0 : Int) < (kept : Int)
  · by_cases c2 : (0 : Int) < (put.length : Int)
    · by_cases c3 : (0 : Int) < (gone : Int)
      · have HF : Hid (flushD kept put gone = [⟨1, kept, ⟨#[]⟩⟩, ⟨2, 0, mk put⟩, ⟨3, gone, ⟨#[]⟩⟩]) := by show _ = _; rw [flushD, if_pos (by omega), if_pos (by omega), if_pos (by omega)]; rfl
        go_enter Tryd.func42, Tryd.ntmps42
        go_wp2_with (first | (go_at_call 47; refine (keepOp_any _ _).mono ?_; rintro e w1 ⟨rfl, hb1⟩; have hM := hM.below hb1; clear hb1) | (go_at_call 49; refine (remOp_any _ _).mono ?_; rintro e w1 ⟨rfl, hb1⟩; have hM := hM.below hb1; clear hb1) | (go_at_call 48; refine (insOp_any _ _).mono ?_; rintro e w1 ⟨rfl, hb1⟩; have hM := hM.below hb1; clear hb1) | (at_builtin; refine wpList_append_own _ rfl (.tmp 8) (.tmp 12) 22 rfl base 60 i0 (.agg #[.int .i64 0, .int .i64 0, .string ⟨#[]⟩]) 3 32 Tryd.underlying22 hin hz0 hz1 hz2 rfl (by decide) _ _ _ rfl (hM.own.alloc _) ⟨_, 0, none⟩ 1 1 [.int .i64 1, .int .i64 (kept : Int), .string ⟨#[]⟩] rfl rfl (many_new _ _ _) (three_one _ _ _) (by (try simp only [List.length_append, List.length_cons, List.length_nil]); (unfold maxLen; omega)) (by (try simp only [List.length_append, List.length_cons, List.length_nil]); omega) (by have := hM.le; simp; omega) ?_; intro v2 w2 ho2 hg2 _; have hM := hM.app (o := ⟨1, kept, ⟨#[]⟩⟩) ho2 hg2; clear ho2 hg2; obtain ⟨g0, g1, g2⟩ := hM.cells; have hc := midJ_conv hM) | (at_builtin; refine wpList_append_own _ rfl (.tmp 18) (.tmp 23) 22 rfl base 60 i0 (.agg #[.int .i64 0, .int .i64 0, .string ⟨#[]⟩]) 3 32 Tryd.underlying22 hin hz0 hz1 hz2 rfl (by decide) _ _ _ rfl (hM.own.alloc _) ⟨_, 0, none⟩ 1 1 [.int .i64 2, .int .i64 0, .string (mk put)] rfl rfl (many_new _ _ _) (three_one _ _ _) (by (try simp only [List.length_append, List.length_cons, List.length_nil]); (unfold maxLen; omega)) (by (try simp only [List.length_append, List.length_cons, List.length_nil]); omega) (by have := hM.le; simp; omega) ?_; intro v2 w2 ho2 hg2 _; have hM := hM.app (o := ⟨2, 0, mk put⟩) ho2 hg2; clear ho2 hg2; obtain ⟨g0, g1, g2⟩ := hM.cells; have hc := midJ_conv hM) | (at_builtin; refine wpList_append_own _ rfl (.tmp 28) (.tmp 32) 22 rfl base 60 i0 (.agg #[.int .i64 0, .int .i64 0, .string ⟨#[]⟩]) 3 32 Tryd.underlying22 hin hz0 hz1 hz2 rfl (by decide) _ _ _ rfl (hM.own.alloc _) ⟨_, 0, none⟩ 1 1 [.int .i64 3, .int .i64 (gone : Int), .string ⟨#[]⟩] rfl rfl (many_new _ _ _) (three_one _ _ _) (by (try simp only [List.length_append, List.length_cons, List.length_nil]); (unfold maxLen; omega)) (by (try simp only [List.length_append, List.length_cons, List.length_nil]); omega) (by have := hM.le; simp; omega) ?_; intro v2 w2 ho2 hg2 _; have hM := hM.app (o := ⟨3, gone, ⟨#[]⟩⟩) ho2 hg2; clear ho2 hg2; obtain ⟨g0, g1, g2⟩ := hM.cells; have hc := midJ_conv hM))
        go_ret
        exact ⟨_, rfl, by rw [HF.out]; simpa using hM.own, hM.bel, hM.old⟩
      · have HF : Hid (flushD kept put gone = [⟨1, kept, ⟨#[]⟩⟩, ⟨2, 0, mk put⟩]) := by show _ = _; rw [flushD, if_pos (by omega), if_pos (by omega), if_neg (by omega)]; rfl
        go_enter Tryd.func42, Tryd.ntmps42
        go_wp2_with (first | (go_at_call 47; refine (keepOp_any _ _).mono ?_; rintro e w1 ⟨rfl, hb1⟩; have hM := hM.below hb1; clear hb1) | (go_at_call 49; refine (remOp_any _ _).mono ?_; rintro e w1 ⟨rfl, hb1⟩; have hM := hM.below hb1; clear hb1) | (go_at_call 48; refine (insOp_any _ _).mono ?_; rintro e w1 ⟨rfl, hb1⟩; have hM := hM.below hb1; clear hb1) | (at_builtin; refine wpList_append_own _ rfl (.tmp 8) (.tmp 12) 22 rfl base 60 i0 (.agg #[.int .i64 0, .int .i64 0, .string ⟨#[]⟩]) 3 32 Tryd.underlying22 hin hz0 hz1 hz2 rfl (by decide) _ _ _ rfl (hM.own.alloc _) ⟨_, 0, none⟩ 1 1 [.int .i64 1, .int .i64 (kept : Int), .string ⟨#[]⟩] rfl rfl (many_new _ _ _) (three_one _ _ _) (by (try simp only [List.length_append, List.length_cons, List.length_nil]); (unfold maxLen; omega)) (by (try simp only [List.length_append, List.length_cons, List.length_nil]); omega) (by have := hM.le; simp; omega) ?_; intro v2 w2 ho2 hg2 _; have hM := hM.app (o := ⟨1, kept, ⟨#[]⟩⟩) ho2 hg2; clear ho2 hg2; obtain ⟨g0, g1, g2⟩ := hM.cells; have hc := midJ_conv hM) | (at_builtin; refine wpList_append_own _ rfl (.tmp 18) (.tmp 23) 22 rfl base 60 i0 (.agg #[.int .i64 0, .int .i64 0, .string ⟨#[]⟩]) 3 32 Tryd.underlying22 hin hz0 hz1 hz2 rfl (by decide) _ _ _ rfl (hM.own.alloc _) ⟨_, 0, none⟩ 1 1 [.int .i64 2, .int .i64 0, .string (mk put)] rfl rfl (many_new _ _ _) (three_one _ _ _) (by (try simp only [List.length_append, List.length_cons, List.length_nil]); (unfold maxLen; omega)) (by (try simp only [List.length_append, List.length_cons, List.length_nil]); omega) (by have := hM.le; simp; omega) ?_; intro v2 w2 ho2 hg2 _; have hM := hM.app (o := ⟨2, 0, mk put⟩) ho2 hg2; clear ho2 hg2; obtain ⟨g0, g1, g2⟩ := hM.cells; have hc := midJ_conv hM) | (at_builtin; refine wpList_append_own _ rfl (.tmp 28) (.tmp 32) 22 rfl base 60 i0 (.agg #[.int .i64 0, .int .i64 0, .string ⟨#[]⟩]) 3 32 Tryd.underlying22 hin hz0 hz1 hz2 rfl (by decide) _ _ _ rfl (hM.own.alloc _) ⟨_, 0, none⟩ 1 1 [.int .i64 3, .int .i64 (gone : Int), .string ⟨#[]⟩] rfl rfl (many_new _ _ _) (three_one _ _ _) (by (try simp only [List.length_append, List.length_cons, List.length_nil]); (unfold maxLen; omega)) (by (try simp only [List.length_append, List.length_cons, List.length_nil]); omega) (by have := hM.le; simp; omega) ?_; intro v2 w2 ho2 hg2 _; have hM := hM.app (o := ⟨3, gone, ⟨#[]⟩⟩) ho2 hg2; clear ho2 hg2; obtain ⟨g0, g1, g2⟩ := hM.cells; have hc := midJ_conv hM))
        go_ret
        exact ⟨_, rfl, by rw [HF.out]; simpa using hM.own, hM.bel, hM.old⟩
    · by_cases c3 : (0 : Int) < (gone : Int)
      · have HF : Hid (flushD kept put gone = [⟨1, kept, ⟨#[]⟩⟩, ⟨3, gone, ⟨#[]⟩⟩]) := by show _ = _; rw [flushD, if_pos (by omega), if_neg (by omega), if_pos (by omega)]; rfl
        go_enter Tryd.func42, Tryd.ntmps42
        go_wp2_with (first | (go_at_call 47; refine (keepOp_any _ _).mono ?_; rintro e w1 ⟨rfl, hb1⟩; have hM := hM.below hb1; clear hb1) | (go_at_call 49; refine (remOp_any _ _).mono ?_; rintro e w1 ⟨rfl, hb1⟩; have hM := hM.below hb1; clear hb1) | (go_at_call 48; refine (insOp_any _ _).mono ?_; rintro e w1 ⟨rfl, hb1⟩; have hM := hM.below hb1; clear hb1) | (at_builtin; refine wpList_append_own _ rfl (.tmp 8) (.tmp 12) 22 rfl base 60 i0 (.agg #[.int .i64 0, .int .i64 0, .string ⟨#[]⟩]) 3 32 Tryd.underlying22 hin hz0 hz1 hz2 rfl (by decide) _ _ _ rfl (hM.own.alloc _) ⟨_, 0, none⟩ 1 1 [.int .i64 1, .int .i64 (kept : Int), .string ⟨#[]⟩] rfl rfl (many_new _ _ _) (three_one _ _ _) (by (try simp only [List.length_append, List.length_cons, List.length_nil]); (unfold maxLen; omega)) (by (try simp only [List.length_append, List.length_cons, List.length_nil]); omega) (by have := hM.le; simp; omega) ?_; intro v2 w2 ho2 hg2 _; have hM := hM.app (o := ⟨1, kept, ⟨#[]⟩⟩) ho2 hg2; clear ho2 hg2; obtain ⟨g0, g1, g2⟩ := hM.cells; have hc := midJ_conv hM) | (at_builtin; refine wpList_append_own _ rfl (.tmp 18) (.tmp 23) 22 rfl base 60 i0 (.agg #[.int .i64 0, .int .i64 0, .string ⟨#[]⟩]) 3 32 Tryd.underlying22 hin hz0 hz1 hz2 rfl (by decide) _ _ _ rfl (hM.own.alloc _) ⟨_, 0, none⟩ 1 1 [.int .i64 2, .int .i64 0, .string (mk put)] rfl rfl (many_new _ _ _) (three_one _ _ _) (by (try simp only [List.length_append, List.length_cons, List.length_nil]); (unfold maxLen; omega)) (by (try simp only [List.length_append, List.length_cons, List.length_nil]); omega) (by have := hM.le; simp; omega) ?_; intro v2 w2 ho2 hg2 _; have hM := hM.app (o := ⟨2, 0, mk put⟩) ho2 hg2; clear ho2 hg2; obtain ⟨g0, g1, g2⟩ := hM.cells; have hc := midJ_conv hM) | (at_builtin; refine wpList_append_own _ rfl (.tmp 28) (.tmp 32) 22 rfl base 60 i0 (.agg #[.int .i64 0, .int .i64 0, .string ⟨#[]⟩]) 3 32 Tryd.underlying22 hin hz0 hz1 hz2 rfl (by decide) _ _ _ rfl (hM.own.alloc _) ⟨_, 0, none⟩ 1 1 [.int .i64 3, .int .i64 (gone : Int), .string ⟨#[]⟩] rfl rfl (many_new _ _ _) (three_one _ _ _) (by (try simp only [List.length_append, List.length_cons, List.length_nil]); (unfold maxLen; omega)) (by (try simp only [List.length_append, List.length_cons, List.length_nil]); omega) (by have := hM.le; simp; omega) ?_; intro v2 w2 ho2 hg2 _; have hM := hM.app (o := ⟨3, gone, ⟨#[]⟩⟩) ho2 hg2; clear ho2 hg2; obtain ⟨g0, g1, g2⟩ := hM.cells; have hc := midJ_conv hM))
        go_ret
        exact ⟨_, rfl, by rw [HF.out]; simpa using hM.own, hM.bel, hM.old⟩
      · have HF : Hid (flushD kept put gone = [⟨1, kept, ⟨#[]⟩⟩]) := by show _ = _; rw [flushD, if_pos (by omega), if_neg (by omega), if_neg (by omega)]; rfl
        go_enter Tryd.func42, Tryd.ntmps42
        go_wp2_with (first | (go_at_call 47; refine (keepOp_any _ _).mono ?_; rintro e w1 ⟨rfl, hb1⟩; have hM := hM.below hb1; clear hb1) | (go_at_call 49; refine (remOp_any _ _).mono ?_; rintro e w1 ⟨rfl, hb1⟩; have hM := hM.below hb1; clear hb1) | (go_at_call 48; refine (insOp_any _ _).mono ?_; rintro e w1 ⟨rfl, hb1⟩; have hM := hM.below hb1; clear hb1) | (at_builtin; refine wpList_append_own _ rfl (.tmp 8) (.tmp 12) 22 rfl base 60 i0 (.agg #[.int .i64 0, .int .i64 0, .string ⟨#[]⟩]) 3 32 Tryd.underlying22 hin hz0 hz1 hz2 rfl (by decide) _ _ _ rfl (hM.own.alloc _) ⟨_, 0, none⟩ 1 1 [.int .i64 1, .int .i64 (kept : Int), .string ⟨#[]⟩] rfl rfl (many_new _ _ _) (three_one _ _ _) (by (try simp only [List.length_append, List.length_cons, List.length_nil]); (unfold maxLen; omega)) (by (try simp only [List.length_append, List.length_cons, List.length_nil]); omega) (by have := hM.le; simp; omega) ?_; intro v2 w2 ho2 hg2 _; have hM := hM.app (o := ⟨1, kept, ⟨#[]⟩⟩) ho2 hg2; clear ho2 hg2; obtain ⟨g0, g1, g2⟩ := hM.cells; have hc := midJ_conv hM) | (at_builtin; refine wpList_append_own _ rfl (.tmp 18) (.tmp 23) 22 rfl base 60 i0 (.agg #[.int .i64 0, .int .i64 0, .string ⟨#[]⟩]) 3 32 Tryd.underlying22 hin hz0 hz1 hz2 rfl (by decide) _ _ _ rfl (hM.own.alloc _) ⟨_, 0, none⟩ 1 1 [.int .i64 2, .int .i64 0, .string (mk put)] rfl rfl (many_new _ _ _) (three_one _ _ _) (by (try simp only [List.length_append, List.length_cons, List.length_nil]); (unfold maxLen; omega)) (by (try simp only [List.length_append, List.length_cons, List.length_nil]); omega) (by have := hM.le; simp; omega) ?_; intro v2 w2 ho2 hg2 _; have hM := hM.app (o := ⟨2, 0, mk put⟩) ho2 hg2; clear ho2 hg2; obtain ⟨g0, g1, g2⟩ := hM.cells; have hc := midJ_conv hM) | (at_builtin; refine wpList_append_own _ rfl (.tmp 28) (.tmp 32) 22 rfl base 60 i0 (.agg #[.int .i64 0, .int .i64 0, .string ⟨#[]⟩]) 3 32 Tryd.underlying22 hin hz0 hz1 hz2 rfl (by decide) _ _ _ rfl (hM.own.alloc _) ⟨_, 0, none⟩ 1 1 [.int .i64 3, .int .i64 (gone : Int), .string ⟨#[]⟩] rfl rfl (many_new _ _ _) (three_one _ _ _) (by (try simp only [List.length_append, List.length_cons, List.length_nil]); (unfold maxLen; omega)) (by (try simp only [List.length_append, List.length_cons, List.length_nil]); omega) (by have := hM.le; simp; omega) ?_; intro v2 w2 ho2 hg2 _; have hM := hM.app (o := ⟨3, gone, ⟨#[]⟩⟩) ho2 hg2; clear ho2 hg2; obtain ⟨g0, g1, g2⟩ := hM.cells; have hc := midJ_conv hM))
        go_ret
        exact ⟨_, rfl, by rw [HF.out]; simpa using hM.own, hM.bel, hM.old⟩
  · by_cases c2 : (0 : Int) < (put.length : Int)
    · by_cases c3 : (0 : Int) < (gone : Int)
      · have HF : Hid (flushD kept put gone = [⟨2, 0, mk put⟩, ⟨3, gone, ⟨#[]⟩⟩]) := by show _ = _; rw [flushD, if_neg (by omega), if_pos (by omega), if_pos (by omega)]; rfl
        go_enter Tryd.func42, Tryd.ntmps42
        go_wp2_with (first | (go_at_call 47; refine (keepOp_any _ _).mono ?_; rintro e w1 ⟨rfl, hb1⟩; have hM := hM.below hb1; clear hb1) | (go_at_call 49; refine (remOp_any _ _).mono ?_; rintro e w1 ⟨rfl, hb1⟩; have hM := hM.below hb1; clear hb1) | (go_at_call 48; refine (insOp_any _ _).mono ?_; rintro e w1 ⟨rfl, hb1⟩; have hM := hM.below hb1; clear hb1) | (at_builtin; refine wpList_append_own _ rfl (.tmp 8) (.tmp 12) 22 rfl base 60 i0 (.agg #[.int .i64 0, .int .i64 0, .string ⟨#[]⟩]) 3 32 Tryd.underlying22 hin hz0 hz1 hz2 rfl (by decide) _ _ _ rfl (hM.own.alloc _) ⟨_, 0, none⟩ 1 1 [.int .i64 1, .int .i64 (kept : Int), .string ⟨#[]⟩] rfl rfl (many_new _ _ _) (three_one _ _ _) (by (try simp only [List.length_append, List.length_cons, List.length_nil]); (unfold maxLen; omega)) (by (try simp only [List.length_append, List.length_cons, List.length_nil]); omega) (by have := hM.le; simp; omega) ?_; intro v2 w2 ho2 hg2 _; have hM := hM.app (o := ⟨1, kept, ⟨#[]⟩⟩) ho2 hg2; clear ho2 hg2; obtain ⟨g0, g1, g2⟩ := hM.cells; have hc := midJ_conv hM) | (at_builtin; refine wpList_append_own _ rfl (.tmp 18) (.tmp 23) 22 rfl base 60 i0 (.agg #[.int .i64 0, .int .i64 0, .string ⟨#[]⟩]) 3 32 Tryd.underlying22 hin hz0 hz1 hz2 rfl (by decide) _ _ _ rfl (hM.own.alloc _) ⟨_, 0, none⟩ 1 1 [.int .i64 2, .int .i64 0, .string (mk put)] rfl rfl (many_new _ _ _) (three_one _ _ _) (by (try simp only [List.length_append, List.length_cons, List.length_nil]); (unfold maxLen; omega)) (by (try simp only [List.length_append, List.length_cons, List.length_nil]); omega) (by have := hM.le; simp; omega) ?_; intro v2 w2 ho2 hg2 _; have hM := hM.app (o := ⟨2, 0, mk put⟩) ho2 hg2; clear ho2 hg2; obtain ⟨g0, g1, g2⟩ := hM.cells; have hc := midJ_conv hM) | (at_builtin; refine wpList_append_own _ rfl (.tmp 28) (.tmp 32) 22 rfl base 60 i0 (.agg #[.int .i64 0, .int .i64 0, .string ⟨#[]⟩]) 3 32 Tryd.underlying22 hin hz0 hz1 hz2 rfl (by decide) _ _ _ rfl (hM.own.alloc _) ⟨_, 0, none⟩ 1 1 [.int .i64 3, .int .i64 (gone : Int), .string ⟨#[]⟩] rfl rfl (many_new _ _ _) (three_one _ _ _) (by (try simp only [List.length_append, List.length_cons, List.length_nil]); (unfold maxLen; omega)) (by (try simp only [List.length_append, List.length_cons, List.length_nil]); omega) (by have := hM.le; simp; omega) ?_; intro v2 w2 ho2 hg2 _; have hM := hM.app (o := ⟨3, gone, ⟨#[]⟩⟩) ho2 hg2; clear ho2 hg2; obtain ⟨g0, g1, g2⟩ := hM.cells; have hc := midJ_conv hM))
        go_ret
        exact ⟨_, rfl, by rw [HF.out]; simpa using hM.own, hM.bel, hM.old⟩
      · have HF : Hid (flushD kept put gone = [⟨2, 0, mk put⟩]) := by show _ = _; rw [flushD, if_neg (by omega), if_pos (by omega), if_neg (by omega)]; rfl
        go_enter Tryd.func42, Tryd.ntmps42
        go_wp2_with (first | (go_at_call 47; refine (keepOp_any _ _).mono ?_; rintro e w1 ⟨rfl, hb1⟩; have hM := hM.below hb1; clear hb1) | (go_at_call 49; refine (remOp_any _ _).mono ?_; rintro e w1 ⟨rfl, hb1⟩; have hM := hM.below hb1; clear hb1) | (go_at_call 48; refine (insOp_any _ _).mono ?_; rintro e w1 ⟨rfl, hb1⟩; have hM := hM.below hb1; clear hb1) | (at_builtin; refine wpList_append_own _ rfl (.tmp 8) (.tmp 12) 22 rfl base 60 i0 (.agg #[.int .i64 0, .int .i64 0, .string ⟨#[]⟩]) 3 32 Tryd.underlying22 hin hz0 hz1 hz2 rfl (by decide) _ _ _ rfl (hM.own.alloc _) ⟨_, 0, none⟩ 1 1 [.int .i64 1, .int .i64 (kept : Int), .string ⟨#[]⟩] rfl rfl (many_new _ _ _) (three_one _ _ _) (by (try simp only [List.length_append, List.length_cons, List.length_nil]); (unfold maxLen; omega)) (by (try simp only [List.length_append, List.length_cons, List.length_nil]); omega) (by have := hM.le; simp; omega) ?_; intro v2 w2 ho2 hg2 _; have hM := hM.app (o := ⟨1, kept, ⟨#[]⟩⟩) ho2 hg2; clear ho2 hg2; obtain ⟨g0, g1, g2⟩ := hM.cells; have hc := midJ_conv hM) | (at_builtin; refine wpList_append_own _ rfl (.tmp 18) (.tmp 23) 22 rfl base 60 i0 (.agg #[.int .i64 0, .int .i64 0, .string ⟨#[]⟩]) 3 32 Tryd.underlying22 hin hz0 hz1 hz2 rfl (by decide) _ _ _ rfl (hM.own.alloc _) ⟨_, 0, none⟩ 1 1 [.int .i64 2, .int .i64 0, .string (mk put)] rfl rfl (many_new _ _ _) (three_one _ _ _) (by (try simp only [List.length_append, List.length_cons, List.length_nil]); (unfold maxLen; omega)) (by (try simp only [List.length_append, List.length_cons, List.length_nil]); omega) (by have := hM.le; simp; omega) ?_; intro v2 w2 ho2 hg2 _; have hM := hM.app (o := ⟨2, 0, mk put⟩) ho2 hg2; clear ho2 hg2; obtain ⟨g0, g1, g2⟩ := hM.cells; have hc := midJ_conv hM) | (at_builtin; refine wpList_append_own _ rfl (.tmp 28) (.tmp 32) 22 rfl base 60 i0 (.agg #[.int .i64 0, .int .i64 0, .string ⟨#[]⟩]) 3 32 Tryd.underlying22 hin hz0 hz1 hz2 rfl (by decide) _ _ _ rfl (hM.own.alloc _) ⟨_, 0, none⟩ 1 1 [.int .i64 3, .int .i64 (gone : Int), .string ⟨#[]⟩] rfl rfl (many_new _ _ _) (three_one _ _ _) (by (try simp only [List.length_append, List.length_cons, List.length_nil]); (unfold maxLen; omega)) (by (try simp only [List.length_append, List.length_cons, List.length_nil]); omega) (by have := hM.le; simp; omega) ?_; intro v2 w2 ho2 hg2 _; have hM := hM.app (o := ⟨3, gone, ⟨#[]⟩⟩) ho2 hg2; clear ho2 hg2; obtain ⟨g0, g1, g2⟩ := hM.cells; have hc := midJ_conv hM))
        go_ret
        exact ⟨_, rfl, by rw [HF.out]; simpa using hM.own, hM.bel, hM.old⟩
    · by_cases c3 : (0 : Int) < (gone : Int)
      · have HF : Hid (flushD kept put gone = [⟨3, gone, ⟨#[]⟩⟩]) := by show _ = _; rw [flushD, if_neg (by omega), if_neg (by omega), if_pos (by omega)]; rfl
        go_enter Tryd.func42, Tryd.ntmps42
        go_wp2_with (first | (go_at_call 47; refine (keepOp_any _ _).mono ?_; rintro e w1 ⟨rfl, hb1⟩; have hM := hM.below hb1; clear hb1) | (go_at_call 49; refine (remOp_any _ _).mono ?_; rintro e w1 ⟨rfl, hb1⟩; have hM := hM.below hb1; clear hb1) | (go_at_call 48; refine (insOp_any _ _).mono ?_; rintro e w1 ⟨rfl, hb1⟩; have hM := hM.below hb1; clear hb1) | (at_builtin; refine wpList_append_own _ rfl (.tmp 8) (.tmp 12) 22 rfl base 60 i0 (.agg #[.int .i64 0, .int .i64 0, .string ⟨#[]⟩]) 3 32 Tryd.underlying22 hin hz0 hz1 hz2 rfl (by decide) _ _ _ rfl (hM.own.alloc _) ⟨_, 0, none⟩ 1 1 [.int .i64 1, .int .i64 (kept : Int), .string ⟨#[]⟩] rfl rfl (many_new _ _ _) (three_one _ _ _) (by (try simp only [List.length_append, List.length_cons, List.length_nil]); (unfold maxLen; omega)) (by (try simp only [List.length_append, List.length_cons, List.length_nil]); omega) (by have := hM.le; simp; omega) ?_; intro v2 w2 ho2 hg2 _; have hM := hM.app (o := ⟨1, kept, ⟨#[]⟩⟩) ho2 hg2; clear ho2 hg2; obtain ⟨g0, g1, g2⟩ := hM.cells; have hc := midJ_conv hM) | (at_builtin; refine wpList_append_own _ rfl (.tmp 18) (.tmp 23) 22 rfl base 60 i0 (.agg #[.int .i64 0, .int .i64 0, .string ⟨#[]⟩]) 3 32 Tryd.underlying22 hin hz0 hz1 hz2 rfl (by decide) _ _ _ rfl (hM.own.alloc _) ⟨_, 0, none⟩ 1 1 [.int .i64 2, .int .i64 0, .string (mk put)] rfl rfl (many_new _ _ _) (three_one _ _ _) (by (try simp only [List.length_append, List.length_cons, List.length_nil]); (unfold maxLen; omega)) (by (try simp only [List.length_append, List.length_cons, List.length_nil]); omega) (by have := hM.le; simp; omega) ?_; intro v2 w2 ho2 hg2 _; have hM := hM.app (o := ⟨2, 0, mk put⟩) ho2 hg2; clear ho2 hg2; obtain ⟨g0, g1, g2⟩ := hM.cells; have hc := midJ_conv hM) | (at_builtin; refine wpList_append_own _ rfl (.tmp 28) (.tmp 32) 22 rfl base 60 i0 (.agg #[.int .i64 0, .int .i64 0, .string ⟨#[]⟩]) 3 32 Tryd.underlying22 hin hz0 hz1 hz2 rfl (by decide) _ _ _ rfl (hM.own.alloc _) ⟨_, 0, none⟩ 1 1 [.int .i64 3, .int .i64 (gone : Int), .string ⟨#[]⟩] rfl rfl (many_new _ _ _) (three_one _ _ _) (by (try simp only [List.length_append, List.length_cons, List.length_nil]); (unfold maxLen; omega)) (by (try simp only [List.length_append, List.length_cons, List.length_nil]); omega) (by have := hM.le; simp; omega) ?_; intro v2 w2 ho2 hg2 _; have hM := hM.app (o := ⟨3, gone, ⟨#[]⟩⟩) ho2 hg2; clear ho2 hg2; obtain ⟨g0, g1, g2⟩ := hM.cells; have hc := midJ_conv hM))
        go_ret
        exact ⟨_, rfl, by rw [HF.out]; simpa using hM.own, hM.bel, hM.old⟩
      · have HF : Hid (flushD kept put gone = []) := by show _ = _; rw [flushD, if_neg (by omega), if_neg (by omega), if_neg (by omega)]; rfl
        go_enter Tryd.func42, Tryd.ntmps42
        go_wp2_with (first | (go_at_call 47; refine (keepOp_any _ _).mono ?_; rintro e w1 ⟨rfl, hb1⟩; have hM := hM.below hb1; clear hb1) | (go_at_call 49; refine (remOp_any _ _).mono ?_; rintro e w1 ⟨rfl, hb1⟩; have hM := hM.below hb1; clear hb1) | (go_at_call 48; refine (insOp_any _ _).mono ?_; rintro e w1 ⟨rfl, hb1⟩; have hM := hM.below hb1; clear hb1) | (at_builtin; refine wpList_append_own _ rfl (.tmp 8) (.tmp 12) 22 rfl base 60 i0 (.agg #[.int .i64 0, .int .i64 0, .string ⟨#[]⟩]) 3 32 Tryd.underlying22 hin hz0 hz1 hz2 rfl (by decide) _ _ _ rfl (hM.own.alloc _) ⟨_, 0, none⟩ 1 1 [.int .i64 1, .int .i64 (kept : Int), .string ⟨#[]⟩] rfl rfl (many_new _ _ _) (three_one _ _ _) (by (try simp only [List.length_append, List.length_cons, List.length_nil]); (unfold maxLen; omega)) (by (try simp only [List.length_append, List.length_cons, List.length_nil]); omega) (by have := hM.le; simp; omega) ?_; intro v2 w2 ho2 hg2 _; have hM := hM.app (o := ⟨1, kept, ⟨#[]⟩⟩) ho2 hg2; clear ho2 hg2; obtain ⟨g0, g1, g2⟩ := hM.cells; have hc := midJ_conv hM) | (at_builtin; refine wpList_append_own _ rfl (.tmp 18) (.tmp 23) 22 rfl base 60 i0 (.agg #[.int .i64 0, .int .i64 0, .string ⟨#[]⟩]) 3 32 Tryd.underlying22 hin hz0 hz1 hz2 rfl (by decide) _ _ _ rfl (hM.own.alloc _) ⟨_, 0, none⟩ 1 1 [.int .i64 2, .int .i64 0, .string (mk put)] rfl rfl (many_new _ _ _) (three_one _ _ _) (by (try simp only [List.length_append, List.length_cons, List.length_nil]); (unfold maxLen; omega)) (by (try simp only [List.length_append, List.length_cons, List.length_nil]); omega) (by have := hM.le; simp; omega) ?_; intro v2 w2 ho2 hg2 _; have hM := hM.app (o := ⟨2, 0, mk put⟩) ho2 hg2; clear ho2 hg2; obtain ⟨g0, g1, g2⟩ := hM.cells; have hc := midJ_conv hM) | (at_builtin; refine wpList_append_own _ rfl (.tmp 28) (.tmp 32) 22 rfl base 60 i0 (.agg #[.int .i64 0, .int .i64 0, .string ⟨#[]⟩]) 3 32 Tryd.underlying22 hin hz0 hz1 hz2 rfl (by decide) _ _ _ rfl (hM.own.alloc _) ⟨_, 0, none⟩ 1 1 [.int .i64 3, .int .i64 (gone : Int), .string ⟨#[]⟩] rfl rfl (many_new _ _ _) (three_one _ _ _) (by (try simp only [List.length_append, List.length_cons, List.length_nil]); (unfold maxLen; omega)) (by (try simp only [List.length_append, List.length_cons, List.length_nil]); omega) (by have := hM.le; simp; omega) ?_; intro v2 w2 ho2 hg2 _; have hM := hM.app (o := ⟨3, gone, ⟨#[]⟩⟩) ho2 hg2; clear ho2 hg2; obtain ⟨g0, g1, g2⟩ := hM.cells; have hc := midJ_conv hM))
        go_ret
        exact ⟨_, rfl, by rw [HF.out]; simpa using hM.own, hM.bel, hM.old⟩
end Go.Proofs.YtfhbkaiioiihjaaDoor
