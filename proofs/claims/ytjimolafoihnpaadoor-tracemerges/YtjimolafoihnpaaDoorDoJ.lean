/-
  Runs as cells; the contracts of slices.Clone and Copied.
-/
import Derived.Test.YtjimolafoihnpaaDoorDoH
import Derived.Laws.Cover3
import Derived.Test.YtjimolafoihnpaaDoorDoA
namespace Go.Proofs.YtjimolafoihnpaaDoor
open Go.WideShapes Go.RowKit Go.ChangeShapes Go.ChangeAt Go.PlainAid

theorem Tryd.infoRun : (Tryd.prog.info? 44).map (fun i => (i.zero, i.size, i.bytes)) = some (some (.agg #[.int .i64 0, .int .i64 0, .int .i64 0, .string ⟨#[]⟩]), 4, 40) := by kernel_rfl

/-- Runs as cells. -/
def rcs (l : List RunD) : List Value := (l.map fun r => [Value.int .i64 r.c, .int .i64 r.q, .int .i64 r.f, .string r.t]).flatten
theorem rcs_append (a b : List RunD) : rcs (a ++ b) = rcs a ++ rcs b := by simp [rcs]
theorem rcs_one (r : RunD) : rcs [r] = [Value.int .i64 r.c, .int .i64 r.q, .int .i64 r.f, .string r.t] := by simp [rcs]
theorem rcs_length (l : List RunD) : (rcs l).length = l.length * 4 := by
  induction l with
  | nil => simp [rcs]
  | cons a l ih =>
    have e : rcs (a :: l) = [Value.int .i64 a.c, .int .i64 a.q, .int .i64 a.f, .string a.t] ++ rcs l := by simp [rcs]
    rw [e, List.length_append, ih]; simp; omega
theorem rcs_at (l : List RunD) (i : Nat) (r : RunD) (h : l[i]? = some r) : (rcs l)[i * 4]? = some (.int .i64 r.c) ∧ (rcs l)[i * 4 + 1]? = some (.int .i64 r.q) ∧ (rcs l)[i * 4 + 2]? = some (.int .i64 r.f) ∧ (rcs l)[i * 4 + 3]? = some (.string r.t) := by
  have hi := (List.getElem?_eq_some_iff.1 h).1
  have e0 : l = l.take i ++ ([r] ++ l.drop (i + 1)) := by
    have h1 : l[i] = r := (List.getElem?_eq_some_iff.1 h).2
    rw [← h1]
    simp
  have e1 : rcs l = rcs (l.take i) ++ ([Value.int .i64 r.c, .int .i64 r.q, .int .i64 r.f, .string r.t] ++ rcs (l.drop (i + 1))) := by
    rw [← rcs_one, ← rcs_append, ← rcs_append, ← e0]
  have e2 : (rcs (l.take i)).length = i * 4 := by rw [rcs_length, List.length_take]; congr 1; omega
  rw [e1]
  refine ⟨?_, ?_, ?_, ?_⟩ <;> rw [List.getElem?_append_right (by omega), e2] <;> simp
theorem rdn_own {W : World} {B : Nat} {v : Value} {l : List RunD} (h : W.ownsRow B 44 4 v l.length (rcs l)) : RdN W v l := by
  rcases h.2 with ⟨rfl, h0⟩ | ⟨g, cap, cur, rfl, hb, hg, hn, _, hc, ht⟩
  · have : l = [] := List.eq_nil_of_length_eq_zero h0
    subst this
    exact RdN.nil W
  · refine ⟨_, cap, rfl, hn, fun i o ho => ⟨g, 0, rfl, (h.lt g rfl).2, ?_⟩⟩
    obtain ⟨c0, c1, c2, c3⟩ := rcs_at l i o ho
    have hadd : ∀ j, (⟨g, 0, none⟩ : Addr).add j = ⟨g, 0 + j, none⟩ := fun j => by unfold Addr.add; split <;> simp_all
    have g0 := h.cells (g := g) rfl _ _ c0
    have g1 := h.cells (g := g) rfl _ _ c1
    have g2 := h.cells (g := g) rfl _ _ c2
    have g3 := h.cells (g := g) rfl _ _ c3
    rw [hadd] at g0 g1 g2 g3
    exact ⟨g0, by rw [Nat.add_assoc]; exact g1, by rw [Nat.add_assoc]; exact g2, by rw [Nat.add_assoc]; exact g3⟩
theorem rdn_cells {w : World} {b off cp : Nat} {l : List RunD} (h : RdN w (.slice (some ⟨b, off, none⟩) l.length cp) l) : ∀ j u, (rcs l)[j]? = some u → w.cell? ((⟨b, off, none⟩ : Addr).add j) = some u := by
  intro j u hj
  have hj' : j < l.length * 4 := by have := (List.getElem?_eq_some_iff.1 hj).1; rwa [rcs_length] at this
  obtain ⟨b', o', e1, _, c0, c1, c2, c3⟩ := h.at (j / 4) l[j / 4] (by simp [show j / 4 < l.length by omega])
  cases e1
  obtain ⟨q0, q1, q2, q3⟩ := rcs_at l (j / 4) l[j / 4] (by simp [show j / 4 < l.length by omega])
  rw [addr_add]
  rcases (show j = j / 4 * 4 ∨ j = j / 4 * 4 + 1 ∨ j = j / 4 * 4 + 2 ∨ j = j / 4 * 4 + 3 by omega) with h | h | h | h
  · rw [h] at hj ⊢
    rw [c0, ← q0, hj]
  · rw [h] at hj ⊢
    rw [← Nat.add_assoc, c1, ← q1, hj]
  · rw [h] at hj ⊢
    rw [← Nat.add_assoc, c2, ← q2, hj]
  · rw [h] at hj ⊢
    rw [← Nat.add_assoc, c3, ← q3, hj]
theorem rcs_one' (l : List RunD) : ∀ u ∈ rcs l, u.oneCell' = true := by
  intro u hu
  simp only [rcs, List.mem_flatten, List.mem_map] at hu
  obtain ⟨_, ⟨o, _, rfl⟩, hu⟩ := hu
  simp only [List.mem_cons, List.not_mem_nil, or_false] at hu
  rcases hu with rfl | rfl | rfl | rfl <;> rfl

theorem app_runs (B : Nat) (u : Value) (v : Value) (L l : List RunD) (wr : World) (hu : wr.ownsRow B 44 4 u L.length (rcs L)) (hB : B ≤ wr.heap.size) (hw : RdN wr v l) (hx : L.length + l.length ≤ 3298534883328) (ty : TypeId) :
    ∃ v' w', (Builtin.append_ #[22, 22] ty #[u, v]).run Tryd.prog wr = .ok v' w' ∧ w'.ownsRow B 44 4 v' (L ++ l).length (rcs (L ++ l)) ∧ wr.grownBy w' u.ownBlock := by
  obtain ⟨i0, hin, hz0, hz1, hz2⟩ := info_parts Tryd.infoRun
  by_cases h0 : l.length = 0
  · have : l = [] := List.eq_nil_of_length_eq_zero h0
    subst this
    obtain ⟨ao, cp, rfl, _, _⟩ := hw
    refine ⟨u, wr, ?_, by simpa using hu, ⟨rfl, rfl, rfl, Nat.le_refl _, fun _ _ _ => rfl⟩⟩
    obtain ⟨a2, c2, rfl⟩ := own_form hu
    have hc2 : L.length ≤ c2 := by
      rcases hu.2 with ⟨e, h⟩ | ⟨g, cap, cur, e, _, _, hn, _⟩
      · omega
      · injection e with _ _ e3
        omega
    cases a2 <;> cases ao <;> simp [Builtin.append_, run_underlying Tryd.underlying22, sizeOf, typeInfo, hin, Builtin.lenOf, Builtin.firstCells, loadCells, loadCellsFrom, storeCells, hc2]
  · have hw' := hw
    obtain ⟨ao, cp, rfl, _, hc⟩ := hw
    obtain ⟨b, off, rfl, _⟩ := hc 0 l[0] (by simp [show 0 < l.length by omega])
    obtain ⟨v', w', h1, h2, h3, h4⟩ := run_append_own (P := Tryd.prog) wr B 22 ty 44 i0 (.agg #[.int .i64 0, .int .i64 0, .int .i64 0, .string ⟨#[]⟩]) 4 40 Tryd.underlying22 hin hz0 hz1 hz2 rfl (by decide) u L.length _ hu ⟨b, off, none⟩ l.length cp (rcs l) (by rw [rcs_length]) (rdn_cells hw') (rcs_one' l)
      (by unfold maxLen; omega) (by omega) hB
    refine ⟨v', w', h1, ?_, h3⟩
    rw [rcs_append, List.length_append]
    exact h2
theorem wpList_app_runs {ops : Array Oper} {rest : List Oper} {o : Oper} {a : Act} {Q : Exit → Act → World → Prop} (wr : World) (hgd : o.guard = none) (sl x : Operand)
    (ho : o.op = .call { callee := .builtin .append, args := #[sl, x], argTypes := #[22, 22] }) (B : Nat) (u v : Value) (L l : List RunD) (hs : a.eval sl = u) (hx : a.eval x = v)
    (hu : wr.ownsRow B 44 4 u L.length (rcs L)) (hB : B ≤ wr.heap.size) (hw : RdN wr v l) (hl : L.length + l.length ≤ 3298534883328)
    (h : ∀ v' w', w'.ownsRow B 44 4 v' (L ++ l).length (rcs (L ++ l)) → wr.grownBy w' u.ownBlock → wpList Tryd.prog ops Q rest (a.put o.dst v') w') : wpList Tryd.prog ops Q (o :: rest) a wr := by
  refine wpList_plain hgd fun K hK => ?_
  obtain ⟨v', w', hr, h2, h3⟩ := app_runs B u v L l wr hu hB hw hl o.type
  unfold Oper.wp execOp
  simp only [ho, resolve, invoke, builtin, Sem.run_bind, Sem.run_pure, Result.andThen_ok, List.map_toArray, List.map_cons, List.map_nil, hs, hx, hr]
  exact hK _ _ (h v' w' h2 h3)


theorem eql_nil (w : World) (a : Option Addr) (n c : Nat) : (binOp .eql 22 (.slice a n c) (.slice none 0 0)).run Tryd.prog w = .ok (.bool a.isNone) w := by
  simp only [binOp]
  simp [run_equal_slice_nil w _ _ a n c Tryd.underlying22]

set_option maxRecDepth 20000 in
set_option maxHeartbeats 1000000 in
theorem clone_any (v : Value) (l : List RunD) (w : World) (hr : RdN w v l) (hl : l.length ≤ 3298534883328) :
    Calls Tryd.prog 77 #[v] w fun e w' => ∃ u, e = .returned u ∧ w'.ownsRow w.heap.size 44 4 u l.length (rcs l) ∧ Below w.heap.size w w' := by
  obtain ⟨ao, cp, hv, -, hc⟩ := id hr
  subst hv
  cases ao with
  | none =>
    have : l = [] := by
      cases l with
      | nil => rfl
      | cons r l => obtain ⟨_, _, e, _⟩ := hc 0 r rfl; cases e
    subst this
    clear hr hc
    have hq := eql_nil w none
    go_enter Tryd.func77, Tryd.ntmps77
    go_wp2_with fail
    go_ret
    exact ⟨_, rfl, World.ownsRow_nil _ _ _ _, Below.refl _ _⟩
  | some a =>
    have hu : (w.alloc (.cells #[] 44)).ownsRow w.heap.size 44 4 (.slice (some ⟨w.heap.size, 0, none⟩) 0 0) 0 [] := ⟨rfl, .inr ⟨_, _, _, rfl, Nat.le_refl _, heap_alloc_new w _, Nat.le_refl _, by unfold maxLen; omega, rfl, rfl⟩⟩
    have hr2 := hr.below ((Below.refl w.heap.size w).alloc (Nat.le_refl _) (.cells #[] 44))
    have hB := ((Below.refl w.heap.size w).alloc (Nat.le_refl _) (.cells #[] 44))
    clear hr hc
    have hq := eql_nil w (some a)
    go_enter Tryd.func77, Tryd.ntmps77
    go_wp2_with (at_builtin; refine wpList_app_runs _ rfl (.tmp 5) (.tmp 6) rfl w.heap.size (.slice (some ⟨w.heap.size, 0, none⟩) 0 0) _ [] l rfl rfl hu (by simp) hr2 (by simpa using hl) ?_; intro v5 w5 ho5 hg5)
    go_ret
    exact ⟨_, rfl, ho5, hB.grown hg5 (by simp) (fun k hk => by simp [Value.ownBlock] at hk; omega)⟩
end Go.Proofs.YtjimolafoihnpaaDoor

/-
  The first atoms of a document, and what is behind them.
-/
namespace Go.Proofs.YtjimolafoihnpaaDoor
open Go.WideShapes Go.RowKit Go.ChangeShapes Go.ChangeAt Go.PlainAid

theorem first_pts {s : ByteArray} (h : 0 ≤ cpl s) {n : Nat} (hn : n ≤ (cpl s).toNat) : cpl (s.extract 0 (pos s n)) = (n : Int) ∧ pts (s.extract 0 (pos s n)) = (pts s).take n := by
  have hv := cpl_valid h
  have e := part_eq (f := 0) (m := n) hv (by omega)
  rw [Nat.zero_add] at e
  have ha := (at_ptM (s := s) (f := 0) n (fun k hk => hv.1 k (by omega))).2.2
  have hc := cpl_enc ha
  have e0 : pos s 0 = 0 := rfl
  rw [e0] at e
  rw [e]
  refine ⟨by rw [hc.1, ptM_length], ?_⟩
  rw [hc.2, pts, ← ptM_zero]
  simp only [ptM, ← List.map_take, List.take_range]
  rw [Nat.min_eq_left hn]
theorem last_pts {s : ByteArray} (h : 0 ≤ cpl s) {n : Nat} (hn : n ≤ (cpl s).toNat) : cpl (s.extract (pos s n) s.size) = cpl s - n ∧ pts (s.extract (pos s n) s.size) = (pts s).drop n := by
  have hv := cpl_valid h
  have e := part_eq (f := n) (m := (cpl s).toNat - n) hv (by omega)
  rw [show n + ((cpl s).toNat - n) = (cpl s).toNat by omega, hv.2] at e
  have ha := (at_ptM (s := s) (f := n) ((cpl s).toNat - n) (fun k hk => hv.1 k (by omega))).2.2
  have hc := cpl_enc ha
  rw [e]
  refine ⟨by rw [hc.1, ptM_length]; omega, ?_⟩
  rw [hc.2, pts, ← ptM_zero]
  apply List.ext_getElem
  · simp [ptM]
  · intro i h1 h2
    simp [ptM]

/-- How many atoms a run has. -/
def RunD.k (r : RunD) : Nat := (cpl r.t).toNat
/-- Its first n atoms, or all of them. -/
def RunD.hd (r : RunD) (n : Nat) : RunD := ⟨r.c, r.q, r.f, r.t.extract 0 (pos r.t (min n (cpl r.t).toNat))⟩
/-- What is behind them. -/
def RunD.tl (r : RunD) (n : Nat) : RunD := ⟨r.c, r.q, r.f + n, r.t.extract (pos r.t (min n (cpl r.t).toNat)) r.t.size⟩
theorem hd_all {r : RunD} (h : r.Ok) {n : Nat} (hn : r.k ≤ n) : r.hd n = r := by
  have hv := cpl_valid (s := r.t) (by unfold RunD.Ok at h; omega)
  unfold RunD.k at hn
  unfold RunD.hd
  rw [Nat.min_eq_right hn, hv.2, ByteArray.extract_zero_size]
theorem tl_all {r : RunD} (h : r.Ok) {n : Nat} (hn : r.k ≤ n) : (r.tl n).t = ⟨#[]⟩ := by
  have hv := cpl_valid (s := r.t) (by unfold RunD.Ok at h; omega)
  unfold RunD.k at hn
  unfold RunD.tl
  simp only
  rw [Nat.min_eq_right hn, hv.2]
  apply ByteArray.ext
  simp
theorem hd_part {r : RunD} (h : r.Ok) {n : Nat} (hn : n ≤ r.k) : cpl (r.hd n).t = (n : Int) ∧ (r.hd n).ats = r.ats.take n := by
  have h0 : 0 ≤ cpl r.t := by unfold RunD.Ok at h; omega
  unfold RunD.k at hn
  obtain ⟨h1, h2⟩ := first_pts h0 hn
  unfold RunD.hd RunD.ats
  simp only
  rw [Nat.min_eq_left hn]
  exact ⟨h1, by rw [h2, atG_take]⟩
theorem tl_part {r : RunD} (h : r.Ok) {n : Nat} (hn : n ≤ r.k) : cpl (r.tl n).t = cpl r.t - n ∧ (r.tl n).ats = r.ats.drop n := by
  have h0 : 0 ≤ cpl r.t := by unfold RunD.Ok at h; omega
  unfold RunD.k at hn
  obtain ⟨h1, h2⟩ := last_pts h0 hn
  unfold RunD.tl RunD.ats
  simp only
  rw [Nat.min_eq_left hn]
  exact ⟨h1, by rw [h2, atG_drop _ _ _ _ _ (by have := pts_len h0; omega)]⟩
theorem tl_ok {r : RunD} (h : r.Ok) {n : Nat} (hn : n < r.k) : (r.tl n).Ok := by
  unfold RunD.Ok
  rw [(tl_part h (Nat.le_of_lt hn)).1]
  unfold RunD.k at hn
  omega
theorem hd_ok {r : RunD} (h : r.Ok) {n : Nat} (h0 : 0 < n) (hn : n ≤ r.k) : (r.hd n).Ok := by
  unfold RunD.Ok
  rw [(hd_part h hn).1]
  omega
theorem ok_size {r : RunD} (h : r.Ok) : r.t.size ≠ 0 := by
  have := (cpl_le r.t).2
  unfold RunD.Ok at h
  omega
theorem ats_k {r : RunD} (h : r.Ok) : r.ats.length = r.k := by
  have := ats_len r (by unfold RunD.Ok at h; omega)
  unfold RunD.k
  omega

/-- The runs of the first n atoms, and those behind. -/
def tkG : Nat → List RunD → List RunD × List RunD
  | _, [] => ([], [])
  | n, r :: L => if n = 0 then ([], r :: L) else if r.k ≤ n then (r :: (tkG (n - r.k) L).1, (tkG (n - r.k) L).2) else ([r.hd n], r.tl n :: L)
theorem tkG_nil (n : Nat) : tkG n [] = ([], []) := rfl
theorem tkG_zero (L : List RunD) : tkG 0 L = ([], L) := by cases L <;> simp [tkG]
theorem tkG_all {n : Nat} {r : RunD} {L : List RunD} (h0 : n ≠ 0) (h : r.k ≤ n) : tkG n (r :: L) = (r :: (tkG (n - r.k) L).1, (tkG (n - r.k) L).2) := by simp [tkG, h0, h]
theorem tkG_part {n : Nat} {r : RunD} {L : List RunD} (h0 : n ≠ 0) (h : n < r.k) : tkG n (r :: L) = ([r.hd n], r.tl n :: L) := by
  have : ¬ r.k ≤ n := by omega
  simp [tkG, h0, this]
theorem tkG_ats : ∀ (L : List RunD) (n : Nat), (∀ r ∈ L, r.Ok) → ats (tkG n L).1 = (ats L).take n ∧ ats (tkG n L).2 = (ats L).drop n ∧ (∀ r ∈ (tkG n L).1, r.Ok) ∧ (∀ r ∈ (tkG n L).2, r.Ok)
  | [], n, _ => by simp [tkG, ats]
  | r :: L, n, h => by
    have hr : r.Ok := h r (by simp)
    have hL : ∀ x ∈ L, x.Ok := fun x hx => h x (by simp [hx])
    by_cases h0 : n = 0
    · subst h0
      rw [tkG_zero]
      simp [ats_nil]
      exact ⟨hr, hL⟩
    · by_cases hk : r.k ≤ n
      · obtain ⟨a1, a2, a3, a4⟩ := tkG_ats L (n - r.k) hL
        rw [tkG_all h0 hk, ats_cons, ats_cons, a1, a2]
        have e := ats_k hr
        refine ⟨?_, ?_, ?_, a4⟩
        · rw [List.take_append, List.take_of_length_le (l := r.ats) (i := n) (by omega), e]
        · rw [List.drop_append, List.drop_of_length_le (l := r.ats) (i := n) (by omega), List.nil_append, e]
        · intro x hx
          rcases List.mem_cons.1 hx with rfl | hx
          · exact hr
          · exact a3 x hx
      · have hk' : n < r.k := by omega
        have e := ats_k hr
        rw [tkG_part h0 hk', ats_cons, ats_cons, ats_cons, ats_nil, List.append_nil, (hd_part hr (Nat.le_of_lt hk')).2, (tl_part hr (Nat.le_of_lt hk')).2]
        refine ⟨?_, ?_, ?_, ?_⟩
        · rw [List.take_append_of_le_length (by omega)]
        · rw [List.drop_append_of_le_length (by omega)]
        · intro x hx
          rw [List.mem_singleton.1 hx]
          exact hd_ok hr (by omega) (Nat.le_of_lt hk')
        · intro x hx
          rcases List.mem_cons.1 hx with rfl | hx
          · exact tl_ok hr hk'
          · exact hL x hx
end Go.Proofs.YtjimolafoihnpaaDoor

/-
  What a call leaves as it was; the rest of a document that a taker holds.
-/
namespace Go.Proofs.YtjimolafoihnpaaDoor
open Go.WideShapes Go.RowKit Go.ChangeShapes Go.ChangeAt Go.PlainAid

/-- All blocks but those of S are as they were. -/
structure Only (S : List Nat) (w w' : World) : Prop where
  os : w'.os = w.os
  tape : w'.tape = w.tape
  output : w'.output = w.output
  size : w.heap.size ≤ w'.heap.size
  block : ∀ k, k < w.heap.size → k ∉ S → w'.heap[k]? = w.heap[k]?
theorem Only.refl (S : List Nat) (w : World) : Only S w w := ⟨rfl, rfl, rfl, Nat.le_refl _, fun _ _ _ => rfl⟩
theorem Only.trans {S : List Nat} {a b c : World} (h : Only S a b) (k : Only S b c) : Only S a c :=
  ⟨k.os.trans h.os, k.tape.trans h.tape, k.output.trans h.output, Nat.le_trans h.size k.size, fun i hi hn => (k.block i (Nat.lt_of_lt_of_le hi h.size) hn).trans (h.block i hi hn)⟩
theorem Only.mono {S T : List Nat} {a b : World} (h : Only S a b) (hs : ∀ k ∈ S, k ∈ T) : Only T a b := ⟨h.os, h.tape, h.output, h.size, fun i hi hn => h.block i hi (fun hk => hn (hs i hk))⟩
theorem Only.of_grown {S : List Nat} {a b : World} {row : Option Nat} (h : a.grownBy b row) (hs : ∀ k, row = some k → k ∈ S) : Only S a b :=
  ⟨h.os, h.tape, h.output, h.size, fun i hi hn => h.block i hi (fun e => hn (hs i e.symm))⟩
theorem Only.of_below {S : List Nat} {a b : World} (h : Below a.heap.size a b) : Only S a b := ⟨h.os, h.tape, h.output, h.size, fun i hi _ => h.block i hi⟩
theorem Only.alloc (S : List Nat) (w : World) (o : Obj) : Only S w (w.alloc o) := ⟨rfl, rfl, rfl, by simp, fun k hk _ => Below.heap_alloc w o k hk⟩
theorem Only.drew (S : List Nat) (w : World) : Only S w w.drew := ⟨rfl, rfl, rfl, Nat.le_refl _, fun _ _ _ => rfl⟩
theorem Only.setCell {S : List Nat} (w : World) {p : Addr} (hp : p.block ∈ S) (v : Value) : Only S w (w.setCell p v) :=
  ⟨rfl, rfl, rfl, by simp [World.setCell], fun k _ hn => Below.heap_setCell w p v k (fun e => hn (by rw [e]; exact hp))⟩
theorem Only.below {S : List Nat} {w w' : World} (h : Only S w w') {B : Nat} (hB : B ≤ w.heap.size) (hS : ∀ k ∈ S, B ≤ k) : Below B w w' :=
  ⟨h.os, h.tape, h.output, h.size, fun k hk => h.block k (by omega) (fun hm => by have := hS k hm; omega)⟩
theorem only_heap {S : List Nat} {w w' : World} {b : Nat} {o : Obj} (h : w.heap[b]? = some o) (ho : Only S w w') (hb : b ∉ S) : w'.heap[b]? = some o := (ho.block b (heap_lt h) hb).trans h
/-- What was changed has been made since. -/
theorem Only.new {S T : List Nat} {a b c : World} (h : Only T a b) (k : Only S b c) (hs : ∀ i ∈ S, i ∈ T ∨ a.heap.size ≤ i) : Only T a c :=
  ⟨k.os.trans h.os, k.tape.trans h.tape, k.output.trans h.output, Nat.le_trans h.size k.size, fun i hi hn => (k.block i (Nat.lt_of_lt_of_le hi h.size) (fun hk => (hs i hk).elim hn (fun h => by omega))).trans (h.block i hi hn)⟩
theorem own_only {S : List Nat} {w w' : World} {B e z n : Nat} {v : Value} {l : List Value} (h : w.ownsRow B e z v n l) (ho : Only S w w') (hb : ∀ g, v.ownBlock = some g → g ∉ S) : w'.ownsRow B e z v n l := by
  obtain ⟨h1, h2⟩ := h
  refine ⟨h1, ?_⟩
  rcases h2 with h2 | ⟨g, cap, cur, rfl, b, c, d⟩
  · exact .inl h2
  · exact .inr ⟨g, cap, cur, rfl, b, only_heap c ho (hb g rfl), d⟩


theorem sizeRun (W : World) : (sizeOf 44).run Tryd.prog W = .ok 4 W := by
  obtain ⟨i0, hi, hz0, hz1, hz2⟩ := info_parts Tryd.infoRun
  simp [sizeOf, typeInfo, hi, hz1]
theorem addr4 (b o j : Nat) : (⟨b, o, none⟩ : Addr).add j = ⟨b, o + j, none⟩ := by unfold Addr.add; split <;> simp_all
/-- A document stays where its block stays. -/
theorem rdn_only {S : List Nat} {w w' : World} {v : Value} {l : List RunD} (h : RdN w v l) (ho : Only S w w') (hb : l ≠ [] → ∀ g, v.ownBlock = some g → g ∉ S) : RdN w' v l := by
  obtain ⟨ao, cp, rfl, h0, h1⟩ := h
  refine ⟨ao, cp, rfl, h0, fun i o hi => ?_⟩
  obtain ⟨b, off, rfl, hl, c0, c1, c2, c3⟩ := h1 i o hi
  have hbl := ho.block b hl (hb (fun e => by rw [e] at hi; simp at hi) b rfl)
  have hc : ∀ j, w'.cell? ⟨b, j, none⟩ = w.cell? ⟨b, j, none⟩ := fun j => by unfold World.cell?; rw [hbl]
  exact ⟨b, off, rfl, Nat.lt_of_lt_of_le hl ho.size, (hc _).trans c0, (hc _).trans c1, (hc _).trans c2, (hc _).trans c3⟩

set_option maxRecDepth 20000 in
/-- All of a document but its first run. -/
theorem rdn_tail {W : World} {v : Value} {x : RunD} {l : List RunD} (h : RdN W v (x :: l)) : ∃ (b o cp : Nat) (v' : Value), v = .slice (some ⟨b, o, none⟩) (l.length + 1) cp ∧ b < W.heap.size ∧
    W.cell? ⟨b, o, none⟩ = some (.int .i64 x.c) ∧ W.cell? ⟨b, o + 1, none⟩ = some (.int .i64 x.q) ∧ W.cell? ⟨b, o + 2, none⟩ = some (.int .i64 x.f) ∧ W.cell? ⟨b, o + 3, none⟩ = some (.string x.t) ∧
    (∀ W' : World, (Instr.slice 22 v (some (.int .i64 1)) none none).run Tryd.prog W' = .ok v' W') ∧ RdN W v' l ∧ v'.ownBlock = some b := by
  obtain ⟨ao, cp, rfl, hcp, h1⟩ := h
  obtain ⟨b, o, rfl, hl, c0, c1, c2, c3⟩ := h1 0 x (by simp)
  rw [List.length_cons] at *
  simp only [Nat.zero_mul, Nat.add_zero] at c0 c1 c2 c3
  have e : Tryd.prog.elem 22 = 44 := by kernel_rfl
  have hsl : ∀ W' : World, (Instr.slice 22 (.slice (some ⟨b, o, none⟩) (l.length + 1) cp) (some (.int .i64 1)) none none).run Tryd.prog W' = .ok (sliced (some ⟨b, o, none⟩) 1 (l.length + 1) cp 4) W' := fun W' => by
    rw [run_slice_l (P := Tryd.prog) W' 22 (some ⟨b, o, none⟩) (l.length + 1) cp Tryd.underlying22 .i64 1 (by omega) (by omega), e, sizeRun]
    rfl
  by_cases c : cp = 1
  · subst c
    have hl0 : l = [] := List.eq_nil_of_length_eq_zero (by omega)
    subst hl0
    exact ⟨b, o, 1, _, rfl, hl, c0, c1, c2, c3, hsl, ⟨some ⟨b, o, none⟩, 0, rfl, Nat.le_refl _, fun i o h => by simp at h⟩, rfl⟩
  · have es : sliced (some ⟨b, o, none⟩) 1 (l.length + 1) cp 4 = .slice (some ⟨b, o + 4, none⟩) l.length (cp - 1) := by
      unfold sliced
      rw [if_neg c]
      simp [addr4]
    rw [es] at hsl
    refine ⟨b, o, cp, _, rfl, hl, c0, c1, c2, c3, hsl, ⟨some ⟨b, o + 4, none⟩, cp - 1, rfl, by omega, fun i y hi => ?_⟩, rfl⟩
    obtain ⟨b', o', e', _, d0, d1, d2, d3⟩ := h1 (i + 1) y (by simpa using hi)
    simp at e'
    obtain ⟨rfl, rfl⟩ := e'
    have e3 : o + (i + 1) * 4 = o + 4 + i * 4 := by omega
    rw [e3] at d0 d1 d2 d3
    exact ⟨b, o + 4, rfl, hl, d0, d1, d2, d3⟩
theorem cell_off {W : World} {b i j : Nat} {v : Value} (h : i ≠ j) : (W.setCell ⟨b, i, none⟩ v).cell? ⟨b, j, none⟩ = W.cell? ⟨b, j, none⟩ := by
  have hn : (⟨b, i, none⟩ : Addr) ≠ ⟨b, j, none⟩ := fun e => h (by injection e)
  first | exact World.cell?_setCell_other _ hn | exact World.cell?_setCell_other _ _ hn | exact World.cell?_setCell_other _ _ _ hn | exact World.cell?_setCell_other _ _ _ _ hn
theorem cell_same {W : World} {b i : Nat} {u v : Value} (h : W.cell? ⟨b, i, none⟩ = some u) : (W.setCell ⟨b, i, none⟩ v).cell? ⟨b, i, none⟩ = some v := by
  first | exact World.cell?_setCell_same _ h | exact World.cell?_setCell_same _ _ h | exact World.cell?_setCell_same _ _ _ h
/-- Its first run stored. -/
theorem rdn_put {W : World} {b o n cp : Nat} {x y : RunD} {l : List RunD} (h : RdN W (.slice (some ⟨b, o, none⟩) n cp) (x :: l)) :
    RdN ((((W.setCell ⟨b, o, none⟩ (.int .i64 y.c)).setCell ⟨b, o + 1, none⟩ (.int .i64 y.q)).setCell ⟨b, o + 2, none⟩ (.int .i64 y.f)).setCell ⟨b, o + 3, none⟩ (.string y.t)) (.slice (some ⟨b, o, none⟩) n cp) (y :: l) := by
  obtain ⟨ao, cp', e, hcp, h1⟩ := h
  injection e with e1 e2 e3
  subst e1 e3
  refine ⟨_, _, by rw [e2, List.length_cons, List.length_cons], by simpa using hcp, fun i r hr => ⟨b, o, rfl, ?_⟩⟩
  have hs : ((((W.setCell ⟨b, o, none⟩ (.int .i64 y.c)).setCell ⟨b, o + 1, none⟩ (.int .i64 y.q)).setCell ⟨b, o + 2, none⟩ (.int .i64 y.f)).setCell ⟨b, o + 3, none⟩ (.string y.t)).heap.size = W.heap.size := by simp [World.setCell]
  obtain ⟨b0, o0, e0, hb0, c0, c1, c2, c3⟩ := h1 0 x (by simp)
  injection e0 with e0
  injection e0 with e4 e5
  subst e4 e5
  simp only [Nat.zero_mul, Nat.add_zero] at c0 c1 c2 c3
  rw [hs]
  refine ⟨hb0, ?_⟩
  cases i with
  | zero =>
    simp at hr
    subst hr
    simp only [Nat.zero_mul, Nat.add_zero]
    refine ⟨?_, ?_, ?_, ?_⟩
    · rw [cell_off (by omega), cell_off (by omega), cell_off (by omega)]
      exact cell_same c0
    · rw [cell_off (by omega), cell_off (by omega)]
      exact cell_same (by rw [cell_off (by omega)]; exact c1)
    · rw [cell_off (by omega)]
      exact cell_same (by rw [cell_off (by omega), cell_off (by omega)]; exact c2)
    · exact cell_same (by rw [cell_off (by omega), cell_off (by omega), cell_off (by omega)]; exact c3)
  | succ i =>
    obtain ⟨b1, o1, e1, _, d0, d1, d2, d3⟩ := h1 (i + 1) r (by simpa using hr)
    injection e1 with e1
    injection e1 with e6 e7
    subst e6 e7
    refine ⟨?_, ?_, ?_, ?_⟩ <;> rw [cell_off (by omega), cell_off (by omega), cell_off (by omega), cell_off (by omega)] <;> assumption

/-- What a taker holds: the cell p, in it the rest L, in a block g of its own. -/
structure Tk (W : World) (p g : Nat) (v : Value) (L : List RunD) : Prop where
  c : W.heap[p]? = some (.cells #[v] 22 (0, 0))
  r : RdN W v L
  b : L ≠ [] → v.ownBlock = some g ∧ ∃ arr, W.heap[g]? = some (.cells arr 44 (0, 0))
theorem Tk.ne {W : World} {p g : Nat} {v : Value} {L : List RunD} (h : Tk W p g v L) (hL : L ≠ []) : p ≠ g := by
  intro e
  obtain ⟨_, arr, ha⟩ := h.b hL
  have := h.c
  rw [e, ha] at this
  injection this with this
  injection this with _ h2
  exact absurd h2 (by decide)
theorem Tk.only {W W' : World} {p g : Nat} {v : Value} {L : List RunD} {S : List Nat} (h : Tk W p g v L) (ho : Only S W W') (hp : p ∉ S) (hg : g ∉ S) : Tk W' p g v L :=
  ⟨only_heap h.c ho hp, rdn_only h.r ho (fun hL x hx => by have := (h.b hL).1; rw [this] at hx; injection hx with hx; rw [← hx]; exact hg), fun hL => ⟨(h.b hL).1, by obtain ⟨arr, ha⟩ := (h.b hL).2; exact ⟨arr, only_heap ha ho hg⟩⟩⟩
/-- Its first run is gone. -/
theorem Tk.pop {W : World} {p g : Nat} {v v' : Value} {x : RunD} {L : List RunD} (h : Tk W p g v (x :: L)) (hr : RdN W v' L) (hb : v'.ownBlock = v.ownBlock) : Tk (W.setCell ⟨p, 0, none⟩ v') p g v' L := by
  have hO : Only [p] W (W.setCell ⟨p, 0, none⟩ v') := Only.setCell W (by simp) _
  have hn := h.ne (by simp)
  obtain ⟨h1, arr, ha⟩ := h.b (by simp)
  refine ⟨heap_setCell h.c 0 v', rdn_only hr hO (fun _ x hx => ?_), fun hL => ⟨hb.trans h1, arr, only_heap ha hO (by simp; exact fun e => hn e.symm)⟩⟩
  rw [hb, h1] at hx
  injection hx with hx
  rw [← hx]
  simp
  exact fun e => hn e.symm
end Go.Proofs.YtjimolafoihnpaaDoor

/-
  The contract of what taker answers.
-/
namespace Go.Proofs.YtjimolafoihnpaaDoor
open Go.WideShapes Go.RowKit Go.ChangeShapes Go.ChangeAt Go.PlainAid

/-- A run of a document that may be. -/
structure RunD.Fit (r : RunD) : Prop where
  ok : r.Ok
  f0 : 0 ≤ r.f
  fk : r.f + r.k ≤ 1000000
  sz : r.t.size ≤ 1125899906842624
/-- The taker on its way. -/
structure TI (w wr : World) (p g n m : Nat) (L T L' : List RunD) (v u : Value) : Prop where
  eq : tkG n L = (T ++ (tkG m L').1, (tkG m L').2)
  own : wr.ownsRow w.heap.size 44 4 u T.length (rcs T)
  tk : Tk wr p g v L'
  on : Only [p, g] w wr
  fit : ∀ r ∈ L', r.Fit
  mn : m ≤ n
  ln : m ≠ 0 → T.length + L'.length ≤ L.length

theorem rdn_new (W : World) (x : RunD) : RdN (W.alloc (.cells #[.int .i64 x.c, .int .i64 x.q, .int .i64 x.f, .string x.t] 44)) (.slice (some ⟨W.heap.size, 0, none⟩) 1 1) [x] := by
  refine ⟨_, 1, rfl, Nat.le_refl _, fun i r hr => ⟨W.heap.size, 0, rfl, by simp, ?_⟩⟩
  have h : RB (W.alloc (.cells #[.int .i64 x.c, .int .i64 x.q, .int .i64 x.f, .string x.t] 44)) W.heap.size x := heap_alloc_new W _
  cases i with
  | zero => simp at hr; subst hr; simp only [Nat.zero_mul, Nat.add_zero]; exact h.cells
  | succ i => simp at hr
theorem rb_only {S : List Nat} {W W' : World} {b : Nat} {x : RunD} (h : RB W b x) (ho : Only S W W') (hb : b ∉ S) : RB W' b x := only_heap h ho hb
def c4 (x : RunD) : Obj := .cells #[.int .i64 x.c, .int .i64 x.q, .int .i64 x.f, .string x.t] 44
/-- Behind the append of a run. -/
structure TA (w W : World) (p g s : Nat) (T L' : List RunD) (x y : RunD) (v u : Value) : Prop where
  own : W.ownsRow w.heap.size 44 4 u (T ++ [x]).length (rcs (T ++ [x]))
  tk : Tk W p g v L'
  on : Only [p, g] w W
  bx : RB W s x
  bY : RB W (s + 1) y
theorem TI.src {w wr w1 : World} {p g n m : Nat} {L T L' : List RunD} {v u : Value} {x y : RunD} (h : TI w wr p g n m L T L' v u) (hb : Below wr.heap.size wr w1) :
    (((w1.alloc (c4 x)).alloc (c4 y)).alloc (c4 x)).ownsRow w.heap.size 44 4 u T.length (rcs T) ∧ w.heap.size ≤ (((w1.alloc (c4 x)).alloc (c4 y)).alloc (c4 x)).heap.size ∧ RdN (((w1.alloc (c4 x)).alloc (c4 y)).alloc (c4 x)) (.slice (some ⟨w1.heap.size + 1 + 1, 0, none⟩) 1 1) [x] := by
  have hs := h.on.size
  have hs1 := hb.size
  refine ⟨((own_belowG h.own hb).alloc _ |>.alloc _).alloc _, by simp; omega, ?_⟩
  have := rdn_new ((w1.alloc (c4 x)).alloc (c4 y)) x
  rw [World.size_alloc, World.size_alloc] at this
  exact this
theorem TI.app {w wr w1 w5 : World} {p g n m : Nat} {L T L' : List RunD} {v u u5 : Value} {x y : RunD} (h : TI w wr p g n m L T L' v u) (hb : Below wr.heap.size wr w1) (hp : p < w.heap.size) (hg : g < w.heap.size)
    (ho : w5.ownsRow w.heap.size 44 4 u5 (T ++ [x]).length (rcs (T ++ [x]))) (hgr : (((w1.alloc (c4 x)).alloc (c4 y)).alloc (c4 x)).grownBy w5 u.ownBlock) : TA w w5 p g w1.heap.size T L' x y v u5 := by
  have hs := h.on.size
  have hs1 := hb.size
  have hu : ∀ k, u.ownBlock = some k → w.heap.size ≤ k ∧ k < wr.heap.size := fun k hk => h.own.lt k hk
  have o1 : Only [] wr (((w1.alloc (c4 x)).alloc (c4 y)).alloc (c4 x)) := (((Only.of_below hb).trans (Only.alloc _ _ _)).trans (Only.alloc _ _ _)).trans (Only.alloc _ _ _)
  have o2 : Only u.ownBlock.toList (((w1.alloc (c4 x)).alloc (c4 y)).alloc (c4 x)) w5 := Only.of_grown hgr (fun k hk => by simp [hk])
  have hni : ∀ k, (k < w.heap.size ∨ wr.heap.size ≤ k) → k ∉ u.ownBlock.toList := fun k hk hm => by
    simp only [Option.mem_toList] at hm
    have := hu k hm
    omega
  have hx : RB (((w1.alloc (c4 x)).alloc (c4 y)).alloc (c4 x)) w1.heap.size x := (Below.heap_alloc _ _ _ (by simp; omega)).trans ((Below.heap_alloc _ _ _ (by simp)).trans (heap_alloc_new w1 _))
  have hy : RB (((w1.alloc (c4 x)).alloc (c4 y)).alloc (c4 x)) (w1.heap.size + 1) y := by
    have := heap_alloc_new (w1.alloc (c4 x)) (c4 y)
    rw [World.size_alloc] at this
    exact (Below.heap_alloc _ _ _ (by simp)).trans this
  exact ⟨ho, (h.tk.only o1 (by simp) (by simp)).only o2 (hni _ (by omega)) (hni _ (by omega)), (h.on.trans (o1.mono (by simp))).new o2 (fun k hk => by simp only [Option.mem_toList] at hk; exact .inr (hu k hk).1), rb_only hx o2 (hni _ (by omega)), rb_only hy o2 (hni _ (by omega))⟩
theorem TA.below {w W W' : World} {p g s : Nat} {T L' : List RunD} {x y : RunD} {v u : Value} (h : TA w W p g s T L' x y v u) (hb : Below W.heap.size W W') : TA w W' p g s T L' x y v u :=
  ⟨own_belowG h.own hb, h.tk.only (Only.of_below (S := []) hb) (by simp) (by simp), h.on.trans (Only.of_below hb), h.bx.below hb, h.bY.below hb⟩
theorem TA.pop {w W : World} {p g s n m : Nat} {L T R : List RunD} {r y : RunD} {v v2 u : Value} (h : TA w W p g s T (r :: R) r y v u) (hp : p < w.heap.size) (he : tkG n L = (T ++ (tkG m (r :: R)).1, (tkG m (r :: R)).2)) (hm : m ≠ 0) (hk : r.k ≤ m) (hr : RdN W v2 R) (hb : v2.ownBlock = v.ownBlock) (hf : ∀ x ∈ r :: R, x.Fit) (hmn : m ≤ n) (hl : T.length + (r :: R).length ≤ L.length) :
    TI w (W.setCell ⟨p, 0, none⟩ v2) p g n (m - r.k) L (T ++ [r]) R v2 u := by
  have hO : Only [p] W (W.setCell ⟨p, 0, none⟩ v2) := Only.setCell W (by simp) _
  refine ⟨?_, own_only h.own hO (fun k hk => ?_), h.tk.pop hr hb, h.on.trans (hO.mono (by simp)), fun x hx => hf x (by simp [hx]), by omega, fun _ => ?_⟩
  · rw [he, tkG_all hm hk]
    simp
  · have := (h.own.lt k hk).1
    simp
    omega
  · simp at hl ⊢
    omega

theorem tl_fit {r : RunD} (h : r.Fit) {m : Nat} (hm : m < r.k) : (r.tl m).Fit := by
  refine ⟨tl_ok h.ok hm, ?_, ?_, ?_⟩
  · show 0 ≤ r.f + m
    have := h.f0
    omega
  · have e := (tl_part h.ok (Nat.le_of_lt hm)).1
    have : (r.tl m).k = (cpl r.t - m).toNat := by unfold RunD.k; rw [e]
    rw [this]
    show r.f + m + _ ≤ _
    have := h.fk
    unfold RunD.k at this hm
    omega
  · have := h.sz
    show (r.t.extract _ _).size ≤ _
    simp
    omega
theorem ok_list {r : RunD} (h : r.Ok) : r.t.toList.isEmpty = false := by
  have h1 := ok_size h
  rw [Go.ByteArray.toList_eq]
  cases hd : r.t.data.toList with
  | nil =>
    have : r.t.size = r.t.data.toList.length := by show r.t.data.size = _; rw [Array.length_toList]
    rw [hd] at this
    exact absurd this h1
  | cons a l => rfl
theorem hd_size (r : RunD) (m : Nat) : (r.hd m).t.size ≤ r.t.size := by
  show (r.t.extract _ _).size ≤ _
  simp
  omega
theorem TA.put {w W : World} {p g s n m o N cp : Nat} {L T R : List RunD} {r : RunD} {u : Value} (h : TA w W p g s T (r :: R) (r.hd m) (r.tl m) (.slice (some ⟨g, o, none⟩) N cp) u) (hg : g < w.heap.size) (he : tkG n L = (T ++ (tkG m (r :: R)).1, (tkG m (r :: R)).2)) (hm : m ≠ 0) (hk : m < r.k) (hf : ∀ x ∈ r :: R, x.Fit) :
    TI w ((((W.setCell ⟨g, o, none⟩ (.int .i64 (r.tl m).c)).setCell ⟨g, o + 1, none⟩ (.int .i64 (r.tl m).q)).setCell ⟨g, o + 2, none⟩ (.int .i64 (r.tl m).f)).setCell ⟨g, o + 3, none⟩ (.string (r.tl m).t)) p g n 0 L (T ++ [r.hd m]) (r.tl m :: R) (.slice (some ⟨g, o, none⟩) N cp) u := by
  have hO : Only [g] W ((((W.setCell ⟨g, o, none⟩ (.int .i64 (r.tl m).c)).setCell ⟨g, o + 1, none⟩ (.int .i64 (r.tl m).q)).setCell ⟨g, o + 2, none⟩ (.int .i64 (r.tl m).f)).setCell ⟨g, o + 3, none⟩ (.string (r.tl m).t)) :=
    (((Only.setCell W (by simp) _).trans (Only.setCell _ (by simp) _)).trans (Only.setCell _ (by simp) _)).trans (Only.setCell _ (by simp) _)
  have hn := h.tk.ne (by simp)
  obtain ⟨-, arr, ha⟩ := h.tk.b (by simp)
  refine ⟨?_, own_only h.own hO (fun k hk => ?_), ⟨only_heap h.tk.c hO (by simp; exact hn), rdn_put h.tk.r, fun _ => ⟨rfl, _, heap_setCell (heap_setCell (heap_setCell (heap_setCell ha o _) (o + 1) _) (o + 2) _) (o + 3) _⟩⟩, h.on.trans (hO.mono (by simp)), fun x hx => ?_, by omega, fun h => absurd rfl h⟩
  · rw [he, tkG_part hm hk, tkG_zero]
    simp
  · have := (h.own.lt k hk).1
    simp
    omega
  · rcases List.mem_cons.1 hx with rfl | hx
    · exact tl_fit (hf r (by simp)) hk
    · exact hf x (by simp [hx])

set_option maxRecDepth 20000 in
set_option maxHeartbeats 1000000 in
theorem taken_any (w0 : World) (hV : VS w0) (p g n : Nat) (v : Value) (L : List RunD) (w : World) (hB : Below w0.heap.size w0 w) (hp : w0.heap.size ≤ p) (hg : w0.heap.size ≤ g ∧ g < w.heap.size) (hT : Tk w p g v L) (hF : ∀ r ∈ L, r.Fit) (hn : n ≤ 1000000) (hl : L.length ≤ 1000000) :
    Calls Tryd.prog 78 #[.int .i64 (n : Int), .pointer (some ⟨p, 0, none⟩)] w fun e w' => ∃ u v', e = .returned u ∧ w'.ownsRow w.heap.size 44 4 u (tkG n L).1.length (rcs (tkG n L).1) ∧ Tk w' p g v' (tkG n L).2 ∧ Only [p, g] w w' ∧ ∀ r ∈ (tkG n L).2, r.Fit := by
  have hpl := heap_lt hT.c
  have hI : TI w w p g n n L [] L v (.slice none 0 0) := ⟨by simp, World.ownsRow_nil _ _ _ _, hT, Only.refl _ _, hF, Nat.le_refl _, fun _ => by simp⟩
  clear hT hF
  go_enter Tryd.func78, Tryd.ntmps78
  go_wp2_with fail
  go_loopw [0, 4] (fun i u wr => ∃ (m : Nat) (T L' : List RunD) (v' : Value), i = .int .i64 (m : Int) ∧ TI w wr p g n m L T L' v' u) (fun i _ _ => (intOf i).toNat)
  case atStart => exact ⟨n, [], L, v, rfl, hI⟩
  case round =>
    obtain ⟨m, T, L', v', rfl, hJ⟩ := hrel
    clear hI
    have hc := cell_of_row _ _ 0 _ _ (0, 0) hJ.tk.c
    simp at hc
    obtain ⟨a1, cp1, rfl⟩ := own_form hJ.own
    by_cases hm : m = 0
    · subst hm
      have e := hJ.eq
      rw [tkG_zero, List.append_nil] at e
      have h1 : Hid ((tkG n L).1 = T ∧ (tkG n L).2 = L') := ⟨by rw [e], by rw [e]⟩
      clear e
      go_wp2_with fail
      go_ret
      rw [h1.out.1, h1.out.2]
      exact ⟨_, _, rfl, hJ.own, hJ.tk, hJ.on, hJ.fit⟩
    · have hm' : 0 < (m : Int) := by omega
      cases L' with
      | nil =>
        have e := hJ.eq
        rw [tkG_nil, List.append_nil] at e
        have h1 : Hid ((tkG n L).1 = T ∧ (tkG n L).2 = []) := ⟨by rw [e], by rw [e]⟩
        clear e
        obtain ⟨a2, cp2, hv2, -⟩ := id hJ.tk.r
        subst hv2
        go_wp2_with fail
        go_ret
        rw [h1.out.1, h1.out.2]
        exact ⟨_, _, rfl, hJ.own, hJ.tk, hJ.on, fun r h => by simp at h⟩
      | cons r R =>
        obtain ⟨b, o, cp, v2, hv, hbl, c0, c1, c2, c3, hsl, hr', hob⟩ := rdn_tail hJ.tk.r
        subst hv
        obtain ⟨hbg, arr, harr⟩ := hJ.tk.b (by simp)
        have hbg' : b = g := by simpa [Value.ownBlock] using hbg
        subst hbg'
        have hf := hJ.fit r (by simp)
        have h0 : 0 ≤ cpl r.t := by have := hf.ok; unfold RunD.Ok at this; omega
        have hmn := hJ.mn
        have hfk := hf.fk
        have hsp := split_any r m wr h0 (by omega) ⟨hf.f0, by omega⟩
        have hsp2 : Calls Tryd.prog 79 #[r.v, .int .i64 (m : Int)] wr fun e w' => e = .returned (.tuple #[(r.hd m).v, (r.tl m).v]) ∧ Below wr.heap.size wr w' := hsp
        clear hsp
        by_cases hk : r.k ≤ m
        · have hx1 : Hid (r.hd m = r) := hd_all hf.ok hk
          have hy1 : (r.tl m).t = ⟨#[]⟩ := tl_all hf.ok hk
          rw [hx1.out] at hsp2
          generalize r.tl m = y at *
          unfold RunD.v at hsp2
          have hcn : ∀ W, Below w0.heap.size w0 W → Calls Tryd.prog 43 #[.string r.t] W fun e w' => e = .returned (.int .i64 (cpl r.t)) ∧ Below W.heap.size W w' := fun W hW => count_any r.t W (hV.below hW) hf.sz
          have hck : cpl r.t = (r.k : Int) := by unfold RunD.k; omega
          have hTl := hJ.ln hm
          simp only [List.length_cons] at hTl
          obtain ⟨a2, cp2, hv2, -⟩ := id hr'
          subst hv2
          go_wp2_with (first | (go_at_call 79; refine hsp2.mono ?_; rintro e w1 ⟨rfl, hb1⟩; obtain ⟨k1, k2, k3⟩ := hJ.src (x := r) (y := y) hb1; unfold c4 at k1 k2 k3; rw [hy1] at k1 k2 k3) | (at_builtin; refine wpList_app_runs _ rfl (.tmp 22) (.tmp 24) rfl w.heap.size _ _ T [r] rfl rfl k1 k2 k3 (by simp; omega) ?_; intro v5 w5 ho5 hg5; have hA := hJ.app (y := y) hb1 hpl hg.2 ho5 (by unfold c4; rw [hy1]; exact hg5); obtain ⟨a5, c5, rfl⟩ := own_form ho5; clear k1 k2 k3 hg5 ho5; obtain ⟨q0, q1, q2, q3⟩ := hA.bx.cells; have hBl := hB.trans (hA.on.below hB.size (by simp; omega))) | (go_at_call 43; refine (hcn _ hBl).mono ?_; rintro e w6 ⟨rfl, hb6⟩; rw [hck]; have hA6 := hA.below hb6; obtain ⟨z0, z1, z2, z3⟩ := hA6.bY.cells; rw [hy1] at z3; have p6 := cell_of_row _ _ 0 _ _ (0, 0) hA6.tk.c; simp at p6; have f6 := frz hA6.tk.c 0))
          obtain ⟨b', o', cp', v3, e1, -, -, -, -, -, hsl3, hr6, hob6⟩ := rdn_tail hA6.tk.r
          have e3 : v3 = .slice a2 R.length cp2 := by
            have := (hsl3 w6).symm.trans (hsl w6)
            injection this
          subst e3
          have hfin := hA6.pop hpl hJ.eq hm hk hr6 hob hJ.fit hJ.mn (by simpa using hTl)
          rw [show (T ++ [r]).length = T.length + 1 by simp] at hfin
          have hk0 : 0 < r.k := by have := hf.ok; unfold RunD.Ok at this; omega
          refine ⟨⟨m - r.k, T ++ [r], R, _, by congr 1; omega, hfin⟩, ?_⟩
          simp [intOf]
          omega
        · have hk' : m < r.k := by omega
          have hcx := (hd_part hf.ok (Nat.le_of_lt hk')).1
          have hsx := hd_size r m
          have hsz := hf.sz
          have hye := ok_list (tl_ok hf.ok hk')
          have hcn : ∀ W, Below w0.heap.size w0 W → Calls Tryd.prog 43 #[.string (r.hd m).t] W fun e w' => e = .returned (.int .i64 (m : Int)) ∧ Below W.heap.size W w' := fun W hW => by have := count_any (r.hd m).t W (hV.below hW) (by omega); rwa [hcx] at this
          have hTl := hJ.ln hm
          simp only [List.length_cons] at hTl
          have hP : ∀ W s u, TA w W p b s T (r :: R) (r.hd m) (r.tl m) (.slice (some ⟨b, o, none⟩) (R.length + 1) cp) u → _ := fun W s u h => h.put hg.2 hJ.eq hm hk' hJ.fit
          have hsrc : ∀ w1, Below wr.heap.size wr w1 → _ := fun w1 h => hJ.src (x := r.hd m) (y := r.tl m) h
          have happ : ∀ w1 w5 u5, Below wr.heap.size wr w1 → _ → _ → _ := fun w1 w5 u5 hb1 ho hg5 => hJ.app (w1 := w1) (w5 := w5) (u5 := u5) (x := r.hd m) (y := r.tl m) hb1 hpl hg.2 ho hg5
          unfold RunD.v at hsp2
          unfold c4 at hsrc happ
          generalize r.hd m = x at *
          generalize r.tl m = y at *
          go_wp2_with (first | (go_at_call 79; refine hsp2.mono ?_; rintro e w1 ⟨rfl, hb1⟩; obtain ⟨k1, k2, k3⟩ := hsrc w1 hb1) | (at_builtin; refine wpList_app_runs _ rfl (.tmp 22) (.tmp 24) rfl w.heap.size _ _ T [x] rfl rfl k1 k2 k3 (by simp; omega) ?_; intro v5 w5 ho5 hg5; have hA := happ w1 w5 v5 hb1 ho5 hg5; obtain ⟨a5, c5, rfl⟩ := own_form ho5; clear k1 k2 k3 hg5 ho5; obtain ⟨q0, q1, q2, q3⟩ := hA.bx.cells; have hBl := hB.trans (hA.on.below hB.size (by simp; omega))) | (go_at_call 43; refine (hcn _ hBl).mono ?_; rintro e w6 ⟨rfl, hb6⟩; have hA6 := hA.below hb6; obtain ⟨z0, z1, z2, z3⟩ := hA6.bY.cells; have p6 := cell_of_row _ _ 0 _ _ (0, 0) hA6.tk.c; simp at p6; obtain ⟨b', o', cp', v3, e1, -, t0, t1, t2, t3, -, -, -⟩ := rdn_tail hA6.tk.r; injection e1 with e1 e4 e5; injection e1 with e1; injection e1 with e1 e6; subst e1 e6; obtain ⟨-, arr6, ha6⟩ := hA6.tk.b (by simp); have f0 := frz ha6 o; have f1 := frz ha6 (o + 1); have f2 := frz ha6 (o + 2); have f3 := frz ha6 (o + 3)))
          have hfin := hP w6 w1.heap.size _ hA6
          rw [show (T ++ [x]).length = T.length + 1 by simp] at hfin
          refine ⟨⟨0, T ++ [x], y :: R, _, rfl, hfin⟩, ?_⟩
          simp [intOf]
          omega
end Go.Proofs.YtjimolafoihnpaaDoor

/-
  The contract of taker.
-/
namespace Go.Proofs.YtjimolafoihnpaaDoor
open Go.WideShapes Go.RowKit Go.ChangeShapes Go.ChangeAt Go.PlainAid

theorem tk_new {w w1 : World} {u : Value} {l : List RunD} (ho : w1.ownsRow w.heap.size 44 4 u l.length (rcs l)) (hb : Below w.heap.size w w1) :
    ∃ g, Tk (w1.alloc (.cells #[u] 22)) w1.heap.size g u l ∧ w.heap.size ≤ g ∧ g < (w1.alloc (.cells #[u] 22)).heap.size := by
  have hc : (w1.alloc (.cells #[u] 22)).heap[w1.heap.size]? = some (.cells #[u] 22 (0, 0)) := heap_alloc_new w1 _
  have hr : RdN (w1.alloc (.cells #[u] 22)) u l := rdn_own (ho.alloc _)
  have hs := hb.size
  rcases (ho.alloc (.cells #[u] 22)).2 with ⟨_, h0⟩ | ⟨g, cap, cur, hu, hbg, hg, _⟩
  · have : l = [] := List.eq_nil_of_length_eq_zero h0
    exact ⟨w1.heap.size, ⟨hc, hr, fun h => absurd this h⟩, hs, by simp⟩
  · exact ⟨g, ⟨hc, hr, fun _ => ⟨by rw [hu]; rfl, _, hg⟩⟩, hbg, heap_lt hg⟩

set_option maxRecDepth 20000 in
set_option maxHeartbeats 1000000 in
theorem taker_any (v : Value) (l : List RunD) (w : World) (hr : RdN w v l) (hl : l.length ≤ 3298534883328) :
    Calls Tryd.prog 48 #[v] w fun e w' => ∃ p g u, e = .returned (.func (.func 78) #[] #[.pointer (some ⟨p, 0, none⟩)]) ∧ Tk w' p g u l ∧ w.heap.size ≤ p ∧ w.heap.size ≤ g ∧ g < w'.heap.size ∧ Below w.heap.size w w' := by
  have hc := clone_any v l w hr hl
  have hmf : ∀ (fn : Fn) (first cap : Array Value) (w : World), (Instr.makeFunc fn first cap).run Tryd.prog w = .ok (.func fn first cap) w := fun _ _ _ _ => rfl
  obtain ⟨ao, cp, hv, -⟩ := id hr
  subst hv
  clear hr
  go_enter Tryd.func48, Tryd.ntmps48
  go_wp2_with (go_at_call 77; refine hc.mono ?_; rintro e w1 ⟨u, rfl, ho1, hb1⟩; obtain ⟨a1, c1, rfl⟩ := own_form ho1; obtain ⟨g, h1, h2, h3⟩ := tk_new ho1 hb1)
  go_ret
  exact ⟨_, g, _, rfl, h1, hb1.size, h2, h3, hb1.alloc hb1.size _⟩
end Go.Proofs.YtjimolafoihnpaaDoor
