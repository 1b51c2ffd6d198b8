/-
  The reference's net in the world; the contracts of its Len, All and Send.
-/
import Derived.Test.YtdkhfehoohiflaaNtL
import Derived.Maps.AppendAt
namespace Go.Proofs.Ytdkhfehoohiflaa.nt
open Go.Maps Go.WideShapes Go.RowKit Go.ChangeShapes Go.ChangeAt Go.PlainAid

/-- The reference's net: its block, its room, its row as a value, its letters. -/
structure RfS where
  p : Nat
  room : Int
  u : Value
  L : List LtD
def RfS.N (R : RfS) : NtS := ⟨R.p, 0, R.room, R.u, R.L, 0⟩
def RfS.bl (R : RfS) : List Nat := R.p :: R.u.ownBlock.toList
structure IsRf (W : World) (R : RfS) : Prop where
  bx : W.heap[R.p]? = some (.cells #[.int .i64 R.room, R.u] 62)
  row : W.ownsRow 0 37 2 R.u R.L.length (lcs R.L)
  rm : 1 ≤ R.room ∧ R.room ≤ 3000
  len : (R.L.length : Int) ≤ R.room
theorem IsRf.only {S : List Nat} {W W' : World} {R : RfS} (h : IsRf W R) (ho : Only S W W') (hd : ∀ b ∈ R.bl, b ∉ S) : IsRf W' R :=
  ⟨only_heap h.bx ho (hd _ (by simp [RfS.bl])), own_only h.row ho (fun g hg => hd g (by simp [RfS.bl, hg])), h.rm, h.len⟩
theorem IsRf.below {W W' : World} {R : RfS} (h : IsRf W R) (hb : Below W.heap.size W W') : IsRf W' R := h.only (Only.of_below (S := []) hb) (by simp)
theorem IsRf.lt {W : World} {R : RfS} (h : IsRf W R) : ∀ b ∈ R.bl, b < W.heap.size := by
  intro b hb
  simp only [RfS.bl, List.mem_cons, Option.mem_toList] at hb
  rcases hb with rfl | hb
  · exact heap_lt h.bx
  · exact (h.row.lt b hb).2
theorem IsRf.apart {W : World} {R : RfS} (h : IsRf W R) : R.u.ownBlock ≠ some R.p := by
  intro e
  have hp := h.bx
  rcases h.row.2 with ⟨hv, _⟩ | ⟨g, cap, cur, hv, _, hg, _⟩
  · rw [hv] at e; cases e
  · rw [hv] at e
    simp [Value.ownBlock] at e
    subst e
    rw [hp] at hg
    simp at hg
theorem rf_cells {W : World} {p : Nat} {room : Int} {u : Value} (h : W.heap[p]? = some (.cells #[.int .i64 room, u] 62)) : W.cell? ⟨p, 0, none⟩ = some (.int .i64 room) ∧ W.cell? ⟨p, 1, none⟩ = some u ∧ W.frozen? ⟨p, 1, none⟩ = false :=
  ⟨cell_of_row _ _ 0 _ _ (0, 0) h, cell_of_row _ _ 1 _ _ (0, 0) h, by simp [World.frozen?, h]⟩
/-- A reference's net behind a call. -/
structure RAft (w w' : World) (R : RfS) (L : List LtD) (R' : RfS) : Prop where
  net : IsRf w' R'
  p : R'.p = R.p
  room : R'.room = R.room
  L : R'.L = L
  on : Only R.bl w w'
  u : ∀ g, R'.u.ownBlock = some g → g ∈ R.bl ∨ w.heap.size ≤ g
theorem RAft.bl {w w' : World} {R R' : RfS} {L : List LtD} (h : RAft w w' R L R') : ∀ b ∈ R'.bl, b ∈ R.bl ∨ w.heap.size ≤ b := by
  intro b hb
  simp only [RfS.bl, List.mem_cons, Option.mem_toList] at hb
  rcases hb with rfl | hb
  · exact .inl (by rw [h.p]; simp [RfS.bl])
  · exact h.u b hb
theorem RAft.same {w w' : World} {R : RfS} (h : IsRf w R) (hb : Below w.heap.size w w') : RAft w w' R R.L R :=
  ⟨h.below hb, rfl, rfl, rfl, Only.of_below hb, fun g hg => .inl (by simp [RfS.bl, hg])⟩

set_option maxRecDepth 20000 in
theorem rlen_any (R : RfS) (w : World) (h : IsRf w R) : Calls Try.prog 21 #[.pointer (some ⟨R.p, 0, none⟩)] w fun e w' => e = .returned (.int .i64 (R.L.length : Int)) ∧ w' = w := by
  obtain ⟨c0, c1, -⟩ := rf_cells h.bx
  obtain ⟨ao, cp, hu⟩ := own_form h.row
  rw [hu] at c1
  go_enter Try.func21, Try.ntmps21
  go_wp2
  go_ret
  exact ⟨rfl, rfl⟩

theorem rdl_all {w : World} {b off cp : Nat} {l : List LtD} (h : RdL w (.slice (some ⟨b, off, none⟩) l.length cp) l) : ∀ j u, (lcs l)[j]? = some u → w.cell? ((⟨b, off, none⟩ : Addr).add j) = some u := by
  intro j u hu
  have hj : j < l.length * 2 := by have := (List.getElem?_eq_some_iff.1 hu).1; rwa [lcs_length] at this
  have hx : l[j / 2]? = some (l[j / 2]'(by omega)) := by simp [show j / 2 < l.length by omega]
  obtain ⟨b', off', e, _, c0, c1⟩ := rdl_cells rfl h hx
  cases e
  obtain ⟨g0, g1⟩ := lcs_at l (j / 2) _ hx
  rw [addr4]
  rcases Nat.mod_two_eq_zero_or_one j with e | e
  · rw [show j / 2 * 2 = j by omega] at g0 c0
    rw [hu] at g0
    rw [c0, g0]
  · rw [show j / 2 * 2 + 1 = j by omega] at g1
    rw [show off + j / 2 * 2 + 1 = off + j by omega] at c1
    rw [hu] at g1
    rw [c1, g1]
/-- append(row, row2...): both known; the first one owned. -/
theorem app_lt (B : Nat) (u v : Value) (L l : List LtD) (wr : World) (hu : wr.ownsRow B 37 2 u L.length (lcs L)) (hB : B ≤ wr.heap.size) (hw : RdL wr v l) (hx : L.length + l.length ≤ 6000) (ty : TypeId) :
    ∃ u' w', (Builtin.append_ #[31, 31] ty #[u, v]).run Try.prog wr = .ok u' w' ∧ w'.ownsRow B 37 2 u' (L ++ l).length (lcs (L ++ l)) ∧ wr.grownBy w' u.ownBlock ∧ (u'.ownBlock = u.ownBlock ∨ ∀ g, u'.ownBlock = some g → wr.heap.size ≤ g) := by
  obtain ⟨iL, hin, hz0, hz1, hz2⟩ := info_parts Try.infoLt
  by_cases h0 : l.length = 0
  · have : l = [] := List.eq_nil_of_length_eq_zero h0
    subst this
    obtain ⟨ao, cp, rfl, _⟩ := hw
    refine ⟨u, wr, ?_, by simpa using hu, ⟨rfl, rfl, rfl, Nat.le_refl _, fun _ _ _ => rfl⟩, .inl rfl⟩
    obtain ⟨a2, c2, rfl⟩ := own_form hu
    have hc2 : L.length ≤ c2 := by
      rcases hu.2 with ⟨e, h⟩ | ⟨g, cap, cur, e, _, _, hn, _⟩
      · omega
      · injection e with _ _ e3
        omega
    cases a2 <;> cases ao <;> simp [Builtin.append_, run_underlying Try.underlying31, sizeOf, typeInfo, hin, Builtin.lenOf, Builtin.firstCells, loadCells, loadCellsFrom, storeCells, hc2]
  · have hw' := hw
    obtain ⟨ao, cp, rfl, hc⟩ := hw
    obtain ⟨b, off, rfl, _⟩ := hc 0 l[0] (by simp [show 0 < l.length by omega])
    obtain ⟨v', w', h1, h2, h3, h4, h5⟩ := run_append_own_at (P := Try.prog) wr B 31 ty 37 iL (.agg #[.int .i64 0, .string ⟨#[]⟩]) 2 24 Try.underlying31 hin hz0 hz1 hz2 rfl (by decide) u L.length _ hu ⟨b, off, none⟩ l.length cp (lcs l) (by rw [lcs_length]) (rdl_all hw') (lcs_one' l)
      (by unfold maxLen; omega) (by omega) hB
    refine ⟨v', w', h1, ?_, h3, h5.imp_right (fun e g hg => by rw [e] at hg; cases hg; exact Nat.le_refl _)⟩
    rw [lcs_append, List.length_append]
    exact h2
theorem wpList_app_lt {ops : Array Oper} {rest : List Oper} {o : Oper} {a : Act} {Q : Exit → Act → World → Prop} (wr : World) (hgd : o.guard = none) (sl x : Operand)
    (ho : o.op = .call { callee := .builtin .append, args := #[sl, x], argTypes := #[31, 31] }) (B : Nat) (u v : Value) (L l : List LtD) (hs : a.eval sl = u) (hx : a.eval x = v)
    (hu : wr.ownsRow B 37 2 u L.length (lcs L)) (hB : B ≤ wr.heap.size) (hw : RdL wr v l) (hl : L.length + l.length ≤ 6000)
    (h : ∀ u' w', w'.ownsRow B 37 2 u' (L ++ l).length (lcs (L ++ l)) → wr.grownBy w' u.ownBlock → (u'.ownBlock = u.ownBlock ∨ ∀ g, u'.ownBlock = some g → wr.heap.size ≤ g) → wpList Try.prog ops Q rest (a.put o.dst u') w') : wpList Try.prog ops Q (o :: rest) a wr := by
  refine wpList_plain hgd fun K hK => ?_
  obtain ⟨v', w', hr, h2, h3, h4⟩ := app_lt B u v L l wr hu hB hw hl o.type
  unfold Oper.wp execOp
  simp only [ho, resolve, invoke, builtin, Sem.run_bind, Sem.run_pure, Result.andThen_ok, List.map_toArray, List.map_cons, List.map_nil, hs, hx, hr]
  exact hK _ _ (h v' w' h2 h3 h4)
section
variable {P : Program} {ops : Array Oper} {rest : List Oper} {o : Oper} {a : Act} {w : World} {Q : Exit → Act → World → Prop}
theorem at_append (x y : Operand) (t : TypeId) (_ : o.op = .call { callee := .builtin .append, args := #[x, y], argTypes := #[t, t] }) (h : wpList P ops Q (o :: rest) a w) : wpList P ops Q (o :: rest) a w := h
end

set_option maxRecDepth 20000 in
set_option maxHeartbeats 1000000 in
theorem rall_any (R : RfS) (w : World) (h : IsRf w R) :
    Calls Try.prog 20 #[.pointer (some ⟨R.p, 0, none⟩)] w fun e w' => ∃ u, e = .returned u ∧ w'.ownsRow w.heap.size 37 2 u R.L.length (lcs R.L) ∧ Below w.heap.size w w' := by
  have hlen : R.L.length ≤ 3000 := by have := h.len; have := h.rm; omega
  obtain ⟨-, c1, -⟩ := rf_cells h.bx
  have hrd := rdl_own h.row
  obtain ⟨ao, cp, hu⟩ := own_form h.row
  rw [hu] at c1 hrd
  clear hu
  go_enter Try.func20, Try.ntmps20
  go_wp2_with (with_reducible refine at_append _ _ _ rfl ?_; refine wpList_app_lt w rfl _ _ rfl w.heap.size (.slice none 0 0) (.slice ao R.L.length cp) [] R.L rfl rfl (World.ownsRow_nil _ _ _ _) (Nat.le_refl _) hrd (by simp; omega) ?_; intro u' w1 ho hg hb; obtain ⟨a9, c9, rfl⟩ := own_form ho)
  go_ret
  exact ⟨_, rfl, ho, (Below.refl _ w).grown hg (Nat.le_refl _) (fun k hk => by simp [Value.ownBlock] at hk)⟩
end Go.Proofs.Ytdkhfehoohiflaa.nt
