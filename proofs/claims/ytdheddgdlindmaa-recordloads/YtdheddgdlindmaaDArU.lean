/-
  Deltas that came in, of bulk at most 1048576, opened; Copied.
-/
import Derived.Test.YtdheddgdlindmaaDArg
import Derived.Test.YtdheddgdlindmaaDrA
import Derived.Deep.CondSized
namespace Go.Proofs.Ytdheddgdlindmaa
open Go.ChangeShapes Go.WideShapes Go.ChangeAt Go.RowKit Go.PlainAid

theorem bulk_pos {H : Type} (d : DataW H) : 1 ≤ Rows.uptoBulk d := by
  cases d with
  | lit l => cases l <;> simp [Rows.uptoBulk]
  | _ => simp [Rows.uptoBulk]
theorem bulk_mem {H : Type} : ∀ {l : List (DataW H)} {d : DataW H}, d ∈ l → Rows.uptoBulk d ≤ Rows.uptoBulkAll l
  | x :: r, d, hd => by
    simp only [Rows.uptoBulkAll]
    rcases List.mem_cons.1 hd with rfl | h
    · omega
    · have := bulk_mem h; omega
theorem bulk_len {H : Type} : ∀ (l : List (DataW H)), l.length ≤ Rows.uptoBulkAll l
  | [] => by simp
  | x :: r => by
    have := bulk_pos x
    have := bulk_len r
    simp only [Rows.uptoBulkAll, List.length_cons]; omega
theorem up_mem {H : Type} {ds : List (DataW H)} {d : DataW H} (hk : Rows.uptoSmall H ds = true) (h : d ∈ ds) : Rows.uptoBulk d ≤ 1048576 := by
  have h1 : Rows.uptoBulkAll ds ≤ 1048576 := by simpa [Rows.uptoSmall] using hk
  have := bulk_mem h
  omega
theorem up_str {H : Type} {s : ByteArray} (h : Rows.uptoBulk (DataW.lit (.string s.data.toList) : DataW H) ≤ 1048576) : s.size ≤ 1048576 := by
  simp only [Rows.uptoBulk] at h
  rw [← data_len]; omega

set_option maxRecDepth 20000 in
theorem open_du {H : Type} {enc : TypeId × Value → H} {w : World} {spare : Nat → Bool} {held : Bool} {n : Nat} {cs : List Value} {x : DataW H × List MemPlace} (h : DataW.trod enc Try.prog w 0 spare held n 96 cs = some x) (hz : Rows.uptoBulk x.1 ≤ 1048576) :
    ∃ o : OpD, cs = [.int .i64 o.k, .int .i64 o.n, .string o.t] ∧ o.Sm := by
  obtain ⟨xs, m, _, hx, hl, _, hf⟩ := DataW.trod_struct Try.underlying96 h
  have h4 : Try.prog.cellsOf 96 = 3 := by kernel_rfl
  have c3 : Try.prog.cellsOf 3 = 1 := by kernel_rfl
  have c9 : Try.prog.cellsOf 9 = 1 := by kernel_rfl
  rw [h4] at hl
  have hxl : xs.length = 3 := by assumption
  match xs, hxl, cs, hl with
  | [y0, y1, y2], _, [v0, v1, v2], _ =>
    have g0 := hf 0 _ rfl
    have g1 := hf 1 _ rfl
    have g2 := hf 2 _ rfl
    simp [c3, c9] at g0 g1 g2
    obtain ⟨a0, e0, _, w0⟩ := DataW.trod_int Try.underlying3 g0
    obtain ⟨a1, e1, _, w1⟩ := DataW.trod_int Try.underlying3 g1
    obtain ⟨a2, e2, f2, w2⟩ := DataW.trod_string Try.underlying9 g2
    simp at e0 e1 e2
    have hb : a2.size ≤ 1048576 := by
      rw [hx] at hz
      simp only [List.map, Rows.uptoBulk, Rows.uptoBulkAll] at hz
      rw [f2] at hz
      simp only [Rows.uptoBulk] at hz
      rw [← data_len]
      omega
    exact ⟨⟨a0, a1, a2⟩, by rw [e0, e1, e2], hb⟩

set_option maxRecDepth 20000 in
/-- A delta, out of its value. -/
theorem open_dlu {H : Type} {enc : TypeId × Value → H} {w : World} {spare : Nat → Bool} {held : Bool} {fuel : Nat} {ao : Option Addr} {len cap : Nat} {x : DataW H × List MemPlace}
    (h : DataW.trod enc Try.prog w 0 spare held fuel 46 (Value.slice ao len cap).cells.toList = some x) (hz : Rows.uptoBulk x.1 ≤ 1048576) :
    ∃ l : List OpD, RdD w (.slice ao len cap) l ∧ l.length ≤ 1048576 ∧ ∀ o ∈ l, o.Sm := by
  rcases Go.Deep.open_slice Try.underlying46 h with ⟨hcs, _⟩ | ⟨a, l, c, m, n, D, Pl, hcs, _, hl, hmx, hmm, hx, hall⟩
  · simp [Value.cells] at hcs
    obtain ⟨rfl, rfl, rfl⟩ := hcs
    exact ⟨[], RdD.nil w, Nat.zero_le _, by simp⟩
  · simp [Value.cells] at hcs
    obtain ⟨rfl, rfl, rfl⟩ := hcs
    have hlm : len ≤ m := by rw [hmm]; split <;> omega
    have h4 : Try.prog.cellsOf 96 = 3 := by kernel_rfl
    rw [hx] at hz
    simp only [Rows.uptoBulk] at hz
    have hln : len ≤ 1048576 := by
      have := bulk_len ((List.range len).map D)
      simp only [List.length_map, List.length_range] at this
      omega
    have hzD : ∀ i, i < len → Rows.uptoBulk (D i) ≤ 1048576 := fun i hi => by
      have := bulk_mem (l := (List.range len).map D) (d := D i) (List.mem_map.2 ⟨i, List.mem_range.2 hi, rfl⟩)
      omega
    rw [h4] at hall
    obtain ⟨b, off, spot⟩ := a
    have hsp : ∀ i, i < len → spot = none := by
      intro i hi
      obtain ⟨cs', h1, h2⟩ := hall 0 (by omega)
      obtain ⟨o, rfl, ho⟩ := open_du h2 (hzD 0 (by omega))
      obtain ⟨_, _, hcell⟩ := World.cells?_some h1
      have e0 := hcell 0 (by omega)
      simp at e0
      have := World.cell?_spot e0
      simpa [Addr.add] using this
    have each : ∀ i, i < len → ∃ o : OpD, o.Sm ∧ spot = none ∧ b < w.heap.size ∧ w.cell? ⟨b, off + i * 3, none⟩ = some (.int .i64 o.k) ∧ w.cell? ⟨b, off + i * 3 + 1, none⟩ = some (.int .i64 o.n) ∧ w.cell? ⟨b, off + i * 3 + 2, none⟩ = some (.string o.t) := by
      intro i hi
      obtain ⟨cs', h1, h2⟩ := hall i (by omega)
      obtain ⟨o, rfl, ho⟩ := open_du h2 (hzD i hi)
      obtain ⟨_, _, hcell⟩ := World.cells?_some h1
      have e0 := hcell 0 (by omega)
      have e1 := hcell 1 (by omega)
      have e2 := hcell 2 (by omega)
      rw [Go.Deep.add_add] at e0 e1 e2
      simp at e0 e1 e2
      obtain rfl := hsp i hi
      have hadd : ∀ k, (⟨b, off, none⟩ : Addr).add k = ⟨b, off + k, none⟩ := fun k => by unfold Addr.add; split <;> simp_all
      rw [hadd] at e0 e1 e2
      exact ⟨o, ho, rfl, World.block_lt_of_cell? w _ e0, e0, by rw [Nat.add_assoc]; exact e1, by rw [Nat.add_assoc]; exact e2⟩
    obtain ⟨f, hf⟩ := @Go.Deep.choose_lt OpD ⟨⟨0, 0, ⟨#[]⟩⟩⟩ _ _ each
    have hlen : ((List.range len).map f).length = len := by simp
    refine ⟨(List.range len).map f, ⟨some ⟨b, off, spot⟩, cap, by rw [hlen], ⟨by rw [hlen]; omega, fun h => by cases h⟩, fun i o ho => ?_⟩, by rw [hlen]; omega, fun o ho => ?_⟩
    · have hi : i < len := by
        have := (List.getElem?_eq_some_iff.1 ho).1
        simpa using this
      simp [hi] at ho
      subst ho
      obtain ⟨_, rfl, r⟩ := hf i hi
      exact ⟨b, off, rfl, r⟩
    · obtain ⟨i, hi, rfl⟩ := List.mem_map.1 ho
      exact (hf i (List.mem_range.1 hi)).1

/-! ### Copied -/

theorem rdd_cells {w : World} {b off cp : Nat} {l : List OpD} (h : RdD w (.slice (some ⟨b, off, none⟩) l.length cp) l) : ∀ j u, (ocs l)[j]? = some u → w.cell? ((⟨b, off, none⟩ : Addr).add j) = some u := by
  intro j u hj
  have hj' : j < l.length * 3 := by have := (List.getElem?_eq_some_iff.1 hj).1; rwa [ocs_length] at this
  obtain ⟨ao, cp', e, _, hc⟩ := h
  obtain ⟨b', o', e1, _, c0, c1, c2⟩ := hc (j / 3) l[j / 3] (by simp [show j / 3 < l.length by omega])
  cases e
  cases e1
  obtain ⟨q0, q1, q2⟩ := ocs_at l (j / 3) l[j / 3] (by simp [show j / 3 < l.length by omega])
  rw [addr_add]
  rcases (show j = j / 3 * 3 ∨ j = j / 3 * 3 + 1 ∨ j = j / 3 * 3 + 2 by omega) with h | h | h
  · rw [h] at hj ⊢
    rw [c0, ← q0, hj]
  · rw [h] at hj ⊢
    rw [← Nat.add_assoc, c1, ← q1, hj]
  · rw [h] at hj ⊢
    rw [← Nat.add_assoc, c2, ← q2, hj]
theorem ocs_one' (l : List OpD) : ∀ u ∈ ocs l, u.oneCell' = true := by
  intro u hu
  simp only [ocs, List.mem_flatten, List.mem_map] at hu
  obtain ⟨_, ⟨o, _, rfl⟩, hu⟩ := hu
  exact three_one _ _ _ u hu

theorem app_ops (v : Value) (l : List OpD) (wr : World) (hw : RdD wr v l) (hx : l.length ≤ 4398046511104) (ty : TypeId) :
    ∃ v' w', (Builtin.append_ #[46, 46] ty #[.slice none 0 0, v]).run Try.prog wr = .ok v' w' ∧ w'.ownsRow wr.heap.size 96 3 v' l.length (ocs l) ∧ Below wr.heap.size wr w' := by
  obtain ⟨i0, hin, hz0, hz1, hz2⟩ := info_parts Try.infoOp
  by_cases h0 : l.length = 0
  · have : l = [] := List.eq_nil_of_length_eq_zero h0
    subst this
    obtain ⟨ao, cp, rfl, _, _⟩ := hw
    refine ⟨.slice none 0 0, wr, ?_, World.ownsRow_nil _ _ _ _, Below.refl _ _⟩
    cases ao with
    | none => simp [Builtin.append_, run_underlying Try.underlying46, sizeOf, typeInfo, hin, Builtin.lenOf, Builtin.firstCells]
    | some a => simp [Builtin.append_, run_underlying Try.underlying46, sizeOf, typeInfo, hin, Builtin.lenOf, Builtin.firstCells, loadCells, loadCellsFrom]
  · have hw' := hw
    obtain ⟨ao, cp, rfl, _, hc⟩ := hw
    obtain ⟨b, off, rfl, _⟩ := hc 0 l[0] (by simp [show 0 < l.length by omega])
    obtain ⟨v', w', h1, h2, h3, h4⟩ := run_append_own (P := Try.prog) wr wr.heap.size 46 ty 96 i0 (.agg #[.int .i64 0, .int .i64 0, .string ⟨#[]⟩]) 3 32 Try.underlying46 hin hz0 hz1 hz2 rfl (by decide) (.slice none 0 0) 0 [] (World.ownsRow_nil _ _ _ _) ⟨b, off, none⟩ l.length cp (ocs l) (by rw [ocs_length]) (rdd_cells hw') (ocs_one' l)
      (by unfold maxLen; omega) (by omega) (Nat.le_refl _)
    refine ⟨v', w', h1, ?_, ⟨h3.os, h3.tape, h3.output, h3.size, fun k hk => h3.block k hk (by simp [Value.ownBlock])⟩⟩
    simpa using h2
theorem wpList_app_ops {ops : Array Oper} {rest : List Oper} {o : Oper} {a : Act} {Q : Exit → Act → World → Prop} (wr : World) (hgd : o.guard = none) (sl x : Operand)
    (ho : o.op = .call { callee := .builtin .append, args := #[sl, x], argTypes := #[46, 46] }) (v : Value) (l : List OpD) (hs : a.eval sl = .slice none 0 0) (hx : a.eval x = v)
    (hw : RdD wr v l) (hl : l.length ≤ 4398046511104)
    (h : ∀ v' w', w'.ownsRow wr.heap.size 96 3 v' l.length (ocs l) → Below wr.heap.size wr w' → wpList Try.prog ops Q rest (a.put o.dst v') w') : wpList Try.prog ops Q (o :: rest) a wr := by
  refine wpList_plain hgd fun K hK => ?_
  obtain ⟨v', w', hr, h2, h3⟩ := app_ops v l wr hw hl o.type
  unfold Oper.wp execOp
  simp only [ho, resolve, invoke, builtin, Sem.run_bind, Sem.run_pure, Result.andThen_ok, List.map_toArray, List.map_cons, List.map_nil, hs, hx, hr]
  exact hK _ _ (h v' w' h2 h3)
end Go.Proofs.Ytdheddgdlindmaa
