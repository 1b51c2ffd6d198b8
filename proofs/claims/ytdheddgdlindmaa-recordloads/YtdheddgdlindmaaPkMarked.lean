/-
  A row of bytes that the call itself has made out of a text: no cell of it is frozen, though it bears a mark behind its last cell. What append and the way back to a text do with it.
-/
import Derived.Test.YtdheddgdlindmaaPkWrites
import Derived.Lib.AppendStr
namespace Go.Proofs.Ytdheddgdlindmaa.pk
open Go.Proofs.Ytdheddgdlindmaa
open Go.ChangeShapes Go.WideShapes Go.ChangeAt Go.RowKit Go.PlainAid

/-- The slice v has the bytes l, in a row of the call's own of which no cell is frozen. -/
def OwnM (w : World) (base : Nat) (v : Value) (l : List UInt8) : Prop :=
  ∃ g cap cur fz, v = .slice (some ⟨g, 0, none⟩) l.length cap ∧ base ≤ g ∧ w.heap[g]? = some (.cells cur 5 fz) ∧ (fz.2 = 0 ∨ cap ≤ fz.1) ∧ l.length ≤ cap ∧ cap ≤ maxLen ∧ cur.size = cap ∧ cur.toList.take l.length = bv l

theorem free_at {w : World} {g j cap : Nat} {cur : Array Value} {t : TypeId} {fz : Nat × Nat} (hg : w.heap[g]? = some (.cells cur t fz)) (hf : fz.2 = 0 ∨ cap ≤ fz.1) (hj : j < cap) : w.frozen? ⟨g, j, none⟩ = false := by
  obtain ⟨lo, hi⟩ := fz
  simp only at hf
  simp only [World.frozen?, hg, Bool.and_eq_false_iff, decide_eq_false_iff_not]
  omega

theorem store_row (P : Program) (g o : Nat) (t : TypeId) (fz : Nat × Nat) : ∀ (vs : List Value) (i : Nat) (cur : Array Value) (w : World), w.heap[g]? = some (.cells cur t fz) → (fz.2 = 0 ∨ cur.size ≤ fz.1) → o + i + vs.length ≤ cur.size → (∀ v ∈ vs, v.oneCell' = true) →
    (storeCells ⟨g, o, none⟩ vs i).run P w = .ok () (w.setRow g (cur.toList.take (o + i) ++ vs ++ cur.toList.drop (o + i + vs.length)).toArray) := by
  intro vs
  induction vs with
  | nil =>
    intro i cur w hg _ _ _
    simp only [storeCells, List.append_nil, List.length_nil, Nat.add_zero, List.take_append_drop, Array.toArray_toList]
    rw [setRow_self w g cur t fz hg]
    rfl
  | cons v rest ih =>
    intro i cur w hg hf hl h1
    simp only [List.length_cons] at hl
    have hadd : (⟨g, o, none⟩ : Addr).add i = ⟨g, o + i, none⟩ := by unfold Addr.add; split <;> simp_all
    have hcell : w.cell? ⟨g, o + i, none⟩ = some (cur[o + i]'(by omega)) := by simp [World.cell?, hg, show o + i < cur.size by omega]
    have hst : (store ((⟨g, o, none⟩ : Addr).add i) v).run P w = .ok () (w.setRow g (cur.setIfInBounds (o + i) v)) := by
      rw [hadd, run_store P w _ v _ (h1 v (List.mem_cons_self ..)), hcell]
      simp [free_at hg hf (show o + i < cur.size by omega), setCell_eq_setRow w g (o + i) cur t fz v hg]
    have next := ih (i + 1) (cur.setIfInBounds (o + i) v) (w.setRow g (cur.setIfInBounds (o + i) v)) (setRow_heap w g cur _ t _ hg) (by simpa using hf) (by simp; omega) (fun x hx => h1 x (List.mem_cons_of_mem _ hx))
    simp only [storeCells, Sem.run_bind, hst, Result.andThen_ok, next, setRow_setRow]
    congr 3
    have e := list_seg_step cur.toList (o + i) v rest (by simp; omega)
    simpa [Array.toList_setIfInBounds, Nat.add_assoc] using e

theorem app_marked {P : Program} (w : World) (base : Nat) (ty : TypeId) (i : TypeInfo) (ht : P.underlying 52 = some (.slice 5)) (hu : P.underlying 9 = some .string) (hi : P.info? 5 = some i) (hz : i.zero = some (.int .u8 0)) (hs1 : i.size = 1) (hby : i.bytes = 1)
    (v : Value) (l : List UInt8) (hown : OwnM w base v l) (s : ByteArray) (hb : l.length + s.size ≤ 140737488355328) (hbase : base ≤ w.heap.size) :
    ∃ v' w', (Builtin.append_ #[52, 9] ty #[v, .string s]).run P w = .ok v' w' ∧ OwnM w' base v' (l ++ s.data.toList) ∧ w.grownBy w' v.ownBlock := by
  obtain ⟨g, cap, cur, fz, rfl, hbg, hg, hf, hlc, hcm, hcs, htk⟩ := hown
  have hll : (l ++ s.data.toList).length = l.length + s.size := by rw [List.length_append, data_len]
  by_cases hroom : l.length + s.size ≤ cap
  · have hst := store_row P g l.length 5 fz (Lib.strCells s) 0 cur w hg (by omega) (by rw [Lib.strCells_length]; omega) (Lib.strCells_oneCell s)
    simp only [Nat.add_zero, Lib.strCells_length] at hst
    have hf1 := Lib.run_firstCells_string (P := P) w 1 s
    refine ⟨.slice (some ⟨g, 0, none⟩) (l.length + s.size) cap, _, by simp [Builtin.append_, run_underlying ht, run_underlying hu, sizeOf, typeInfo, hi, hs1, Builtin.lenOf, hroom, hf1, Addr.add_lit, hst]; rfl, ⟨g, cap, _, fz, by rw [hll], hbg, setRow_heap w g cur _ 5 _ hg, hf, by omega, hcm, ?_, ?_⟩, ⟨rfl, rfl, rfl, by simp, fun k _ hk => setRow_other w g k _ (fun e => hk (by simp [Value.ownBlock, e]))⟩⟩
    · simp only [List.size_toArray, List.length_append, List.length_take, List.length_drop, Array.length_toList, Lib.strCells_length]
      omega
    · rw [htk, strCells_bv, hll, bv_append]
      have e : (bv l ++ bv s.data.toList).length = l.length + s.size := by rw [List.length_append, bv_length, bv_length, data_len]
      rw [← e, List.toList_toArray, ← List.append_assoc]
      exact List.take_left
  · have hx : (bv l).length = l.length * i.size := by rw [hs1, bv_length, Nat.mul_one]
    have holds : ∀ j u, (bv l)[j]? = some u → w.cell? ((⟨g, 0, none⟩ : Addr).add j) = some u := by
      intro j u hj
      have hadd : (⟨g, 0, none⟩ : Addr).add j = ⟨g, j, none⟩ := by unfold Addr.add; split <;> simp_all
      rw [hadd, cell_of_row w g j cur 5 fz hg]
      rw [← htk, List.getElem?_take] at hj
      split at hj
      · simpa using hj
      · cases hj
    have hm : l.length + s.size ≤ maxLen := by unfold maxLen; omega
    have hr := Lib.run_append_grow_string (P := P) w 52 9 ty 5 i (.int .u8 0) ht hu hi hz ⟨g, 0, none⟩ l.length cap (bv l) hx holds s (by omega) (by omega) (by rw [hby]; exact growslice_fits (by omega) (by omega))
    have hge := grownCap_ge w (l.length + s.size) cap 5
    have hcm2 := grownCap_le_maxLen w (l.length + s.size) cap 5 hm
    refine ⟨_, _, hr, ⟨w.heap.size, _, _, (0, 0), by rw [hll], hbase, heap_alloc_new w.drew _, .inl rfl, by rw [hll]; exact hge, hcm2, ?_, ?_⟩, ⟨rfl, rfl, rfl, by simp, fun k hk _ => Below.heap_alloc w.drew _ k hk⟩⟩
    · have hz1 : (Value.int IntKind.u8 0).cells.size = 1 := rfl
      simp only [Array.size_append, List.size_toArray, size_zeroCells, hz1, bv_length, Lib.strCells_length]
      omega
    · simp only [Array.toList_append, List.append_assoc]
      rw [strCells_bv, ← List.append_assoc, ← bv_append]
      have e : (bv (l ++ s.data.toList)).length = (l ++ s.data.toList).length := bv_length _
      rw [← e]
      simp

theorem wpList_app_marked {P : Program} {ops : Array Oper} {rest : List Oper} {o : Oper} {a : Act} {Q : Exit → Act → World → Prop} (w : World) (hgd : o.guard = none) (sl x : Operand)
    (ho : o.op = .call { callee := .builtin .append, args := #[sl, x], argTypes := #[52, 9] })
    (base : Nat) (i : TypeInfo) (ht : P.underlying 52 = some (.slice 5)) (hu : P.underlying 9 = some .string) (hi : P.info? 5 = some i) (hz : i.zero = some (.int .u8 0)) (hs1 : i.size = 1) (hby : i.bytes = 1)
    (v : Value) (l : List UInt8) (hs : a.eval sl = v) (hown : OwnM w base v l) (s : ByteArray) (hx : a.eval x = .string s) (hb : l.length + s.size ≤ 140737488355328) (hbase : base ≤ w.heap.size)
    (h : ∀ v' w', OwnM w' base v' (l ++ s.data.toList) → w.grownBy w' v.ownBlock → wpList P ops Q rest (a.put o.dst v') w') : wpList P ops Q (o :: rest) a w := by
  refine wpList_plain hgd fun K hK => ?_
  obtain ⟨v', w', hr, h2, h3⟩ := app_marked (P := P) w base o.type i ht hu hi hz hs1 hby v l hown s hb hbase
  unfold Oper.wp execOp
  simp only [ho, resolve, invoke, builtin, Sem.run_bind, Sem.run_pure, Result.andThen_ok, List.map_toArray, List.map_cons, List.map_nil, hs, hx, hr]
  exact hK _ _ (h v' w' h2 h3)

theorem conv_marked {P : Program} {w : World} {base : Nat} {v : Value} {l : List UInt8} (ht : P.underlying 52 = some (.slice 5)) (he : P.underlying 5 = some (.int .u8)) (hu : P.underlying 9 = some .string) (h : OwnM w base v l) :
    (convert 52 9 v).run P w = .ok (.string (mk l)) w := by
  obtain ⟨g, cap, cur, fz, rfl, hbg, hg, hf, hlc, hcm, hcs, htk⟩ := h
  refine run_convert_bytes_back w 52 9 5 ⟨g, 0, none⟩ cap l ht he hu (fun j hj => ?_)
  have hadd : (⟨g, 0, none⟩ : Addr).add j = ⟨g, j, none⟩ := by unfold Addr.add; split <;> simp_all
  rw [hadd, cell_of_row w g j cur 5 fz hg]
  have e : (cur.toList.take l.length)[j]? = (bv l)[j]? := by rw [htk]
  rw [List.getElem?_take, if_pos hj] at e
  have e2 : (bv l)[j]? = some (.int .u8 (l[j].toNat : Int)) := by simp [bv, hj]
  rw [e2] at e
  simpa using e

/-- A text made into bytes. -/
theorem made_marked (w : World) (s : ByteArray) (base : Nat) (hb : base ≤ w.heap.size) (hs : s.size ≤ maxLen) :
    OwnM (w.drew.alloc (.cells (bytesRow s (grownCap w s.size 0 5)) 5 ((bytesRow s (grownCap w s.size 0 5)).size, (bytesRow s (grownCap w s.size 0 5)).size + 1))) base (.slice (some ⟨w.heap.size, 0, none⟩) s.size (grownCap w s.size 0 5)) s.data.toList := by
  have hge := grownCap_ge w s.size 0 5
  have hle := grownCap_le_maxLen w s.size 0 5 hs
  have hsz : (bytesRow s (grownCap w s.size 0 5)).size = grownCap w s.size 0 5 := by
    simp only [bytesRow, Array.size_append, Array.size_map, Array.size_replicate]
    have : s.data.size = s.size := rfl
    omega
  refine ⟨w.heap.size, grownCap w s.size 0 5, _, _, by rw [data_len], hb, heap_alloc_new w.drew _, .inr (by rw [hsz]; exact Nat.le_refl _), by rw [data_len]; exact hge, hle, hsz, ?_⟩
  rw [data_len]
  simp only [bytesRow, Array.toList_append, Array.toList_map]
  have e : (s.data.toList.map (fun b => Value.int .u8 b.toNat)).length = s.size := by rw [List.length_map, data_len]
  rw [← e]
  exact List.take_left
end Go.Proofs.Ytdheddgdlindmaa.pk
