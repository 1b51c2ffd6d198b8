/-
  The contracts of copyCheck and WriteString, package strings.
-/
import Derived.Test.YtjimolafoihnpaaDoorDoC
import Derived.Lib.Builder
import Derived.Lib.AppendStr
import Derived.Deep.RegionLaw
import Derived.Test.YtjimolafoihnpaaDoorLayB
namespace Go.Proofs.YtjimolafoihnpaaDoor
open Go.WideShapes Go.RowKit Go.ChangeShapes Go.ChangeAt Go.PlainAid

theorem Tryd.infoBd : (Tryd.prog.info? 157).map (·.size) = some 2 := by kernel_rfl
theorem shape_bd {W : World} {b : Nat} {p v : Value} (h : W.heap[b]? = some (.cells #[p, v] 157)) : W.shape? b = some (157, 2) := by
  simp [World.shape?, h]
theorem to_unsafe {W : World} {b : Nat} {p v : Value} (h : W.heap[b]? = some (.cells #[p, v] 157)) : (convert 154 185 (.pointer (some ⟨b, 0, none⟩))).run Tryd.prog W = .ok (.pointer (some ⟨b, 0, none⟩)) W := by
  cases hj : Tryd.prog.info? 157 with
  | none => have := Tryd.infoBd; rw [hj] at this; simp at this
  | some j =>
    have h2 : j.size = 2 := by have := Tryd.infoBd; rw [hj] at this; simpa using this
    exact Lib.run_to_unsafe W ⟨b, 0, none⟩ Tryd.underlying154 Tryd.underlying185 hj (by omega) (shape_bd h) (by show 0 < 2; decide)
theorem from_unsafe {W : World} {b : Nat} {p v : Value} (h : W.heap[b]? = some (.cells #[p, v] 157)) : (convert 185 154 (.pointer (some ⟨b, 0, none⟩))).run Tryd.prog W = .ok (.pointer (some ⟨b, 0, none⟩)) W := by
  cases hj : Tryd.prog.info? 157 with
  | none => have := Tryd.infoBd; rw [hj] at this; simp at this
  | some j => exact Lib.run_from_unsafe W ⟨b, 0, none⟩ Tryd.underlying185 Tryd.underlying154 hj (shape_bd h) (by kernel_rfl)
theorem neq_same (W : World) (b : Nat) : (binOp .neq 154 (.pointer (some ⟨b, 0, none⟩)) (.pointer (some ⟨b, 0, none⟩))).run Tryd.prog W = .ok (.bool false) W := by
  cases hj : Tryd.prog.info? 157 with
  | none => have := Tryd.infoBd; rw [hj] at this; simp at this
  | some j => exact Lib.run_neq_ptr_same W ⟨b, 0, none⟩ Tryd.underlying154 hj

theorem noEscape (x : Value) (W : World) : (callFunc 99 #[x]).run Tryd.prog W = .ok (.value x) W := by
  rw [run_callFunc_extern Tryd.func99 (by kernel_rfl) (by kernel_rfl) (by kernel_rfl) (e := Extern.AbiNoEscape.same) (by kernel_rfl)]
  rw [Lib.run_noEscape]
  rfl

set_option maxRecDepth 20000 in
set_option maxHeartbeats 1000000 in
theorem copyCheck_fresh (b : Nat) (v : Value) (w : World) (h : w.heap[b]? = some (.cells #[.pointer none, v] 157)) :
    Calls Tryd.prog 91 #[.pointer (some ⟨b, 0, none⟩)] w fun e w' => e = .returned (.tuple #[]) ∧ w'.heap[b]? = some (.cells #[.pointer (some ⟨b, 0, none⟩), v] 157) ∧ w.grownBy w' (some b) := by
  have c0 : w.cell? ⟨b, 0, none⟩ = some (.pointer none) := cell_of_row _ _ 0 _ _ (0, 0) h
  have z0 := frz h 0
  have u1 := to_unsafe h
  have u2 := from_unsafe h
  have n1 := neq_same w b
  have h2 := heap_setCell h 0 (.pointer (some ⟨b, 0, none⟩))
  have c2 : (w.setCell ⟨b, 0, none⟩ (.pointer (some ⟨b, 0, none⟩))).cell? ⟨b, 0, none⟩ = some (.pointer (some ⟨b, 0, none⟩)) := cell_of_row _ _ 0 _ _ (0, 0) h2
  have n2 := neq_same (w.setCell ⟨b, 0, none⟩ (.pointer (some ⟨b, 0, none⟩))) b
  have ne := noEscape (.pointer (some ⟨b, 0, none⟩)) w
  go_enter Tryd.func91, Tryd.ntmps91
  go_wp2_with fail
  go_end0
  exact ⟨rfl, h2, grown_set w b 0 _⟩

set_option maxRecDepth 20000 in
set_option maxHeartbeats 1000000 in
theorem copyCheck_used (b : Nat) (v : Value) (w : World) (h : w.heap[b]? = some (.cells #[.pointer (some ⟨b, 0, none⟩), v] 157)) :
    Calls Tryd.prog 91 #[.pointer (some ⟨b, 0, none⟩)] w fun e w' => e = .returned (.tuple #[]) ∧ w' = w := by
  have c0 : w.cell? ⟨b, 0, none⟩ = some (.pointer (some ⟨b, 0, none⟩)) := cell_of_row _ _ 0 _ _ (0, 0) h
  have n1 := neq_same w b
  go_enter Tryd.func91, Tryd.ntmps91
  go_wp2_with fail
  go_end0
  exact ⟨rfl, rfl⟩

abbrev BdAt (B b : Nat) (bs : List Value) (w : World) : Prop := Lib.BuilderAt 157 5 B b (.pointer (some ⟨b, 0, none⟩)) bs w
abbrev Bd (B b : Nat) (bs : List Value) (w : World) : Prop := Lib.IsBuilder 157 5 B b bs w

theorem copyCheck_any (B b : Nat) (bs : List Value) (w : World) (h : Bd B b bs w) :
    Calls Tryd.prog 91 #[.pointer (some ⟨b, 0, none⟩)] w fun e w' => e = .returned (.tuple #[]) ∧ BdAt B b bs w' ∧ Below B w w' := by
  rcases h with h | h
  · obtain ⟨hB, v, hb, ho, hne⟩ := h
    refine (copyCheck_fresh b v w hb).mono ?_
    rintro e w' ⟨rfl, h2, hg⟩
    exact ⟨rfl, ⟨hB, v, h2, ho.kept hg (.inr hne), hne⟩, (Below.refl B w).grown hg (by have := heap_lt hb; omega) (fun k e => by injection e with e; omega)⟩
  · obtain ⟨hB, v, hb, ho, hne⟩ := h
    refine (copyCheck_used b v w hb).mono ?_
    rintro e w' ⟨rfl, rfl⟩
    exact ⟨rfl, ⟨hB, v, hb, ho, hne⟩, Below.refl _ _⟩

set_option maxRecDepth 20000 in
set_option maxHeartbeats 1000000 in
theorem writeString_any (B b : Nat) (bs : List Value) (s : ByteArray) (w : World) (h : Bd B b bs w) (hl : bs.length + s.size ≤ 140737488355328) (hBw : B ≤ w.heap.size) :
    Calls Tryd.prog 75 #[.pointer (some ⟨b, 0, none⟩), .string s] w fun e w' => e = .returned (.tuple #[.int .i64 s.size, .nilIface]) ∧ BdAt B b (bs ++ Lib.strCells s) w' ∧ Below B w w' := by
  obtain ⟨i0, hin, hz0, hz1, hz2⟩ := info_parts Tryd.info5
  have hc := copyCheck_any B b bs w h
  clear h
  go_enter Tryd.func75, Tryd.ntmps75
  go_wp2_with (first | (go_at_call 91; refine hc.mono ?_; rintro e w1 ⟨rfl, h1, hb1⟩; obtain ⟨hB, v, hbk, hown, hne⟩ := h1; obtain ⟨a1, k1, rfl⟩ := own_form hown; have c1 := cell_of_row _ _ 1 _ _ (0, 0) hbk; simp at c1; have hs1 := hb1.size) | (at_builtin; refine Lib.wpList_append_own_string _ rfl (.tmp 12) (.tmp 13) 155 9 rfl B 5 i0 Tryd.underlying155 Tryd.underlying9 hin hz0 hz1 hz2 _ _ _ rfl hown s rfl (by unfold maxLen; omega) (by omega) (by omega) ?_; intro v4 w4 ho4 hg4 _; obtain ⟨a4, k4, rfl⟩ := own_form ho4; have hbk4 := (hg4.block b (heap_lt hbk) (fun e => hne e.symm)).trans hbk; have z4 := frz hbk4 1; have q4 := cell_of_row _ _ 1 _ _ (0, 0) hbk4; simp at q4; have hbl := hb1.grown hg4 (by omega) (fun k hk => (hown.lt k hk).1)))
  go_ret2
  exact ⟨rfl, Lib.BuilderAt.put hB hbk4 (by simpa [Lib.strCells_length] using ho4) (by decide), hbl.setCell (p := ⟨b, 1, none⟩) hB _⟩
end Go.Proofs.YtjimolafoihnpaaDoor

/-
  The contracts of String (package strings), Text and Len.
-/
namespace Go.Proofs.YtjimolafoihnpaaDoor
open Go.WideShapes Go.RowKit Go.ChangeShapes Go.ChangeAt Go.PlainAid

theorem bdX : Builder.Extra Tryd.prog Tryd.laysSt_ren where
  sizeBuilder := Tryd.infoBd
  liesBuilder := by kernel_rfl
  t5 := Tryd.underlying5
  a5 := Tryd.isAgg5
  z5 := Tryd.sizeOf5
  v5 := Tryd.zeroValue5
  infoByte := Tryd.info5
  cellsByte := by kernel_rfl
  sizeByte := by kernel_rfl
  neB5 := by decide
theorem string_any (B b : Nat) (l : List UInt8) (w : World) (h : Bd B b (Lib.byteCells l) w) (hBw : B ≤ w.heap.size) :
    Calls Tryd.prog 76 #[.pointer (some ⟨b, 0, none⟩)] w fun e w' => e = .returned (.string (mk l)) ∧ Below B w w' :=
  Any.Builder_String_any Tryd.laysSt bdX B b l w h hBw

/-- The text of a document, as bytes. -/
def txB (l : List RunD) : List UInt8 := l.flatMap fun r => r.t.data.toList
theorem txB_nil : txB [] = [] := rfl
theorem txB_append (a b : List RunD) : txB (a ++ b) = txB a ++ txB b := by simp [txB]
theorem txB_one (r : RunD) : txB [r] = r.t.data.toList := by simp [txB]
theorem txB_take {l : List RunD} {k : Nat} (h : k < l.length) : txB (l.take (k + 1)) = txB (l.take k) ++ l[k].t.data.toList := by
  rw [List.take_succ_eq_append_getElem h, txB_append, txB_one]
theorem txB_le (l : List RunD) (k : Nat) : (txB (l.take k)).length ≤ (txB l).length := by
  have : txB l = txB (l.take k) ++ txB (l.drop k) := by rw [← txB_append, List.take_append_drop]
  rw [this, List.length_append]
  omega
theorem cells_bytes (l : List UInt8) (s : ByteArray) : Lib.byteCells l ++ Lib.strCells s = Lib.byteCells (l ++ s.data.toList) := by
  simp [Lib.byteCells, Lib.strCells]

theorem Bd.alloc {B b : Nat} {bs : List Value} {w : World} (h : Bd B b bs w) (o : Obj) : Bd B b bs (w.alloc o) := by
  rcases h with h | h
  · obtain ⟨hB, v, hb, ho, hne⟩ := h
    exact .inl ⟨hB, v, (heap_alloc_old w o (heap_lt hb)).trans hb, ho.alloc o, hne⟩
  · obtain ⟨hB, v, hb, ho, hne⟩ := h
    exact .inr ⟨hB, v, (heap_alloc_old w o (heap_lt hb)).trans hb, ho.alloc o, hne⟩

set_option maxRecDepth 20000 in
set_option maxHeartbeats 1000000 in
theorem docText_any (v : Value) (l : List RunD) (w : World) (hr : RdN w v l) (hm : l.length ≤ 1125899906842624) (ht : (txB l).length ≤ 140737488355328) :
    Calls Tryd.prog 46 #[v] w fun e w' => e = .returned (.string (mk (txB l))) ∧ Below w.heap.size w w' := by
  obtain ⟨ao, cp, hv, -⟩ := id hr
  subst hv
  have hb0 : Bd w.heap.size w.heap.size [] (w.alloc (.cells #[.pointer none, .slice none 0 0] 157)) := Lib.fresh_isBuilder _ _ w
  have hB0 : Below w.heap.size w (w.alloc (.cells #[.pointer none, .slice none 0 0] 157)) := (Below.refl _ w).alloc (Nat.le_refl _) _
  go_enter Tryd.func46, Tryd.ntmps46
  go_wp2_with fail
  generalize w.alloc _ = w0 at *
  go_loopw [8] (fun i wr => ∃ (k : Nat), k ≤ l.length ∧ i = .int .i64 (k : Int) ∧ Bd w.heap.size w.heap.size (Lib.byteCells (txB (l.take k))) wr ∧ Below w.heap.size w wr) (fun i _ => l.length - (intOf i).toNat)
  case atStart => exact ⟨0, Nat.zero_le _, rfl, hb0, hB0⟩
  case round =>
    obtain ⟨k, hk, rfl, hB, hBr⟩ := hrel
    clear hb0 hB0
    by_cases hlt : k < l.length
    · have hlt' : (k : Int) < (l.length : Int) := by omega
      obtain ⟨bb, off, e1, -, e2, e3, e4, e5⟩ := (hr.below hBr).at k l[k] (by simp [hlt])
      have htk := txB_take hlt
      have hle := txB_le l (k + 1)
      generalize l[k] = r at *
      subst e1
      rw [htk] at hle
      simp only [List.length_append, Array.length_toList] at hle
      have hBa := hB.alloc (.cells #[.int .i64 r.c, .int .i64 r.q, .int .i64 r.f, .string r.t] 44)
      have hBra := hBr.alloc hBr.size (.cells #[.int .i64 r.c, .int .i64 r.q, .int .i64 r.f, .string r.t] 44)
      have hx1 : RB (wr.alloc (.cells #[.int .i64 r.c, .int .i64 r.q, .int .i64 r.f, .string r.t] 44)) wr.heap.size r := heap_alloc_new wr _
      obtain ⟨c0, c1, c2, c3⟩ := hx1.cells
      have hw := writeString_any w.heap.size w.heap.size _ r.t _ hBa (by rw [Lib.byteCells_length]; exact Nat.le_trans hle ht) hBra.size
      rw [cells_bytes, ← htk] at hw
      clear hB hr
      have hk1 : (k : Int) + 1 ≤ 9223372036854775807 := by omega
      go_wp2_with (go_at_call 75; refine hw.mono ?_; rintro e w1 ⟨rfl, hB2, hb2⟩)
      refine ⟨⟨k + 1, by omega, by simp, .inr hB2, hBra.trans hb2⟩, ?_⟩
      simp [intOf]
      omega
    · obtain rfl : k = l.length := by omega
      rw [List.take_length] at hB
      have hs := string_any w.heap.size w.heap.size _ wr hB hBr.size
      clear hB hr
      go_wp2_with (go_at_call 76; refine hs.mono ?_; rintro e w1 ⟨rfl, hb1⟩)
      go_ret
      exact ⟨rfl, hBr.trans hb1⟩

set_option maxRecDepth 20000 in
set_option maxHeartbeats 1000000 in
theorem docLen_any (v : Value) (l : List RunD) (w : World) (hV : VS w) (hr : RdN w v l) (hm : l.length ≤ 1125899906842624) (ht : (txB l).length ≤ 140737488355328) :
    Calls Tryd.prog 19 #[v] w fun e w' => e = .returned (.int .i64 (cpl (mk (txB l)))) ∧ Below w.heap.size w w' := by
  have h1 := docText_any v l w hr hm ht
  have h2 : ∀ w1, Below w.heap.size w w1 → _ := fun w1 hb => count_any (mk (txB l)) w1 (hV.below hb) (by rw [mk_size]; omega)
  obtain ⟨ao, cp, hv, -⟩ := id hr
  subst hv
  clear hr hV
  go_enter Tryd.func19, Tryd.ntmps19
  go_wp2_with (first | (go_at_call 46; refine h1.mono ?_; rintro e w1 ⟨rfl, hb1⟩) | (go_at_call 43; refine (h2 w1 hb1).mono ?_; rintro e w2 ⟨rfl, hb2⟩))
  go_ret
  exact ⟨rfl, chain hb1 hb2⟩
end Go.Proofs.YtjimolafoihnpaaDoor
