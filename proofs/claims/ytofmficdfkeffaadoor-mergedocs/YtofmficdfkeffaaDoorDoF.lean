/-
  The contracts of copyCheck and WriteString, package strings.
-/
import Derived.Test.YtofmficdfkeffaaDoorDoC
import Derived.Lib.Builder
import Derived.Lib.AppendStr
import Derived.Deep.RegionLaw
namespace Go.Proofs.YtofmficdfkeffaaDoor
open Go.WideShapes Go.RowKit Go.ChangeShapes Go.ChangeAt Go.PlainAid

theorem Tryd.infoBd : (Tryd.prog.info? 91).map (·.size) = some 2 := by kernel_rfl
theorem shape_bd {W : World} {b : Nat} {p v : Value} (h : W.heap[b]? = some (.cells #[p, v] 91)) : W.shape? b = some (91, 2) := by
  simp [World.shape?, h]
theorem to_unsafe {W : World} {b : Nat} {p v : Value} (h : W.heap[b]? = some (.cells #[p, v] 91)) : (convert 88 136 (.pointer (some ⟨b, 0, none⟩))).run Tryd.prog W = .ok (.pointer (some ⟨b, 0, none⟩)) W := by
  cases hj : Tryd.prog.info? 91 with
  | none => have := Tryd.infoBd; rw [hj] at this; simp at this
  | some j =>
    have h2 : j.size = 2 := by have := Tryd.infoBd; rw [hj] at this; simpa using this
    exact Lib.run_to_unsafe W ⟨b, 0, none⟩ Tryd.underlying88 Tryd.underlying136 hj (by omega) (shape_bd h) (by show 0 < 2; decide)
theorem from_unsafe {W : World} {b : Nat} {p v : Value} (h : W.heap[b]? = some (.cells #[p, v] 91)) : (convert 136 88 (.pointer (some ⟨b, 0, none⟩))).run Tryd.prog W = .ok (.pointer (some ⟨b, 0, none⟩)) W := by
  cases hj : Tryd.prog.info? 91 with
  | none => have := Tryd.infoBd; rw [hj] at this; simp at this
  | some j => exact Lib.run_from_unsafe W ⟨b, 0, none⟩ Tryd.underlying136 Tryd.underlying88 hj (shape_bd h) (by kernel_rfl)
theorem neq_same (W : World) (b : Nat) : (binOp .neq 88 (.pointer (some ⟨b, 0, none⟩)) (.pointer (some ⟨b, 0, none⟩))).run Tryd.prog W = .ok (.bool false) W := by
  cases hj : Tryd.prog.info? 91 with
  | none => have := Tryd.infoBd; rw [hj] at this; simp at this
  | some j => exact Lib.run_neq_ptr_same W ⟨b, 0, none⟩ Tryd.underlying88 hj

theorem noEscape (x : Value) (W : World) : (callFunc 82 #[x]).run Tryd.prog W = .ok (.value x) W := by
  rw [run_callFunc_extern Tryd.func82 (by kernel_rfl) (by kernel_rfl) (by kernel_rfl) (e := Extern.AbiNoEscape.same) (by kernel_rfl)]
  rw [Lib.run_noEscape]
  rfl

set_option maxRecDepth 20000 in
set_option maxHeartbeats 1000000 in
theorem copyCheck_fresh (b : Nat) (v : Value) (w : World) (h : w.heap[b]? = some (.cells #[.pointer none, v] 91)) :
    Calls Tryd.prog 73 #[.pointer (some ⟨b, 0, none⟩)] w fun e w' => e = .returned (.tuple #[]) ∧ w'.heap[b]? = some (.cells #[.pointer (some ⟨b, 0, none⟩), v] 91) ∧ w.grownBy w' (some b) := by
  have c0 : w.cell? ⟨b, 0, none⟩ = some (.pointer none) := cell_of_row _ _ 0 _ _ (0, 0) h
  have z0 := frz h 0
  have u1 := to_unsafe h
  have u2 := from_unsafe h
  have n1 := neq_same w b
  have h2 := heap_setCell h 0 (.pointer (some ⟨b, 0, none⟩))
  have c2 : (w.setCell ⟨b, 0, none⟩ (.pointer (some ⟨b, 0, none⟩))).cell? ⟨b, 0, none⟩ = some (.pointer (some ⟨b, 0, none⟩)) := cell_of_row _ _ 0 _ _ (0, 0) h2
  have n2 := neq_same (w.setCell ⟨b, 0, none⟩ (.pointer (some ⟨b, 0, none⟩))) b
  have ne := noEscape (.pointer (some ⟨b, 0, none⟩)) w
  go_enter Tryd.func73, Tryd.ntmps73
  go_wp2_with fail
  go_end0
  exact ⟨rfl, h2, grown_set w b 0 _⟩

set_option maxRecDepth 20000 in
set_option maxHeartbeats 1000000 in
theorem copyCheck_used (b : Nat) (v : Value) (w : World) (h : w.heap[b]? = some (.cells #[.pointer (some ⟨b, 0, none⟩), v] 91)) :
    Calls Tryd.prog 73 #[.pointer (some ⟨b, 0, none⟩)] w fun e w' => e = .returned (.tuple #[]) ∧ w' = w := by
  have c0 : w.cell? ⟨b, 0, none⟩ = some (.pointer (some ⟨b, 0, none⟩)) := cell_of_row _ _ 0 _ _ (0, 0) h
  have n1 := neq_same w b
  go_enter Tryd.func73, Tryd.ntmps73
  go_wp2_with fail
  go_end0
  exact ⟨rfl, rfl⟩

abbrev BdAt (B b : Nat) (bs : List Value) (w : World) : Prop := Lib.BuilderAt 91 5 B b (.pointer (some ⟨b, 0, none⟩)) bs w
abbrev Bd (B b : Nat) (bs : List Value) (w : World) : Prop := Lib.IsBuilder 91 5 B b bs w

theorem copyCheck_any (B b : Nat) (bs : List Value) (w : World) (h : Bd B b bs w) :
    Calls Tryd.prog 73 #[.pointer (some ⟨b, 0, none⟩)] w fun e w' => e = .returned (.tuple #[]) ∧ BdAt B b bs w' ∧ Below B w w' := by
  rcases h with h | h
  · obtain ⟨hB, v, hb, ho, hne⟩ := h
    refine (copyCheck_fresh b v w hb).mono ?_
    rintro e w' ⟨rfl, h2, hg⟩
    exact ⟨rfl, ⟨hB, v, h2, ho.kept hg (.inr hne), hne⟩, (Below.refl B w).grown hg (by have := heap_lt hb; omega) (fun k e => by injection e with e; omega)⟩
  · obtain ⟨hB, v, hb, ho, hne⟩ := h
    refine (copyCheck_used b v w hb).mono ?_
    rintro e w' ⟨rfl, rfl⟩
    exact ⟨rfl, ⟨hB, v, hb, ho, hne⟩, Below.refl _ _⟩

set_option maxRecDepth 20000 in
set_option maxHeartbeats 1000000 in
theorem writeString_any (B b : Nat) (bs : List Value) (s : ByteArray) (w : World) (h : Bd B b bs w) (hl : bs.length + s.size ≤ 140737488355328) (hBw : B ≤ w.heap.size) :
    Calls Tryd.prog 47 #[.pointer (some ⟨b, 0, none⟩), .string s] w fun e w' => e = .returned (.tuple #[.int .i64 s.size, .nilIface]) ∧ BdAt B b (bs ++ Lib.strCells s) w' ∧ Below B w w' := by
  obtain ⟨i0, hin, hz0, hz1, hz2⟩ := info_parts Tryd.info5
  have hc := copyCheck_any B b bs w h
  clear h
  go_enter Tryd.func47, Tryd.ntmps47
  go_wp2_with (first | (go_at_call 73; refine hc.mono ?_; rintro e w1 ⟨rfl, h1, hb1⟩; obtain ⟨hB, v, hbk, hown, hne⟩ := h1; obtain ⟨a1, k1, rfl⟩ := own_form hown; have c1 := cell_of_row _ _ 1 _ _ (0, 0) hbk; simp at c1; have hs1 := hb1.size) | (at_builtin; refine Lib.wpList_append_own_string _ rfl (.tmp 12) (.tmp 13) 89 9 rfl B 5 i0 Tryd.underlying89 Tryd.underlying9 hin hz0 hz1 hz2 _ _ _ rfl hown s rfl (by unfold maxLen; omega) (by omega) (by omega) ?_; intro v4 w4 ho4 hg4 _; obtain ⟨a4, k4, rfl⟩ := own_form ho4; have hbk4 := (hg4.block b (heap_lt hbk) (fun e => hne e.symm)).trans hbk; have z4 := frz hbk4 1; have q4 := cell_of_row _ _ 1 _ _ (0, 0) hbk4; simp at q4; have hbl := hb1.grown hg4 (by omega) (fun k hk => (hown.lt k hk).1)))
  go_ret2
  exact ⟨rfl, Lib.BuilderAt.put hB hbk4 (by simpa [Lib.strCells_length] using ho4) (by decide), hbl.setCell (p := ⟨b, 1, none⟩) hB _⟩
end Go.Proofs.YtofmficdfkeffaaDoor
