/-
  record's sheet: a builder, and the pairs that are done. The builder's own functions, in a sheet.
-/
import Derived.Test.YtdheddgdlindmaaDlE
import Derived.Test.YtdheddgdlindmaaMono
import Derived.Test.YtdheddgdlindmaaBeh
import Derived.Lib.Builder
import Derived.Lib.AppendStr
import Derived.Lib.UnsafeStr
import Derived.Deep.RegionLaw
namespace Go.Proofs.Ytdheddgdlindmaa
open Go.WideShapes Go.RowKit Go.ChangeShapes Go.ChangeAt Go.PlainAid

/-- A pair. -/
structure PaD where
  k : ByteArray
  v : ByteArray
def pcs : List PaD → List Value
  | [] => []
  | p :: l => .string p.k :: .string p.v :: pcs l
theorem pcs_len : ∀ l : List PaD, (pcs l).length = l.length * 2
  | [] => rfl
  | _ :: l => by simp [pcs, pcs_len l]; omega
theorem pcs_app : ∀ l m : List PaD, pcs (l ++ m) = pcs l ++ pcs m
  | [], _ => rfl
  | _ :: l, m => by simp [pcs, pcs_app l m]
theorem gbS {g : Nat} {a b : World} (h : Below a.heap.size a b) : a.grownBy b (some g) := ⟨h.os, h.tape, h.output, h.size, fun i hi _ => h.block i hi⟩

theorem Try.infoBdS : (Try.prog.info? 54).map (·.size) = some 2 := by kernel_rfl
theorem shape_sh {W : World} {b : Nat} {p v d : Value} (h : W.heap[b]? = some (.cells #[p, v, d] 56)) : W.shape? b = some (56, 3) := by
  simp [World.shape?, h]
theorem to_unsafeS {W : World} {b : Nat} {p v d : Value} (h : W.heap[b]? = some (.cells #[p, v, d] 56)) : (convert 51 142 (.pointer (some ⟨b, 0, none⟩))).run Try.prog W = .ok (.pointer (some ⟨b, 0, none⟩)) W := by
  cases hj : Try.prog.info? 54 with
  | none => have := Try.infoBdS; rw [hj] at this; simp at this
  | some j =>
    have h2 : j.size = 2 := by have := Try.infoBdS; rw [hj] at this; simpa using this
    exact Lib.run_to_unsafe W ⟨b, 0, none⟩ Try.underlying51 Try.underlying142 hj (by omega) (shape_sh h) (by show 0 < 3; decide)
theorem from_unsafeS {W : World} {b : Nat} {p v d : Value} (h : W.heap[b]? = some (.cells #[p, v, d] 56)) : (convert 142 51 (.pointer (some ⟨b, 0, none⟩))).run Try.prog W = .ok (.pointer (some ⟨b, 0, none⟩)) W := by
  cases hj : Try.prog.info? 54 with
  | none => have := Try.infoBdS; rw [hj] at this; simp at this
  | some j => exact Lib.run_from_unsafe W ⟨b, 0, none⟩ Try.underlying142 Try.underlying51 hj (shape_sh h) (by kernel_rfl)
theorem neq_sameS (W : World) (b : Nat) : (binOp .neq 51 (.pointer (some ⟨b, 0, none⟩)) (.pointer (some ⟨b, 0, none⟩))).run Try.prog W = .ok (.bool false) W := by
  cases hj : Try.prog.info? 54 with
  | none => have := Try.infoBdS; rw [hj] at this; simp at this
  | some j => exact Lib.run_neq_ptr_same W ⟨b, 0, none⟩ Try.underlying51 hj
theorem noEscapeS (x : Value) (W : World) : (callFunc 96 #[x]).run Try.prog W = .ok (.value x) W := by
  rw [run_callFunc_extern Try.func96 (by kernel_rfl) (by kernel_rfl) (by kernel_rfl) (e := Extern.AbiNoEscape.same) (by kernel_rfl)]
  rw [Lib.run_noEscape]
  rfl
theorem cells3S {W : World} {b : Nat} {p v d : Value} (h : W.heap[b]? = some (.cells #[p, v, d] 56)) : W.cell? ⟨b, 0, none⟩ = some p ∧ W.cell? ⟨b, 1, none⟩ = some v ∧ W.cell? ⟨b, 2, none⟩ = some d := by
  have q := fun j => cell_of_row W b j _ _ (0, 0) h
  exact ⟨q 0, q 1, q 2⟩

set_option maxRecDepth 20000 in
set_option maxHeartbeats 1000000 in
theorem copyCheckS_fresh (b : Nat) (v d : Value) (w : World) (h : w.heap[b]? = some (.cells #[.pointer none, v, d] 56)) :
    Calls Try.prog 86 #[.pointer (some ⟨b, 0, none⟩)] w fun e w' => e = .returned (.tuple #[]) ∧ w'.heap[b]? = some (.cells #[.pointer (some ⟨b, 0, none⟩), v, d] 56) ∧ w.grownBy w' (some b) := by
  have c0 : w.cell? ⟨b, 0, none⟩ = some (.pointer none) := cell_of_row _ _ 0 _ _ (0, 0) h
  have z0 := frz h 0
  have u1 := to_unsafeS h
  have u2 := from_unsafeS h
  have n1 := neq_sameS w b
  have h2 := heap_setCell h 0 (.pointer (some ⟨b, 0, none⟩))
  have c2 : (w.setCell ⟨b, 0, none⟩ (.pointer (some ⟨b, 0, none⟩))).cell? ⟨b, 0, none⟩ = some (.pointer (some ⟨b, 0, none⟩)) := cell_of_row _ _ 0 _ _ (0, 0) h2
  have n2 := neq_sameS (w.setCell ⟨b, 0, none⟩ (.pointer (some ⟨b, 0, none⟩))) b
  have ne := noEscapeS (.pointer (some ⟨b, 0, none⟩)) w
  go_enter Try.func86, Try.ntmps86
  go_wp2_with fail
  go_end0
  exact ⟨rfl, h2, grown_set w b 0 _⟩
set_option maxRecDepth 20000 in
set_option maxHeartbeats 1000000 in
theorem copyCheckS_used (b : Nat) (v d : Value) (w : World) (h : w.heap[b]? = some (.cells #[.pointer (some ⟨b, 0, none⟩), v, d] 56)) :
    Calls Try.prog 86 #[.pointer (some ⟨b, 0, none⟩)] w fun e w' => e = .returned (.tuple #[]) ∧ w' = w := by
  have c0 : w.cell? ⟨b, 0, none⟩ = some (.pointer (some ⟨b, 0, none⟩)) := cell_of_row _ _ 0 _ _ (0, 0) h
  have n1 := neq_sameS w b
  go_enter Try.func86, Try.ntmps86
  go_wp2_with fail
  go_end0
  exact ⟨rfl, rfl⟩
/-- All but sheets, bytes and pairs is as it was. -/
structure K3 (W W' : World) : Prop where
  size : W.heap.size ≤ W'.heap.size
  blk : ∀ (i : Nat) (cs : Array Value) (t : TypeId), W.heap[i]? = some (.cells cs t) → t ≠ 56 → t ≠ 5 → t ≠ 44 → W'.heap[i]? = some (.cells cs t)
theorem K3.refl (W : World) : K3 W W := ⟨Nat.le_refl _, fun _ _ _ h _ _ _ => h⟩
theorem K3.trans {a b c : World} (h : K3 a b) (k : K3 b c) : K3 a c := ⟨Nat.le_trans h.size k.size, fun i cs t h1 h2 h3 h4 => k.blk i cs t (h.blk i cs t h1 h2 h3 h4) h2 h3 h4⟩
theorem k3_below {W W' : World} (h : Below W.heap.size W W') : K3 W W' := ⟨h.size, fun i _ _ h1 _ _ _ => (h.block i (heap_lt h1)).trans h1⟩
theorem k3_box {W W' : World} {j : Nat} {c : Array Value} {t0 : TypeId} (hg : W.grownBy W' (some j)) (hj : W.heap[j]? = some (.cells c t0)) (ht : t0 = 56 ∨ t0 = 5 ∨ t0 = 44) : K3 W W' :=
  ⟨hg.size, fun i cs t h1 h2 h3 h4 => (hg.block i (heap_lt h1) (fun e => by
    injection e with e
    subst e
    rw [hj] at h1
    cases h1
    rcases ht with rfl | rfl | rfl
    · exact h2 rfl
    · exact h3 rfl
    · exact h4 rfl)).trans h1⟩
theorem k3_own {W W' : World} {B e z n : Nat} {v : Value} {xs : List Value} (ho : W.ownsRow B e z v n xs) (hg : W.grownBy W' v.ownBlock) (he : e = 5 ∨ e = 44) : K3 W W' := by
  rcases ho.2 with ⟨rfl, -⟩ | ⟨g, cap, cur, rfl, -, hk, -⟩
  · exact ⟨hg.size, fun i cs t h1 _ _ _ => (hg.block i (heap_lt h1) (fun e => by cases e)).trans h1⟩
  · exact k3_box (j := g) hg hk (.inr he)
theorem k3_set {W : World} {b j : Nat} {x : Value} {c : Array Value} (h : W.heap[b]? = some (.cells c 56)) : K3 W (W.setCell ⟨b, j, none⟩ x) := k3_box (grown_set W b j x) h (.inl rfl)
/-- A sheet: what is written, and what is done; p is the builder's own word. -/
def ShAt (B b : Nat) (p : Value) (cur : List UInt8) (D : List PaD) (W : World) : Prop :=
  B ≤ b ∧ ∃ bv dv, W.heap[b]? = some (.cells #[p, bv, dv] 56) ∧ W.ownsRow B 5 1 bv cur.length (Lib.byteCells cur) ∧ W.ownsRow B 44 2 dv D.length (pcs D)
def IsSh (B b : Nat) (cur : List UInt8) (D : List PaD) (W : World) : Prop := ShAt B b (.pointer none) cur D W ∨ ShAt B b (.pointer (some ⟨b, 0, none⟩)) cur D W
theorem ShAt.below {B b : Nat} {p : Value} {cur : List UInt8} {D : List PaD} {W W' : World} (h : ShAt B b p cur D W) (hb : Below W.heap.size W W') : ShAt B b p cur D W' := by
  obtain ⟨hB, bv, dv, hk, h1, h2⟩ := h
  exact ⟨hB, bv, dv, (hb.block b (heap_lt hk)).trans hk, own_belowG h1 hb, own_belowG h2 hb⟩
theorem IsSh.below {B b : Nat} {cur : List UInt8} {D : List PaD} {W W' : World} (h : IsSh B b cur D W) (hb : Below W.heap.size W W') : IsSh B b cur D W' := h.imp (fun h => h.below hb) (fun h => h.below hb)
theorem IsSh.lt {B b : Nat} {cur : List UInt8} {D : List PaD} {W : World} (h : IsSh B b cur D W) : B ≤ b ∧ b < W.heap.size := by
  rcases h with ⟨hB, bv, dv, hk, -⟩ | ⟨hB, bv, dv, hk, -⟩ <;> exact ⟨hB, heap_lt hk⟩
theorem copyCheckS_any (B b : Nat) (cur : List UInt8) (D : List PaD) (w : World) (h : IsSh B b cur D w) :
    Calls Try.prog 86 #[.pointer (some ⟨b, 0, none⟩)] w fun e w' => e = .returned (.tuple #[]) ∧ ShAt B b (.pointer (some ⟨b, 0, none⟩)) cur D w' ∧ Below B w w' ∧ K3 w w' := by
  rcases h with h | h
  · obtain ⟨hB, bv, dv, hk, h1, h2⟩ := h
    refine (copyCheckS_fresh b bv dv w hk).mono ?_
    rintro e w' ⟨rfl, hk', hg⟩
    refine ⟨rfl, ⟨hB, bv, dv, hk', h1.kept hg (.inr (fun e => box_apart h1 hk (by decide) e.symm)), h2.kept hg (.inr (fun e => box_apart h2 hk (by decide) e.symm))⟩, (Below.refl B w).grown hg (by have := heap_lt hk; omega) (fun k e => by injection e with e; omega), k3_box hg hk (.inl rfl)⟩
  · obtain ⟨hB, bv, dv, hk, h1, h2⟩ := h
    refine (copyCheckS_used b bv dv w hk).mono ?_
    rintro e w' ⟨rfl, rfl⟩
    exact ⟨rfl, ⟨hB, bv, dv, hk, h1, h2⟩, Below.refl _ _, K3.refl _⟩
set_option maxRecDepth 20000 in
set_option maxHeartbeats 1000000 in
theorem writeStringS_any (B b : Nat) (cur : List UInt8) (D : List PaD) (s : ByteArray) (w : World) (h : IsSh B b cur D w) (hl : cur.length + s.size ≤ 140737488355328) (hBw : B ≤ w.heap.size) :
    Calls Try.prog 71 #[.pointer (some ⟨b, 0, none⟩), .string s] w fun e w' => e = .returned (.tuple #[.int .i64 s.size, .nilIface]) ∧ IsSh B b (cur ++ s.data.toList) D w' ∧ Below B w w' ∧ K3 w w' := by
  obtain ⟨i0, hin, hz0, hz1, hz2⟩ := info_parts Try.info5
  have hc := copyCheckS_any B b cur D w h
  clear h
  go_enter Try.func71, Try.ntmps71
  go_wp2_with (first | (go_at_call 86; refine hc.mono ?_; rintro e w1 ⟨rfl, h1, hb1, hk1⟩; obtain ⟨hB, v, dv, hbk, hown, hdn⟩ := h1; obtain ⟨a1, k1, rfl⟩ := own_form hown; have c1 := (cells3S hbk).2.1; have hs1 := hb1.size) | (at_builtin; refine Lib.wpList_append_own_string _ rfl (.tmp 12) (.tmp 13) 52 9 rfl B 5 i0 Try.underlying52 Try.underlying9 hin hz0 hz1 hz2 _ _ _ rfl hown s rfl (by unfold maxLen; omega) (by omega) (by omega) ?_; intro v4 w4 ho4 hg4 _; obtain ⟨a4, k4, rfl⟩ := own_form ho4; have hbk4 := (hg4.block b (heap_lt hbk) (box_apart hown hbk (by decide))).trans hbk; have z4 := frz hbk4 1; have q4 := (cells3S hbk4).2.1; have hbl := hb1.grown hg4 (by omega) (fun k hk => (hown.lt k hk).1); have hd4 := hdn.kept hg4 (own_apart hdn hown (by decide)); have hk4 := hk1.trans (k3_own hown hg4 (.inl rfl))))
  go_ret2
  refine ⟨rfl, .inr ⟨hB, _, dv, heap_setCell hbk4 1 _, ?_, own_set hd4 hbk4 (by decide)⟩, hbl.setCell (p := ⟨b, 1, none⟩) hB _, hk4.trans (k3_set hbk4)⟩
  have := own_set ho4 hbk4 (by decide) (j := 1) (x := .slice a4 (cur.length + s.size) k4)
  rw [Lib.strCells_eq, ← Lib.byteCells_append] at this
  rw [List.length_append, data_len]
  exact this
set_option maxRecDepth 20000 in
set_option maxHeartbeats 1000000 in
theorem resetS_any (B b : Nat) (p bv dv : Value) (D : List PaD) (w : World) (hB : B ≤ b) (h : w.heap[b]? = some (.cells #[p, bv, dv] 56)) (hd : w.ownsRow B 44 2 dv D.length (pcs D)) :
    Calls Try.prog 74 #[.pointer (some ⟨b, 0, none⟩)] w fun e w' => e = .returned (.tuple #[]) ∧ IsSh B b [] D w' ∧ Below B w w' ∧ K3 w w' := by
  obtain ⟨c0, c1, c2⟩ := cells3S h
  have z0 := frz h 0
  have z1 := frz h 1
  go_enter Try.func74, Try.ntmps74
  go_wp2_with fail
  go_end0
  have h1 := heap_setCell h 0 (.pointer none)
  exact ⟨rfl, .inl ⟨hB, _, dv, heap_setCell h1 1 (.slice none 0 0), World.ownsRow_nil _ _ _ _, own_set (own_set hd h (by decide)) h1 (by decide)⟩, ((Below.refl B w).setCell (p := ⟨b, 0, none⟩) hB _).setCell (p := ⟨b, 1, none⟩) hB _, (k3_set h).trans (k3_set h1)⟩
theorem fr_grown (w : World) (g n : Nat) : w.grownBy (w.drew.freeze ⟨g, 0, none⟩ n) (some g) := by
  unfold World.freeze
  split
  · exact ⟨rfl, rfl, rfl, Nat.le_refl _, fun i _ _ => rfl⟩
  · refine ⟨rfl, rfl, rfl, by simp, fun i _ hn => ?_⟩
    simp only [Array.getElem?_modify]
    rw [if_neg (fun e => hn (by rw [← e]))]
    rfl
set_option maxRecDepth 20000 in
set_option maxHeartbeats 1000000 in
/-- String, of at least one byte: the buffer is frozen, all else is as it was. -/
theorem stringS_any (B b : Nat) (p bv dv : Value) (l : List UInt8) (w : World) (hk : w.heap[b]? = some (.cells #[p, bv, dv] 56)) (hown : w.ownsRow B 5 1 bv l.length (Lib.byteCells l)) (h0 : l ≠ []) :
    Calls Try.prog 73 #[.pointer (some ⟨b, 0, none⟩)] w fun e w' => e = .returned (.string (mk l)) ∧ w.grownBy w' bv.ownBlock := by
  have hl0 : l.length ≠ 0 := by simpa using h0
  obtain ⟨g, cap, cur, rfl, hbg, hg, hnc, hcm, hcs, htake⟩ : ∃ g cap cur, bv = .slice (some ⟨g, 0, none⟩) l.length cap ∧ B ≤ g ∧ w.heap[g]? = some (.cells cur 5 (0, 0)) ∧ l.length ≤ cap ∧ cap ≤ maxLen ∧ cur.size = cap * 1 ∧ cur.toList.take (l.length * 1) = Lib.byteCells l := by
    rcases hown.2 with ⟨_, hz⟩ | ⟨g, cap, cur, hv, r⟩
    · exact absurd hz hl0
    · exact ⟨g, cap, cur, hv, r⟩
  have c1 : w.drew.cell? ⟨b, 1, none⟩ = some (.slice (some ⟨g, 0, none⟩) l.length cap) := (cells3S (W := w.drew) hk).2.1
  have hSD : (Builtin.unsafeSliceData_ #[52] 128 #[.slice (some ⟨g, 0, none⟩) l.length cap]).run Try.prog w.drew = .ok (.pointer (some ⟨g, 0, none⟩)) w.drew :=
    Lib.run_unsafeSliceData_row _ _ _ _ _ _ (by omega)
  have hUS : (Builtin.unsafeString_ #[128, 3] 9 #[.pointer (some ⟨g, 0, none⟩), .int .i64 l.length]).run Try.prog w.drew = .ok (.string ⟨l.toArray⟩) (w.drew.freeze ⟨g, 0, none⟩ l.length) := by
    refine Lib.run_unsafeString_row w.drew 128 3 9 5 Try.underlying128 pk.Try.cells5 g cur.size (by have hg' : w.drew.heap[g]? = some (.cells cur 5 (0, 0)) := hg; simp [World.shape?, hg']) l h0 (by omega) (by unfold maxLen at hcm; omega) ?_
    intro j x hx
    exact hown.cells (g := g) rfl j (.int .u8 x.toNat) (by simp [Lib.byteCells, hx])
  go_enter Try.func73, Try.ntmps73
  go_wp2_with fail
  go_region
  all_goals
    go_wp2_with fail
    go_ret
  all_goals exact ⟨rfl, fr_grown w g l.length⟩
end Go.Proofs.Ytdheddgdlindmaa
