/-
  The contract of copyCheck, package strings, at shelf.
-/
import Derived.Test.YtkmdjhdininimaaShQ
import Derived.Lib.Builder
import Derived.Lib.AppendStr
import Derived.Deep.RegionLaw
namespace Go.Proofs.Ytkmdjhdininimaa
open Go.RowKit Go.Maps

theorem grown_set (w : World) (p j : Nat) (v : Value) : w.grownBy (w.setCell ⟨p, j, none⟩ v) (some p) :=
  ⟨rfl, rfl, rfl, by simp [World.setCell], fun k _ hn => Below.heap_setCell w ⟨p, j, none⟩ v k (fun e => hn (by rw [e]))⟩
theorem Try.infoBd : (Try.prog.info? 86).map (·.size) = some 2 := by kernel_rfl
theorem shape_bd {W : World} {b : Nat} {p v : Value} (h : W.heap[b]? = some (.cells #[p, v] 86)) : W.shape? b = some (86, 2) := by
  simp [World.shape?, h]
theorem to_unsafe {W : World} {b : Nat} {p v : Value} (h : W.heap[b]? = some (.cells #[p, v] 86)) : (convert 84 119 (.pointer (some ⟨b, 0, none⟩))).run Try.prog W = .ok (.pointer (some ⟨b, 0, none⟩)) W := by
  cases hj : Try.prog.info? 86 with
  | none => have := Try.infoBd; rw [hj] at this; simp at this
  | some j =>
    have h2 : j.size = 2 := by have := Try.infoBd; rw [hj] at this; simpa using this
    exact Lib.run_to_unsafe W ⟨b, 0, none⟩ Try.underlying84 Try.underlying119 hj (by omega) (shape_bd h) (by show 0 < 2; decide)
theorem from_unsafe {W : World} {b : Nat} {p v : Value} (h : W.heap[b]? = some (.cells #[p, v] 86)) : (convert 119 84 (.pointer (some ⟨b, 0, none⟩))).run Try.prog W = .ok (.pointer (some ⟨b, 0, none⟩)) W := by
  cases hj : Try.prog.info? 86 with
  | none => have := Try.infoBd; rw [hj] at this; simp at this
  | some j => exact Lib.run_from_unsafe W ⟨b, 0, none⟩ Try.underlying119 Try.underlying84 hj (shape_bd h) (by kernel_rfl)
theorem neq_same (W : World) (b : Nat) : (binOp .neq 84 (.pointer (some ⟨b, 0, none⟩)) (.pointer (some ⟨b, 0, none⟩))).run Try.prog W = .ok (.bool false) W := by
  cases hj : Try.prog.info? 86 with
  | none => have := Try.infoBd; rw [hj] at this; simp at this
  | some j => exact Lib.run_neq_ptr_same W ⟨b, 0, none⟩ Try.underlying84 hj

theorem noEscape (x : Value) (W : World) : (callFunc 85 #[x]).run Try.prog W = .ok (.value x) W := by
  rw [run_callFunc_extern Try.func85 (by kernel_rfl) (by kernel_rfl) (by kernel_rfl) (e := Extern.AbiNoEscape.same) (by kernel_rfl)]
  rw [Lib.run_noEscape]
  rfl

set_option maxRecDepth 20000 in
set_option maxHeartbeats 1000000 in
theorem copyCheck_fresh (b : Nat) (v : Value) (w : World) (h : w.heap[b]? = some (.cells #[.pointer none, v] 86)) :
    Calls Try.prog 72 #[.pointer (some ⟨b, 0, none⟩)] w fun e w' => e = .returned (.tuple #[]) ∧ w'.heap[b]? = some (.cells #[.pointer (some ⟨b, 0, none⟩), v] 86) ∧ w.grownBy w' (some b) := by
  have c0 : w.cell? ⟨b, 0, none⟩ = some (.pointer none) := (by simpa using cell_at h 0)
  have z0 := frozen_at h 0
  have u1 := to_unsafe h
  have u2 := from_unsafe h
  have n1 := neq_same w b
  have h2 := heap_setCell h 0 (.pointer (some ⟨b, 0, none⟩))
  have c2 : (w.setCell ⟨b, 0, none⟩ (.pointer (some ⟨b, 0, none⟩))).cell? ⟨b, 0, none⟩ = some (.pointer (some ⟨b, 0, none⟩)) := (by simpa using cell_at h2 0)
  have n2 := neq_same (w.setCell ⟨b, 0, none⟩ (.pointer (some ⟨b, 0, none⟩))) b
  have ne := noEscape (.pointer (some ⟨b, 0, none⟩)) w
  go_enter Try.func72, Try.ntmps72
  go_wp2_with fail
  go_end0
  exact ⟨rfl, h2, grown_set w b 0 _⟩

set_option maxRecDepth 20000 in
set_option maxHeartbeats 1000000 in
theorem copyCheck_used (b : Nat) (v : Value) (w : World) (h : w.heap[b]? = some (.cells #[.pointer (some ⟨b, 0, none⟩), v] 86)) :
    Calls Try.prog 72 #[.pointer (some ⟨b, 0, none⟩)] w fun e w' => e = .returned (.tuple #[]) ∧ w' = w := by
  have c0 : w.cell? ⟨b, 0, none⟩ = some (.pointer (some ⟨b, 0, none⟩)) := (by simpa using cell_at h 0)
  have n1 := neq_same w b
  go_enter Try.func72, Try.ntmps72
  go_wp2_with fail
  go_end0
  exact ⟨rfl, rfl⟩

abbrev BdAt (B b : Nat) (bs : List Value) (w : World) : Prop := Lib.BuilderAt 86 5 B b (.pointer (some ⟨b, 0, none⟩)) bs w
abbrev Bd (B b : Nat) (bs : List Value) (w : World) : Prop := Lib.IsBuilder 86 5 B b bs w

theorem copyCheck_any (B b : Nat) (bs : List Value) (w : World) (h : Bd B b bs w) :
    Calls Try.prog 72 #[.pointer (some ⟨b, 0, none⟩)] w fun e w' => e = .returned (.tuple #[]) ∧ BdAt B b bs w' ∧ Below B w w' := by
  rcases h with h | h
  · obtain ⟨hB, v, hb, ho, hne⟩ := h
    refine (copyCheck_fresh b v w hb).mono ?_
    rintro e w' ⟨rfl, h2, hg⟩
    exact ⟨rfl, ⟨hB, v, h2, ho.kept hg (.inr hne), hne⟩, (Below.refl B w).grown hg (by have := heap_lt hb; omega) (fun k e => by injection e with e; omega)⟩
  · obtain ⟨hB, v, hb, ho, hne⟩ := h
    refine (copyCheck_used b v w hb).mono ?_
    rintro e w' ⟨rfl, rfl⟩
    exact ⟨rfl, ⟨hB, v, hb, ho, hne⟩, Below.refl _ _⟩

end Go.Proofs.Ytkmdjhdininimaa
