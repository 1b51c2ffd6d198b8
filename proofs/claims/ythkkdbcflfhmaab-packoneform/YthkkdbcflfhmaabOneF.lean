/-
  What the law PackOneForm needs of the readers, each with what holds where it reads well.
-/
import Derived.Test.YthkkdbcflfhmaabFormsL
import Derived.Test.YthkkdbcflfhmaabPackReads
import Derived.Deep.RegionHeld3
import Derived.Deep.RegionWith
import Derived.BigRegion
import Derived.Deep.DeepCutAuto
namespace Go.Proofs.Ythkkdbcflfhmaab.packOneForm
open Go.ChangeShapes Go.WideShapes Go.ChangeAt Go.RowKit Go.PlainAid
open Go.ChangeMaps (open_string shut_string)
open packReads (reads_below)

theorem chain {w a b : World} (h : Below w.heap.size w a) (k : Below a.heap.size a b) : Below w.heap.size w b := h.trans (k.mono h.size)
theorem chainD {w a b : World} (h : Below w.heap.size w a) (k : Below a.drew.heap.size a.drew b) : Below w.heap.size w b := chain h (Below.trans (Below.refl _ _).drew k)

theorem slice_head (s : ByteArray) (p : Nat) (W : World) (h0 : 0 < p) (h : p ≤ s.size) :
    (Instr.slice 9 (.string s) none (some (.int .i64 ((p : Int) - 1))) none).run Try.prog W = .ok (.string (s.extract 0 (p - 1))) W := by
  have e : ((p : Int) - 1).toNat = p - 1 := by omega
  rw [run_slice_string_h (P := Try.prog) W 9 s Try.underlying9 .i64 ((p : Int) - 1) (by omega) (by omega), e]

theorem slice_form (s : ByteArray) (b : Nat) (F : List UInt8) (W : World) (h : At s b F) :
    (Instr.slice 9 (.string s) (some (.int .i64 (b : Int))) (some (.int .i64 ((b + F.length : Nat) : Int))) none).run Try.prog W = .ok (.string (mk F)) W := by
  have h1 := h.1
  rw [run_slice_string_if (P := Try.prog) (w := W) 9 s .i64 .i64 (b : Int) ((b + F.length : Nat) : Int) Try.underlying9, if_pos (by omega), if_pos (by omega)]
  rw [show ((b : Int)).toNat = b by omega, show (((b + F.length : Nat) : Int)).toNat = b + F.length by omega, at_extract h]

theorem numFacts (s : ByteArray) (a : Int) (hs : s.size ≤ maxLen) :
    ∃ x y er : Int, (∀ W, Calls Try.prog 19 #[.string s, .int .i64 a] W fun e w' => e = .returned (.tuple #[.int .i64 x, .int .i64 y, .int .i64 er]) ∧ W = w') ∧
    (er = 0 → ∃ (b n p : Nat) (s1 : ByteArray), a = (b : Int) ∧ x = (n : Int) ∧ y = (p : Int) ∧ b < p ∧ p ≤ s.size ∧ n ≤ 1125899906842624 ∧
      (∀ W, (Instr.slice 9 (.string s) none (some (.int .i64 ((p : Int) - 1))) none).run Try.prog W = .ok (.string s1) W) ∧
      (∀ W, Calls Try.prog 19 #[.string s1, .int .i64 (b : Int)] W fun e w' => e = .returned (.tuple #[.int .i64 0, .int .i64 0, .int .i64 21]) ∧ W = w') ∧
      (∀ W, (Instr.slice 9 (.string s) (some (.int .i64 (b : Int))) (some (.int .i64 (p : Int))) none).run Try.prog W = .ok (.string (mk (numB n))) W)) := by
  refine ⟨_, _, _, fun W => takeNum_any s a W hs, fun h0 => ?_⟩
  have e : tk s a 1125899906842624 = ((tk s a 1125899906842624).1, (tk s a 1125899906842624).2.1, 0) := Prod.ext rfl (Prod.ext rfl h0)
  obtain ⟨b, m, h1, h2, h3, h4, h5⟩ := tk_of (by decide) e
  have hpos := numB_pos m
  have hsz := h4.1
  have hcut : tk (s.extract 0 (b + (numB m).length - 1)) (b : Int) 1125899906842624 = (0, 0, 21) := by
    have := atCut_of h4 hpos
    exact tk_cutoff (by omega) this.1 this.2
  refine ⟨b, m, b + (numB m).length, s.extract 0 (b + (numB m).length - 1), h1, h2, h5, by omega, h4.1, by omega, fun W => slice_head s _ W (by omega) h4.1, fun W => ?_, fun W => slice_form s b _ W h4⟩
  have := takeNum_any (s.extract 0 (b + (numB m).length - 1)) (b : Int) W (by rw [size_ext _ _ (by omega)]; omega)
  rwa [hcut] at this

theorem listFacts (s : ByteArray) (a : Int) (hs : s.size ≤ maxLen) :
    ∃ (l : List ByteArray) (y er : Int), (∀ W, Calls Try.prog 26 #[.string s, .int .i64 a] W fun e w' => ∃ v, e = .returned (.tuple #[v, .int .i64 y, .int .i64 er]) ∧ Reads w' v l ∧ Below W.heap.size W w') ∧
    (er = 0 → ∃ (b p : Nat) (F : ByteArray) (s1 : ByteArray), a = (b : Int) ∧ y = (p : Int) ∧ b < p ∧ p ≤ s.size ∧
      (∀ v W, Reads W v l → Calls Try.prog 13 #[v] W fun e w' => e = .returned (.tuple #[.string F, .int .i64 0]) ∧ Below W.heap.size W w') ∧
      (∀ W, (Instr.slice 9 (.string s) none (some (.int .i64 ((p : Int) - 1))) none).run Try.prog W = .ok (.string s1) W) ∧
      (∀ W, Calls Try.prog 26 #[.string s1, .int .i64 (b : Int)] W fun e w' => ∃ v x, e = .returned (.tuple #[v, .int .i64 x, .int .i64 21]) ∧ Below W.heap.size W w') ∧
      (∀ W, (Instr.slice 9 (.string s) (some (.int .i64 (b : Int))) (some (.int .i64 (p : Int))) none).run Try.prog W = .ok (.string F) W)) := by
  refine ⟨(tkL s a).1, (tkL s a).2.1, (tkL s a).2.2, fun W => (takeList_any s a W hs).mono ?_, fun h0 => ?_⟩
  · rintro e w' ⟨v, he, ho, hb⟩
    exact ⟨v, he, reads_own ho, hb⟩
  have e : tkL s a = ((tkL s a).1, (tkL s a).2.1, 0) := Prod.ext rfl (Prod.ext rfl h0)
  obtain ⟨b, h1, h2, h3, h4, h5⟩ := tkL_of e
  have hpos : 0 < (listB (tkL s a).1).length := by
    have := numB_pos (tkL s a).1.length
    simp only [listB, List.length_append]
    omega
  have hsz := h4.1
  have hcut := tkL_cutoff h2 h3 (atCut_of h4 hpos)
  have hR : listR (tkL s a).1 = (mk (listB (tkL s a).1), 0) := by rw [listR, if_pos ⟨h2, h3⟩]
  refine ⟨b, b + (listB (tkL s a).1).length, mk (listB (tkL s a).1), s.extract 0 (b + (listB (tkL s a).1).length - 1), h1, h5, by omega, h4.1, fun v W hr => ?_, fun W => slice_head s _ W (by omega) h4.1, fun W => ?_, fun W => slice_form s b _ W h4⟩
  · have := list_any v _ W (by unfold maxLen; omega) hr
    rwa [hR] at this
  · refine (takeList_any (s.extract 0 (b + (listB (tkL s a).1).length - 1)) (b : Int) W (by rw [size_ext _ _ (by omega)]; omega)).mono ?_
    rintro e w' ⟨v, he, ho, hb⟩
    rw [hcut] at he
    exact ⟨v, _, he, hb⟩

theorem wordFacts (s : ByteArray) (a : Int) (hs : s.size ≤ maxLen) :
    ∃ x y er : Int, (∀ W, Calls Try.prog 23 #[.string s, .int .i64 a] W fun e w' => e = .returned (.tuple #[.int .u32 x, .int .i64 y, .int .i64 er]) ∧ W = w') ∧
    (er = 0 ∨ er = 1 ∨ er = 21) ∧ (er = 0 → ∃ n : Nat, 0 ≤ a ∧ a + 4 ≤ (s.size : Int) ∧ x = (n : Int) ∧ y = a + 4 ∧ n ≤ 4294967295 ∧
      (∀ W, (Instr.slice 9 (.string s) (some (.int .i64 a)) (some (.int .i64 (a + 4))) none).run Try.prog W = .ok (.string (mk (wordB n))) W)) := by
  refine ⟨_, _, _, fun W => takeWord_any s a W hs, by unfold tkW; split <;> (try split) <;> simp, fun h0 => ?_⟩
  have e : tkW s a = ((tkW s a).1, (tkW s a).2.1, 0) := Prod.ext rfl (Prod.ext rfl h0)
  obtain ⟨b, x, h1, h2, h3, h4, h5⟩ := tkW_of e
  have h6 := h5.1
  rw [wordB_len] at h6
  refine ⟨x, by omega, by omega, h2, by omega, h3, fun W => ?_⟩
  rw [h1]
  exact slice_form s b _ W h5

end Go.Proofs.Ythkkdbcflfhmaab.packOneForm
