/-
  The contracts of the reference's Double and Take.
-/
import Derived.Test.YtdkhfehoohiflaaNtN
namespace Go.Proofs.Ytdkhfehoohiflaa.nt
open Go.Maps Go.WideShapes Go.RowKit Go.ChangeShapes Go.ChangeAt Go.PlainAid

set_option maxRecDepth 20000 in
set_option maxHeartbeats 1000000 in
theorem rdouble_ok (R : RfS) (k : Nat) (x : LtD) (w : World) (h : IsRf w R) (hx : R.L[k]? = some x) (hl : (R.L.length : Int) < R.room) :
    Calls Try.prog 18 #[.pointer (some ⟨R.p, 0, none⟩), .int .i64 (k : Int)] w fun e w' => e = .returned (.int .i64 0) ∧ ∃ R', RAft w w' R (R.L ++ [x]) R' := by
  have hk : k < R.L.length := (List.getElem?_eq_some_iff.1 hx).1
  have hk' : (k : Int) < (R.L.length : Int) := by omega
  have hk2 : ¬ (R.L.length : Int) ≤ (k : Int) := by omega
  have hne : ¬ R.room ≤ (R.L.length : Int) := by omega
  obtain ⟨c0, c1, -⟩ := rf_cells h.bx
  obtain ⟨ao, cp, hu⟩ := own_form h.row
  have hr3 := h.rm.2
  obtain ⟨b, off, rfl, hbw, d0, d1⟩ := rdl_cells hu (rdl_own h.row) hx
  have HU : Hid (R.u = .slice (some ⟨b, off, none⟩) R.L.length cp) := hu
  rw [hu] at c1
  clear hu
  go_enter Try.func18, Try.ntmps18
  go_wp2_with fail
  go_region
  have hN6 := h.only (Only.drew [] _) (by simp)
  have hb6 : Below w.heap.size w w.drew := Below.drew (Below.refl _ w)
  go_wp2_with fail
  obtain ⟨e0, e1, e3⟩ := rf_cells hN6.bx
  obtain ⟨iL, hi, hz0, hz1, hz2⟩ := info_parts Try.infoLt
  have hrow := hN6.row
  have hbx6 := hN6.bx
  have d0 : w.drew.cell? ⟨b, off + k * 2, none⟩ = some (.int .i64 x.to) := d0
  have d1 : w.drew.cell? ⟨b, off + k * 2 + 1, none⟩ = some (.string x.t) := d1
  have hbw : b < w.drew.heap.size := hbw
  rw [HU.out] at e1
  clear c0 c1 hk2 hne
  generalize w.drew = w6 at *
  have hap2 : some R.p ≠ R.u.ownBlock := fun e => h.apart e.symm
  have hpl : R.p < (w6.drew.alloc (.cells #[.int .i64 x.to, .string x.t] 37)).heap.size := by have := heap_lt hbx6; simp; omega
  have hpe : (w6.drew.alloc (.cells #[.int .i64 x.to, .string x.t] 37)).heap[R.p]? = some (.cells #[.int .i64 R.room, R.u] 62) := (Below.heap_alloc w6.drew _ _ (heap_lt hbx6)).trans hbx6
  obtain ⟨-, q1, q3⟩ : (w6.alloc (.cells #[.int .i64 x.to, .string x.t] 37)).cell? ⟨R.p, 0, none⟩ = some (.int .i64 R.room) ∧ (w6.alloc (.cells #[.int .i64 x.to, .string x.t] 37)).cell? ⟨R.p, 1, none⟩ = some R.u ∧ _ := rf_cells hpe
  rw [HU.out] at q1
  have hrow' : w6.ownsRow 0 37 2 (.slice (some ⟨b, off, none⟩) R.L.length cp) R.L.length (lcs R.L) := by rw [← HU.out]; exact hrow
  go_region_law (refine step_append_lies _ (by rfl) (.tmp 30) (.tmp 38) 31 (by rfl) 0 37 iL (.agg #[.int .i64 0, .string ⟨#[]⟩]) 2 24 Try.underlying31 hi hz0 hz1 hz2 rfl (by decide) (.slice (some ⟨b, off, none⟩) R.L.length cp) R.L.length (lcs R.L) (by simp [Act.eval]) (World.ownsRow.alloc (w := w6.drew) hrow' _) ⟨w6.heap.size, 0, none⟩ 1 1 [.int .i64 x.to, .string x.t] (by simp [Act.eval]) rfl (World.news_of_block (heap_alloc_new w6.drew _)) (by simp [Value.oneCell']) (by decide) (by unfold maxLen; omega) (by omega) (Nat.zero_le _) (w6.heap.size + 1) (by simp) ?_; intro g cap w7 hown hgr hg hlt7; have hgr' := hgr; have hg' := hg; rw [← HU.out] at hgr' hg'; have hx7 := (hgr'.block R.p hpl hap2).trans hpe; obtain ⟨-, k1, k3⟩ := rf_cells hx7)
  all_goals (go_wp2_with fail)
  all_goals
    go_ret
    exact ⟨rfl, rf_end h hl hb6 hown hgr' hg' hx7⟩

set_option maxRecDepth 20000 in
set_option maxHeartbeats 1000000 in
theorem rdouble_any (R : RfS) (i : Int) (w : World) (h : IsRf w R) :
    Calls Try.prog 18 #[.pointer (some ⟨R.p, 0, none⟩), .int .i64 i] w fun e w' => e = .returned (.int .i64 (R.N.dbE i)) ∧ ∃ R', RAft w w' R (R.N.dbL i) R' := by
  have hi : R.N.hasI i = true ↔ 0 ≤ i ∧ i < (R.L.length : Int) := hasI_iff
  by_cases hI : R.N.hasI i = true
  · obtain ⟨k, rfl⟩ := Int.eq_ofNat_of_zero_le (hi.1 hI).1
    have hk' := (hi.1 hI).2
    have hk : k < R.L.length := by omega
    by_cases hl : (R.L.length : Int) = R.room
    · have e1 : R.N.dbE k = 170 := by unfold NtS.dbE; rw [if_pos hI]; exact if_pos hl
      have e2 : Hid (R.N.dbL k = R.L) := by show _ = _; unfold NtS.dbL; rw [e1]; rfl
      rw [e1]
      obtain ⟨c0, c1, -⟩ := rf_cells h.bx
      obtain ⟨ao, cp, hu⟩ := own_form h.row
      have hk2 : ¬ (R.L.length : Int) ≤ (k : Int) := by omega
      rw [hu] at c1
      rw [← hl] at c0
      clear hu hl e1 hI hi
      go_enter Try.func18, Try.ntmps18
      go_wp2_with fail
      go_region
      go_wp2_with fail
      go_ret
      rw [e2.out]
      exact ⟨rfl, R, RAft.same h (Below.drew (Below.refl _ w))⟩
    · have e1 : R.N.dbE k = 0 := by unfold NtS.dbE; rw [if_pos hI]; exact if_neg hl
      have e2 : R.N.dbL k = R.L ++ [R.L[k]] := by
        unfold NtS.dbL
        rw [e1, if_pos rfl]
        show R.L ++ (R.L[(k : Int).toNat]?).toList = _
        simp [hk]
      rw [e1, e2]
      exact rdouble_ok R k R.L[k] w h (by simp [hk]) (by have := h.len; omega)
  · have e1 : R.N.dbE i = 171 := by unfold NtS.dbE; rw [if_neg hI]
    have e2 : Hid (R.N.dbL i = R.L) := by show _ = _; unfold NtS.dbL; rw [e1]; rfl
    rw [e1]
    obtain ⟨c0, c1, -⟩ := rf_cells h.bx
    obtain ⟨ao, cp, hu⟩ := own_form h.row
    rw [hu] at c1
    clear hu e1
    by_cases h0 : i < 0
    · clear hi hI
      go_enter Try.func18, Try.ntmps18
      go_wp2_with fail
      go_ret
      rw [e2.out]
      exact ⟨rfl, R, RAft.same h (Below.refl _ w)⟩
    · have h1 : (R.L.length : Int) ≤ i := by
        rcases Int.lt_or_le i (R.L.length : Int) with h1 | h1
        · exact absurd (hi.2 ⟨by omega, h1⟩) hI
        · exact h1
      clear hi hI
      go_enter Try.func18, Try.ntmps18
      go_wp2_with fail
      go_ret
      rw [e2.out]
      exact ⟨rfl, R, RAft.same h (Below.refl _ w)⟩
end Go.Proofs.Ytdkhfehoohiflaa.nt
