/-
  The contracts of the reference's Send and Double.
-/
import Derived.Test.YtdkhfehoohiflaaNtM
namespace Go.Proofs.Ytdkhfehoohiflaa.nt
open Go.Maps Go.WideShapes Go.RowKit Go.ChangeShapes Go.ChangeAt Go.PlainAid

theorem rf_end {w w6 w7 : World} {R : RfS} {x : LtD} {g cap : Nat} {o : Obj} (h : IsRf w R) (hl : (R.L.length : Int) < R.room) (hb : Below w.heap.size w w6)
    (hown : w7.ownsRow 0 37 2 (.slice (some ⟨g, 0, none⟩) (R.L.length + 1) cap) (R.L.length + 1) (lcs R.L ++ [.int .i64 x.to, .string x.t])) (hgr : (w6.alloc o).drew.grownBy w7 R.u.ownBlock) (hg : R.u.ownBlock = some g ∨ g = w6.heap.size + 1)
    (hx7 : w7.heap[R.p]? = some (.cells #[.int .i64 R.room, R.u] 62)) :
    ∃ R', RAft w (w7.setCell ⟨R.p, 1, none⟩ (.slice (some ⟨g, 0, none⟩) (R.L.length + 1) cap)) R (R.L ++ [x]) R' := by
  have hap := h.apart
  have hlt := h.lt
  have hp := hlt R.p (by simp [RfS.bl])
  have hs := hb.size
  have o7 : Only R.u.ownBlock.toList w6 w7 := ((Only.alloc _ w6 o).trans (Only.drew _ _)).trans (Only.of_grown hgr (fun k hk => by simp [hk]))
  have o8 : Only [R.p] w7 (w7.setCell ⟨R.p, 1, none⟩ (.slice (some ⟨g, 0, none⟩) (R.L.length + 1) cap)) := Only.setCell w7 (p := ⟨R.p, 1, none⟩) (by simp) _
  have hgp : g ≠ R.p := by
    rcases hg with hg | rfl
    · rintro rfl; exact hap hg
    · omega
  refine ⟨⟨R.p, R.room, .slice (some ⟨g, 0, none⟩) (R.L.length + 1) cap, R.L ++ [x]⟩, ⟨heap_setCell hx7 1 _, ?_, h.rm, ?_⟩, rfl, rfl, rfl, ?_, ?_⟩
  · have := own_only hown o8 (fun k hk => by simp [Value.ownBlock] at hk; simp; rw [← hk]; exact hgp)
    rw [← lcs_one, ← lcs_append] at this
    simpa using this
  · simp; omega
  · have s1 : Only R.bl w w6 := Only.of_below hb
    exact (s1.trans (o7.mono (fun k hk => by simp at hk; simp [RfS.bl, hk]))).trans (o8.mono (by simp [RfS.bl]))
  · intro k hk
    simp [Value.ownBlock] at hk
    subst hk
    rcases hg with hg | rfl
    · exact .inl (by simp [RfS.bl, hg])
    · exact .inr (by omega)

set_option maxRecDepth 20000 in
set_option maxHeartbeats 1000000 in
theorem rsend_ok (R : RfS) (x : LtD) (w : World) (h : IsRf w R) (hx : x.Sm) (hl : (R.L.length : Int) < R.room) :
    Calls Try.prog 14 #[.pointer (some ⟨R.p, 0, none⟩), x.v] w fun e w' => e = .returned (.int .i64 0) ∧ ∃ R', RAft w w' R (R.L ++ [x]) R' := by
  have hb : Below w.heap.size w (w.alloc (.cells #[.int .i64 x.to, .string x.t] 37)) := (Below.refl _ w).alloc (Nat.le_refl _) _
  have hN1 := h.below hb
  have hl1 := lb_new w x
  obtain ⟨c0, c1, -⟩ := rf_cells hN1.bx
  obtain ⟨y0, y1, -, -⟩ := hl1.facts
  obtain ⟨ao, cp, hu⟩ := own_form h.row
  have hne : ¬ R.room ≤ (R.L.length : Int) := by omega
  have hr3 := h.rm.2
  have h1 := hx.1.1
  have h2 := hx.1.2
  have h3 : ¬ (30000 : Int) < (x.t.size : Int) := by have := hx.2; omega
  unfold LtD.v at *
  rw [hu] at c1
  go_enter Try.func14, Try.ntmps14
  go_wp2_with fail
  go_region
  have hN6 := hN1.only (Only.drew [] _) (by simp)
  have hl6 := hl1.only (Only.drew [] _) (by simp)
  have hb6 := Below.drew hb
  clear hb hN1 hl1 c0 c1 y0 y1 hu hne h1 h2 h3
  go_wp2_with fail
  generalize (w.alloc (.cells #[.int .i64 x.to, .string x.t] 37)).drew = w6 at *
  obtain ⟨e0, e1, e3⟩ := rf_cells hN6.bx
  obtain ⟨y0, y1, -, -⟩ := hl6.facts
  obtain ⟨iL, hi, hz0, hz1, hz2⟩ := info_parts Try.infoLt
  have hrow := hN6.row
  have hbx6 := hN6.bx
  have hap2 : some R.p ≠ R.u.ownBlock := fun e => h.apart e.symm
  have hpl : R.p < (w6.drew.alloc (.cells #[.int .i64 x.to, .string x.t] 37)).heap.size := by have := heap_lt hbx6; simp; omega
  have hpe : (w6.drew.alloc (.cells #[.int .i64 x.to, .string x.t] 37)).heap[R.p]? = some (.cells #[.int .i64 R.room, R.u] 62) := (Below.heap_alloc w6.drew _ _ (heap_lt hbx6)).trans hbx6
  obtain ⟨-, q1, q3⟩ : (w6.alloc (.cells #[.int .i64 x.to, .string x.t] 37)).cell? ⟨R.p, 0, none⟩ = some (.int .i64 R.room) ∧ (w6.alloc (.cells #[.int .i64 x.to, .string x.t] 37)).cell? ⟨R.p, 1, none⟩ = some R.u ∧ _ := rf_cells hpe
  go_region_law (refine step_append_lies _ (by rfl) (.tmp 34) (.tmp 36) 31 (by rfl) 0 37 iL (.agg #[.int .i64 0, .string ⟨#[]⟩]) 2 24 Try.underlying31 hi hz0 hz1 hz2 rfl (by decide) R.u R.L.length (lcs R.L) (by simp [Act.eval]) (World.ownsRow.alloc (w := w6.drew) hrow _) ⟨w6.heap.size, 0, none⟩ 1 1 [.int .i64 x.to, .string x.t] (by simp [Act.eval]) rfl (World.news_of_block (heap_alloc_new w6.drew _)) (by simp [Value.oneCell']) (by decide) (by unfold maxLen; omega) (by omega) (Nat.zero_le _) (w6.heap.size + 1) (by simp) ?_; intro g cap w7 hown hgr hg hlt7; have hx7 := (hgr.block R.p hpl hap2).trans hpe; obtain ⟨-, k1, k3⟩ := rf_cells hx7)
  all_goals (go_wp2_with fail)
  all_goals
    go_ret
    exact ⟨rfl, rf_end h hl hb6 hown hgr hg hx7⟩

set_option maxRecDepth 20000 in
set_option maxHeartbeats 1000000 in
theorem rsend_no (R : RfS) (x : LtD) (w : World) (h : IsRf w R) (hE : R.N.sdE x ≠ 0) :
    Calls Try.prog 14 #[.pointer (some ⟨R.p, 0, none⟩), x.v] w fun e w' => e = .returned (.int .i64 (R.N.sdE x)) ∧ Below w.heap.size w w' := by
  have hb : Below w.heap.size w (w.alloc (.cells #[.int .i64 x.to, .string x.t] 37)) := (Below.refl _ w).alloc (Nat.le_refl _) _
  have hN1 := h.below hb
  obtain ⟨c0, c1, -⟩ := rf_cells hN1.bx
  obtain ⟨y0, y1, -, -⟩ := (lb_new w x).facts
  obtain ⟨ao, cp, hu⟩ := own_form h.row
  rw [hu] at c1
  clear hu
  unfold LtD.v at *
  by_cases h1 : x.to < 0 ∨ 8 < x.to
  · have e1 : Hid (R.N.sdE x = 1) := by show _ = _; unfold NtS.sdE; rw [if_pos h1]
    clear hE
    by_cases h2 : x.to < 0
    · go_enter Try.func14, Try.ntmps14
      go_wp2_with fail
      go_ret
      rw [e1.out]
      exact ⟨rfl, hb⟩
    · have h3 : 8 < x.to := by omega
      go_enter Try.func14, Try.ntmps14
      go_wp2_with fail
      go_ret
      rw [e1.out]
      exact ⟨rfl, hb⟩
  · have h2 : ¬ x.to < 0 := fun e => h1 (.inl e)
    have h3 : ¬ 8 < x.to := fun e => h1 (.inr e)
    by_cases h4 : 30000 < x.t.size
    · have e1 : Hid (R.N.sdE x = 2) := by show _ = _; unfold NtS.sdE; rw [if_neg h1, if_pos h4]
      have h4' : (30000 : Int) < (x.t.size : Int) := by omega
      clear hE
      go_enter Try.func14, Try.ntmps14
      go_wp2_with fail
      go_ret
      rw [e1.out]
      exact ⟨rfl, hb⟩
    · have h5 : (R.L.length : Int) = R.room := by
        by_cases h5 : (R.L.length : Int) = R.room
        · exact h5
        · exfalso
          apply hE
          unfold NtS.sdE
          rw [if_neg h1, if_neg h4]
          exact if_neg h5
      have e1 : Hid (R.N.sdE x = 170) := by show _ = _; unfold NtS.sdE; rw [if_neg h1, if_neg h4]; exact if_pos h5
      have h4' : ¬ (30000 : Int) < (x.t.size : Int) := by omega
      rw [← h5] at c0
      clear hE h5 h1 h4
      go_enter Try.func14, Try.ntmps14
      go_wp2_with fail
      go_region
      go_wp2_with fail
      go_ret
      rw [e1.out]
      exact ⟨rfl, Below.drew hb⟩
theorem rsend_any (R : RfS) (x : LtD) (w : World) (h : IsRf w R) :
    Calls Try.prog 14 #[.pointer (some ⟨R.p, 0, none⟩), x.v] w fun e w' => e = .returned (.int .i64 (R.N.sdE x)) ∧ ∃ R', RAft w w' R (R.N.sdL x) R' := by
  by_cases hE : R.N.sdE x = 0
  · have hs : x.Sm ∧ ¬ (R.L.length : Int) = R.room := by
      unfold NtS.sdE at hE
      split at hE
      · cases hE
      · split at hE
        · cases hE
        · split at hE
          · cases hE
          · rename_i h1 h2 h3
            exact ⟨⟨⟨by omega, by omega⟩, by omega⟩, h3⟩
    have e2 : R.N.sdL x = R.L ++ [x] := by unfold NtS.sdL; rw [if_pos hE]; rfl
    rw [hE, e2]
    exact rsend_ok R x w h hs.1 (by have := h.len; have := hs.2; omega)
  · have e2 : R.N.sdL x = R.L := by unfold NtS.sdL; rw [if_neg hE]; rfl
    rw [e2]
    refine (rsend_no R x w h hE).mono ?_
    rintro e w1 ⟨rfl, hb⟩
    exact ⟨rfl, R, RAft.same h hb⟩
end Go.Proofs.Ytdkhfehoohiflaa.nt
