/-
  record: live.
-/
import Derived.Test.YtdheddgdlindmaaRcV
import Derived.Test.YtdheddgdlindmaaRcW
namespace Go.Proofs.Ytdheddgdlindmaa
open Go.ChangeShapes Go.WideShapes Go.ChangeAt Go.RowKit Go.PlainAid

def lvC : CoD := ⟨1, [], [], [], 0, 0⟩
def lvB : BrD := ⟨1, ⟨#[97]⟩, [1]⟩
def lvS : StD := ⟨2, 2, [lvC], [lvB], []⟩
theorem lvF : stF lvS = true := by kernel_rfl
theorem lvFit : lvS.Fit := by
  refine ⟨by decide, by decide, by decide, by decide, fun x hx => ?_, fun x hx => ?_⟩
  · rw [List.mem_singleton.1 hx]
    exact ⟨by decide, by decide, by simp [lvC], by decide, by simp [lvC]⟩
  · rw [List.mem_singleton.1 hx]
    exact ⟨by decide, by decide⟩
theorem lvP : prE lvS = (prD lvS, 0) := by rw [prE, if_pos lvF]
theorem lvL : ldE (prD lvS) = (lvS, 0) := ldE_back lvF lvFit
theorem lvD : ∃ a b c, prD lvS = [a, b, c] ∧ a.k = ⟨#[98, 0, 1]⟩ ∧ c.k = ⟨#[110]⟩ ∧ c.v = ⟨#[2, 2]⟩ ∧ a.v.size ≤ 1000 ∧ b.v.size ≤ 1000 ∧ c.v.size ≤ 1000 :=
  ⟨brP lvB, coP lvC, nxP 2 2, rfl, by kernel_rfl, by kernel_rfl, by kernel_rfl, by decide, by decide, by decide⟩
theorem lv_rd {W : World} {A B C : Nat} (hA : W.heap[A]? = some (.cells #[.int .i64 1, .slice none 0 0, .slice none 0 0, .slice none 0 0, .int .i64 0, .int .i64 0] 48)) (hB : W.heap[B]? = some (.cells #[.int .i64 1] 3)) (hC : W.heap[C]? = some (.cells #[.int .i64 1, .string ⟨#[97]⟩, .slice (some ⟨B, 0, none⟩) 1 1] 50)) : RdSt W (.slice (some ⟨A, 0, none⟩) 1 1) (.slice (some ⟨C, 0, none⟩) 1 1) (.slice none 0 0) lvS := by
  refine ⟨⟨_, _, rfl, fun i x hi => ?_⟩, ⟨_, _, rfl, fun i x hi => ?_⟩, RdCu.nil W⟩
  · have q := fun j => cell_of_row W A j _ _ (0, 0) hA
    match i, hi with
    | 0, hi =>
      simp [lvS] at hi
      subst hi
      exact ⟨A, 0, _, _, _, rfl, heap_lt hA, ⟨q 0, q 1, q 2, q 3, q 4, q 5⟩, RdI.nil W, RdD.nil W, RdD.nil W⟩
    | i + 1, hi => simp [lvS] at hi
  · have q := fun j => cell_of_row W C j _ _ (0, 0) hC
    match i, hi with
    | 0, hi =>
      simp [lvS] at hi
      subst hi
      exact ⟨C, 0, _, rfl, heap_lt hC, ⟨q 0, q 1, q 2⟩, rdi_lit (l := [1]) hB⟩
    | i + 1, hi => simp [lvS] at hi
set_option maxRecDepth 20000 in
set_option maxHeartbeats 4000000 in
theorem live15_any (w : World) : Calls Try.prog 13 #[] w fun e w' => e = .returned (.bool true) ∧ Below w.heap.size w w' := by
  have hB4 : ∃ w4, w4 = (((w.alloc (.cells #[.int .i64 1, .slice none 0 0, .slice none 0 0, .slice none 0 0, .int .i64 0, .int .i64 0] 48)).alloc (.cells #[.int .i64 1] 3)).alloc (.cells #[.int .i64 1, .string ⟨#[97]⟩, .slice (some ⟨w.heap.size + 1, 0, none⟩) 1 1] 50)).alloc (.cells #[.int .i64 2, .int .i64 2, .slice (some ⟨w.heap.size, 0, none⟩) 1 1, .slice (some ⟨w.heap.size + 1 + 1, 0, none⟩) 1 1, .slice none 0 0] 26) ∧ Below w.heap.size w w4 ∧ SB w4 (w.heap.size + 1 + 1 + 1) lvS (.slice (some ⟨w.heap.size, 0, none⟩) 1 1) (.slice (some ⟨w.heap.size + 1 + 1, 0, none⟩) 1 1) (.slice none 0 0) ∧ RdSt w4 (.slice (some ⟨w.heap.size, 0, none⟩) 1 1) (.slice (some ⟨w.heap.size + 1 + 1, 0, none⟩) 1 1) (.slice none 0 0) lvS := by
    have b1 := alloc_bR w (.cells #[.int .i64 1, .slice none 0 0, .slice none 0 0, .slice none 0 0, .int .i64 0, .int .i64 0] 48)
    have h1 := heap_alloc_new w (.cells #[.int .i64 1, .slice none 0 0, .slice none 0 0, .slice none 0 0, .int .i64 0, .int .i64 0] 48)
    have z1 := World.size_alloc w (.cells #[.int .i64 1, .slice none 0 0, .slice none 0 0, .slice none 0 0, .int .i64 0, .int .i64 0] 48)
    generalize w.alloc (.cells #[.int .i64 1, .slice none 0 0, .slice none 0 0, .slice none 0 0, .int .i64 0, .int .i64 0] 48) = w1 at *
    have b2 := alloc_bR w1 (.cells #[.int .i64 1] 3)
    have h2 := heap_alloc_new w1 (.cells #[.int .i64 1] 3)
    have z2 := World.size_alloc w1 (.cells #[.int .i64 1] 3)
    rw [z1] at h2 z2
    generalize w1.alloc (.cells #[.int .i64 1] 3) = w2 at *
    have b3 := alloc_bR w2 (.cells #[.int .i64 1, .string ⟨#[97]⟩, .slice (some ⟨w.heap.size + 1, 0, none⟩) 1 1] 50)
    have h3 := heap_alloc_new w2 (.cells #[.int .i64 1, .string ⟨#[97]⟩, .slice (some ⟨w.heap.size + 1, 0, none⟩) 1 1] 50)
    have z3 := World.size_alloc w2 (.cells #[.int .i64 1, .string ⟨#[97]⟩, .slice (some ⟨w.heap.size + 1, 0, none⟩) 1 1] 50)
    rw [z2] at h3 z3
    generalize w2.alloc (.cells #[.int .i64 1, .string ⟨#[97]⟩, .slice (some ⟨w.heap.size + 1, 0, none⟩) 1 1] 50) = w3 at *
    have hR := lv_rd ((b3.block _ (by have := heap_lt h1; omega)).trans ((b2.block _ (heap_lt h1)).trans h1)) ((b3.block _ (heap_lt h2)).trans h2) h3
    have b4 := alloc_bR w3 (.cells #[.int .i64 2, .int .i64 2, .slice (some ⟨w.heap.size, 0, none⟩) 1 1, .slice (some ⟨w.heap.size + 1 + 1, 0, none⟩) 1 1, .slice none 0 0] 26)
    have h4 := sb_new w3 lvS (.slice (some ⟨w.heap.size, 0, none⟩) 1 1) (.slice (some ⟨w.heap.size + 1 + 1, 0, none⟩) 1 1) (.slice none 0 0)
    rw [z3] at h4
    exact ⟨_, rfl, ((b1.trans (b2.mono b1.size)).trans (b3.mono (by omega))).trans (b4.mono (by omega)), h4, hR.below b4⟩
  obtain ⟨w4, hw4, hB4, h4', hR4⟩ := hB4
  have cP := pairs_any lvS _ _ _ w4 hR4 lvFit
  rw [lvP] at cP
  obtain ⟨x0, x1, x2, x3, x4⟩ := cellsSB h4'
  have hfit := lvFit
  have hL := lvL
  have hD := lvD
  obtain ⟨s1, s2, s3, s4, s5⟩ : lvS.nc = 2 ∧ lvS.nb = 2 ∧ lvS.cs.length = 1 ∧ lvS.bs.length = 1 ∧ lvS.us.length = 0 := ⟨rfl, rfl, rfl, rfl, rfl⟩
  generalize prD lvS = L at *
  generalize lvS = S at *
  simp only [StD.fs, s1, s2] at cP x0 x1
  rw [hw4] at x0 x1 x2 x3 x4
  go_enter Try.func13, Try.ntmps13
  go_wp2_with fail
  rw [← hw4]
  refine cP.mono ?_
  rintro e w5 ⟨dv, rfl, ho5, hb5⟩
  have h5 := h4'.below hb5
  have hB5 := hB4.trans (hb5.mono hB4.size)
  have hRd := rdpa_own ho5
  obtain ⟨a, b, c, eD, ka, kc, vc, sa, sb, sc⟩ := hD
  have cL := load_any dv L w5 hRd (by rw [eD]; simp) (fun x hx => by rw [eD] at hx; simp at hx; rcases hx with rfl | rfl | rfl <;> omega)
  rw [hL] at cL
  clear hL
  subst eD
  obtain ⟨ao, cp, rfl, hcs⟩ := hRd
  simp only [List.length_cons, List.length_nil, Nat.zero_add, Nat.reduceAdd] at cL
  obtain ⟨g, off, rfl, hg, c0, -⟩ := hcs 0 a rfl
  obtain ⟨g', off', e', -, c4, c5⟩ := hcs 2 c rfl
  simp only [Option.some.injEq, Addr.mk.injEq] at e'
  obtain ⟨rfl, rfl, -⟩ := e'
  rw [ka] at c0
  rw [kc] at c4
  rw [vc] at c5
  simp only [Nat.zero_mul, Nat.add_zero] at c0
  clear x0 x1 x2 x3 x4 cP hcs ho5 ka kc vc sa sb sc hw4
  go_wp2_with fail
  refine cL.mono ?_
  rintro e w6 ⟨v1, v2, v3, rfl, ⟨us, ls, ho6⟩, hb6⟩
  obtain ⟨a1, k1, rfl⟩ := own_form ho6.c.row
  obtain ⟨a2, k2, rfl⟩ := own_form ho6.b.row
  obtain ⟨a3, k3, rfl⟩ := own_form ho6.u
  have h6 := h5.below hb6
  have hR6 := hR4.below (hb5.trans (hb6.mono hb5.size))
  have hB6 := hB5.trans (hb6.mono hB5.size)
  have b7 := alloc_bR w6 (.cells (S.fs (.slice a1 S.cs.length k1) (.slice a2 S.bs.length k2) (.slice a3 S.us.length k3)) 26)
  have h7 := sb_new w6 S (.slice a1 S.cs.length k1) (.slice a2 S.bs.length k2) (.slice a3 S.us.length k3)
  have h67 := h6.below b7
  have hd : ∀ j x, w5.cell? ⟨g, j, none⟩ = some x → (w6.alloc (.cells (S.fs (.slice a1 S.cs.length k1) (.slice a2 S.bs.length k2) (.slice a3 S.us.length k3)) 26)).cell? ⟨g, j, none⟩ = some x := fun j x h => (b7.cell (p := ⟨g, j, none⟩) (by have := hb6.size; simp only; omega)).trans ((hb6.cell (p := ⟨g, j, none⟩) hg).trans h)
  have d0 := hd _ _ c0
  have d4 := hd _ _ c4
  have d5 := hd _ _ c5
  have cS := same15_true S _ _ _ _ _ _ _ (hR6.below b7) (ho6.rd.below b7) hfit (by omega)
  clear hd c0 c4 c5 cL h5 h6 hR6 hR4 ho6
  generalize hw7 : w6.alloc (.cells (S.fs (.slice a1 S.cs.length k1) (.slice a2 S.bs.length k2) (.slice a3 S.us.length k3)) 26) = w7 at *
  obtain ⟨x0, x1, x2, x3, x4⟩ := cellsSB h67
  obtain ⟨y0, y1, y2, y3, y4⟩ := cellsSB h7
  simp only [StD.fs, s1, s2, s3, s4, s5] at *
  go_wp2_with fail
  refine cS.mono ?_
  rintro e w8 ⟨rfl, hb8⟩
  go_wp2_with fail
  go_ret
  exact ⟨rfl, (hB6.trans (b7.mono hB6.size)).trans (hb8.mono (Nat.le_trans hB6.size b7.size))⟩
end Go.Proofs.Ytdheddgdlindmaa
