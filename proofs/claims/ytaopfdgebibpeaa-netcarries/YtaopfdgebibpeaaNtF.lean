/-
  The contract of own.
-/
import Derived.Test.YtaopfdgebibpeaaNtE
namespace Go.Proofs.Ytaopfdgebibpeaa.nt
open Go.Maps Go.WideShapes Go.RowKit Go.ChangeShapes Go.ChangeAt Go.PlainAid

theorem rdl_cells {W : World} {v : Value} {ao : Option Addr} {n cp : Nat} {l : List LtD} (hv : v = .slice ao n cp) (h : RdL W v l) {k : Nat} {x : LtD} (hk : l[k]? = some x) : ∃ b off, ao = some ⟨b, off, none⟩ ∧ b < W.heap.size ∧ W.cell? ⟨b, off + k * 2, none⟩ = some (.int .i64 x.to) ∧ W.cell? ⟨b, off + k * 2 + 1, none⟩ = some (.string x.t) := by
  obtain ⟨ao', cp', e, h⟩ := h
  rw [hv] at e
  cases e
  exact h k x hk
theorem cnt_pos {L : List LtD} {x : LtD} (h : 0 < cnt L x) : x ∈ L := List.count_pos_iff.1 h
theorem cnt_zero {L : List LtD} {x : LtD} (h : ¬ 0 < cnt L x) : cnt L x = 0 := by omega

set_option maxRecDepth 20000 in
set_option maxHeartbeats 1000000 in
theorem own_any (N : NtS) (x : LtD) (w : World) (h : IsNet w N) (hx : x.Sm) :
    Calls Try.prog 36 #[.pointer (some ⟨N.p, 0, none⟩), x.v] w fun e w' => e = .returned x.v ∧ Below w.heap.size w w' := by
  have hz : LB ((w.alloc (.cells #[.int .i64 x.to, .string x.t] 36)).alloc (.cells #[.int .i64 0, .string ⟨#[]⟩] 36)) (w.heap.size + 1) ⟨0, ⟨#[]⟩⟩ := by
    have := lb_new (w.alloc (.cells #[.int .i64 x.to, .string x.t] 36)) ⟨0, ⟨#[]⟩⟩
    rw [show (w.alloc (.cells #[.int .i64 x.to, .string x.t] 36)).heap.size = w.heap.size + 1 by simp] at this
    exact this
  have hb : Below w.heap.size w ((w.alloc (.cells #[.int .i64 x.to, .string x.t] 36)).alloc (.cells #[.int .i64 0, .string ⟨#[]⟩] 36)) := ((Below.refl _ w).alloc (Nat.le_refl _) _).alloc (by simp) _
  have hl : LB ((w.alloc (.cells #[.int .i64 x.to, .string x.t] 36)).alloc (.cells #[.int .i64 0, .string ⟨#[]⟩] 36)) w.heap.size x := (lb_new w x).alloc _
  have hN := h.below hb
  have hlen : N.L.length ≤ 3000 := by have := h.len; have := h.rm; omega
  have hlk := hN.map.look hx.wf
  have hlk' : (Instr.lookup 50 (.map (some N.mb)) (.agg #[.int .i64 x.to, .string x.t]) false).run Try.prog ((w.alloc (.cells #[.int .i64 x.to, .string x.t] 36)).alloc (.cells #[.int .i64 0, .string ⟨#[]⟩] 36)).drew = .ok (.int .i64 (cnt N.L x : Int)) ((w.alloc (.cells #[.int .i64 x.to, .string x.t] 36)).alloc (.cells #[.int .i64 0, .string ⟨#[]⟩] 36)).drew :=
    Cnt.look (w := ((w.alloc (.cells #[.int .i64 x.to, .string x.t] 36)).alloc (.cells #[.int .i64 0, .string ⟨#[]⟩] 36)).drew) (hN.map.only (Only.drew [] _) (by simp)) hx.wf
  have hcl := fun W => copyOf_any x W (by have := hx.2; omega)
  obtain ⟨c0, c1, c2, -⟩ := hN.cells
  obtain ⟨y0, y1, -, -⟩ := hl.facts
  clear hlk
  by_cases hc : 0 < cnt N.L x
  · have hix := fun W hr => index_any N.u N.L x W hr hlen (cnt_pos hc)
    have hc' : (0 : Int) < (cnt N.L x : Int) := by omega
    obtain ⟨ao, cp, hu⟩ := own_form h.row
    unfold LtD.v at *
    go_enter Try.func36, Try.ntmps36
    go_wp2_with fail
    go_region
    have hz0 := LB.only hz (Only.drew [] _) (by simp)
    have hN0 := hN.only (Only.drew [] _) (by simp)
    have hb0 := Below.drew hb
    have hl0 := LB.only hl (Only.drew [] _) (by simp)
    clear hlk' c0 c1 c2 y0 y1 hcl hz hl hN hb
    rw [hu] at hix
    go_wp2_with fail
    generalize (((w.alloc (.cells #[.int .i64 x.to, .string x.t] 36)).alloc (.cells #[.int .i64 0, .string ⟨#[]⟩] 36)).drew) = w0 at *
    obtain ⟨-, c1, -, -⟩ := hN0.cells
    obtain ⟨y0, y1, -, -⟩ := hl0.facts
    rw [hu] at c1
    go_region_with (go_at_call 44; refine (hix _ (hu ▸ rdl_own (hN0.only (Only.drew [] _) (by simp)).row)).mono ?_; rintro e w1 ⟨k, rfl, hk, hb1⟩; replace hb1 := undrew hb1; have hz1 := LB.below hz0 hb1; obtain ⟨z0, z1, z2, z3⟩ := hz1.facts; obtain ⟨-, x1, -, -⟩ := (hN0.below hb1).cells; rw [hu] at x1; obtain ⟨bb, off, rfl, hbw, d0, d1⟩ := rdl_cells hu (rdl_own (hN0.below hb1).row) hk; have hkl : k < N.L.length := (List.getElem?_eq_some_iff.1 hk).1; have hkl' : (k : Int) < (N.L.length : Int) := Int.ofNat_lt.2 hkl; simp only at z0 z1)
    all_goals (go_wp2_with fail)
    all_goals
      refine bodyPost_ret (results_cell_row rfl _ _ (w.heap.size + 1) 36 _ (0, 0) _ rfl (LB.set hz1 x) Try.underlying36 rfl Try.sizeLt) rfl ?_
      exact ⟨rfl, below_set (below_set (chain hb0 hb1) (by omega)) (by omega)⟩
  · have hc' : ¬ (0 : Int) < (cnt N.L x : Int) := by omega
    unfold LtD.v at *
    go_enter Try.func36, Try.ntmps36
    go_wp2_with fail
    go_region
    have hz0 := LB.only hz (Only.drew [] _) (by simp)
    have hb0 := Below.drew hb
    clear hlk' c0 c1 c2 hz hl hN hb
    go_wp2_with (go_at_call 24; refine (hcl _).mono ?_; rintro e w1 ⟨rfl, hb1⟩; have hz1 := LB.below hz0 hb1; obtain ⟨z0, z1, z2, z3⟩ := hz1.facts; simp only at z0 z1)
    refine bodyPost_ret (results_cell_row rfl _ _ (w.heap.size + 1) 36 _ (0, 0) _ rfl (LB.set hz1 x) Try.underlying36 rfl Try.sizeLt) rfl ?_
    exact ⟨rfl, below_set (below_set (chain hb0 hb1) (by omega)) (by omega)⟩
end Go.Proofs.Ytaopfdgebibpeaa.nt
