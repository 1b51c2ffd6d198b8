/-
  The contract of copyOf.
-/
import Derived.Test.YtaopfdgebibpeaaNtA
import Derived.Deep.RegionWith
namespace Go.Proofs.Ytaopfdgebibpeaa.nt
open Go.Maps Go.WideShapes Go.RowKit Go.ChangeShapes Go.ChangeAt Go.PlainAid

theorem Try.sizeLt : (Try.prog.info? 36).map (·.size) = some 2 := by kernel_rfl
theorem below_set {base : Nat} {w W : World} {p j : Nat} {x : Value} (h : Below base w W) (hp : base ≤ p) : Below base w (W.setCell ⟨p, j, none⟩ x) :=
  h.trans ⟨rfl, rfl, rfl, by simp [World.setCell], fun k hk => Below.heap_setCell W ⟨p, j, none⟩ x k (fun e => by simp only at e; omega)⟩

theorem undrew {w w' : World} (h : Below w.drew.heap.size w.drew w') : Below w.heap.size w w' := ⟨h.os, h.tape, h.output, h.size, h.block⟩
theorem lb_new (w : World) (x : LtD) : LB (w.alloc (.cells #[.int .i64 x.to, .string x.t] 36)) w.heap.size x := heap_alloc_new w _
theorem LB.alloc {w : World} {p : Nat} {x : LtD} (h : LB w p x) (o : Obj) : LB (w.alloc o) p x := h.below ((Below.refl _ w).alloc (Nat.le_refl _) _)

set_option maxRecDepth 20000 in
set_option maxHeartbeats 1000000 in
theorem copyOf_any (x : LtD) (w : World) (hs : x.t.size ≤ 1125899906842) :
    Calls Try.prog 24 #[x.v] w fun e w' => e = .returned x.v ∧ Below w.heap.size w w' := by
  have hz : LB ((w.alloc (.cells #[.int .i64 x.to, .string x.t] 36)).alloc (.cells #[.int .i64 0, .string ⟨#[]⟩] 36)) (w.heap.size + 1) ⟨0, ⟨#[]⟩⟩ := by
    have := lb_new (w.alloc (.cells #[.int .i64 x.to, .string x.t] 36)) ⟨0, ⟨#[]⟩⟩
    rw [show (w.alloc (.cells #[.int .i64 x.to, .string x.t] 36)).heap.size = w.heap.size + 1 by simp] at this
    exact this
  have hb : Below w.heap.size w ((w.alloc (.cells #[.int .i64 x.to, .string x.t] 36)).alloc (.cells #[.int .i64 0, .string ⟨#[]⟩] 36)) := ((Below.refl _ w).alloc (Nat.le_refl _) _).alloc (by simp) _
  have hl : LB ((w.alloc (.cells #[.int .i64 x.to, .string x.t] 36)).alloc (.cells #[.int .i64 0, .string ⟨#[]⟩] 36)) w.heap.size x := (lb_new w x).alloc _
  have hcl := fun W => clone_any x.t W hs
  obtain ⟨xo, xt⟩ := x
  unfold LtD.v
  simp only at *
  go_enter Try.func24, Try.ntmps24
  go_wp2_with fail
  go_region_with (go_at_call 37; refine (hcl _).mono ?_; rintro e w1 ⟨rfl, hb1⟩; replace hb1 := undrew hb1; have hz1 := LB.below hz hb1; obtain ⟨z0, z1, z2, z3⟩ := hz1.facts; obtain ⟨y0, y1, -, -⟩ := (LB.below hl hb1).facts; simp only at z0 z1 y0 y1)
  all_goals (go_wp2_with fail)
  all_goals
    refine bodyPost_ret (results_cell_row rfl _ _ (w.heap.size + 1) 36 _ (0, 0) _ rfl (LB.set hz1 ⟨xo, xt⟩) Try.underlying36 rfl Try.sizeLt) rfl ?_
    exact ⟨rfl, below_set (below_set (chain hb hb1) (by omega)) (by omega)⟩

end Go.Proofs.Ytaopfdgebibpeaa.nt
