/-
  A sector is written, or the device is down.
-/
import Derived.Test.YtkmdjhdininimaaShD
import Derived.Deep.RegionWith
namespace Go.Proofs.Ytkmdjhdininimaa
open Go.RowKit Go.Maps

theorem conv_rowS {w : World} {g : Nat} {t : TypeId} (s : Sec) (h : s.length = 64) (hg : w.heap[g]? = some (.cells (bv s).toArray t)) :
    (convert 28 9 (.slice (some ⟨g, 0, none⟩) 64 64)).run Try.prog w = .ok (.string (mk s)) w := by
  have := run_convert_bytes_back (P := Try.prog) w 28 9 5 ⟨g, 0, none⟩ 64 s Try.underlying28 Try.underlying5 Try.underlying9 (fun j hj => by
    have hadd : (⟨g, 0, none⟩ : Addr).add j = ⟨g, j, none⟩ := by unfold Addr.add; split <;> simp_all
    rw [hadd, cell_at hg]
    simp [bv, hj])
  rw [h] at this
  exact this
set_option maxRecDepth 20000 in
set_option maxHeartbeats 1000000 in
theorem swrite_any {w : World} {q p bs bw : Nat} {s : DevS} {age : Int} {lost : Bool} (h : IsDev w p bs bw s) (hs : SB w q p age lost) (k : Int) (t : Sec) (h64 : t.length = 64) :
    Calls Try.prog 66 #[.pointer (some ⟨q, 0, none⟩), .int .i64 k, .agg (bv t).toArray] w fun e w' => e = (if (s.write k (mk t)).1 = 0 then .returned (.tuple #[]) else thr (s.write k (mk t)).1) ∧ IsDev w' p bs bw (s.write k (mk t)).2 ∧ Only [p, bs, bw] w w' := by
  have hA : Below w.heap.size w (w.alloc (.cells (bv t).toArray 81)) := (Below.refl _ w).alloc (Nat.le_refl _) _
  have hO : Only [p, bs, bw] w (w.alloc (.cells (bv t).toArray 81)).drew := (Only.alloc _ _ _).trans (Only.drew _ _)
  have hD := (h.below hA).kept (Only.drew [] _) (by simp) (by simp) (by simp)
  have cW := write_all hD k (mk t)
  obtain ⟨c0, -, -, -⟩ := (hs.below hA).cells
  have hcv := conv_rowS t h64 (heap_alloc_last w (.cells (bv t).toArray 81))
  have hcv2 := conv_rowS (w := (w.alloc (.cells (bv t).toArray 81)).drew) t h64 (heap_alloc_last w (.cells (bv t).toArray 81))
  generalize (s.write k (mk t)).2 = s2 at *
  generalize (s.write k (mk t)).1 = x at *
  clear h hs hA hD
  by_cases hx : x = 0
  · subst hx
    rw [if_pos rfl]
    have cM := fun W => must_ok W
    go_enter Try.func66, Try.ntmps66
    go_upto_region 1 with fail
    refine region_tail 7 Try.mixed (by kernel_rfl) ?_
    simp only [List.take_succ_cons, List.take_zero, List.drop_succ_cons, List.drop_zero]
    iterate 7 still_step
    refine wpStill_nil ?_
    go_wp2_with (first
      | (go_at_call 11; refine cW.mono ?_; rintro e w2 ⟨rfl, hd2, ho2⟩)
      | (go_at_call 54; refine (cM _).mono ?_; rintro e w3 ⟨rfl, rfl⟩))
    go_end0
    exact ⟨rfl, hd2, hO.trans ho2⟩
  · rw [if_neg hx]
    have cM := fun W => must_bad x hx W
    unfold thr at cM ⊢
    go_enter Try.func66, Try.ntmps66
    go_upto_region 1 with fail
    refine region_tail 7 Try.mixed (by kernel_rfl) ?_
    simp only [List.take_succ_cons, List.take_zero, List.drop_succ_cons, List.drop_zero]
    iterate 7 still_step
    refine wpStill_nil ?_
    go_wp2_with (first
      | (go_at_call 11; refine cW.mono ?_; rintro e w2 ⟨rfl, hd2, ho2⟩)
      | (go_at_call 54; refine (cM _).mono ?_; rintro e w3 ⟨rfl, rfl⟩))
    exact ⟨rfl, rfl, hd2, hO.trans ho2⟩
end Go.Proofs.Ytkmdjhdininimaa
