/-
  What waits is made safe: settled.
-/
import Derived.Test.YtkmdjhdininimaaShE
namespace Go.Proofs.Ytkmdjhdininimaa
open Go.RowKit Go.Maps

/-- A device that may have had a Sync. -/
def DevS.settle (s : DevS) : DevS := if s.keys.length = 0 then s else s.sync.2
theorem own_formS {w : World} {b e z n : Nat} {v : Value} {L : List Value} (h : w.ownsRow b e z v n L) : ∃ ao cp, v = .slice ao n cp := by
  rcases h.2 with ⟨rfl, rfl⟩ | ⟨g, cap, cur, rfl, _⟩
  · exact ⟨_, _, rfl⟩
  · exact ⟨_, _, rfl⟩
theorem SB.only {W W' : World} {S : List Nat} {q p : Nat} {age : Int} {lost : Bool} (h : SB W q p age lost) (ho : Only S W W') (hq : q ∉ S) : SB W' q p age lost := only_heap h ho hq

set_option maxRecDepth 20000 in
set_option maxHeartbeats 1000000 in
theorem settled_ok {w : World} {q p bs bw : Nat} {s : DevS} {age : Int} {lost : Bool} (h : IsDev w p bs bw s) (hs : SB w q p age lost) (hu : s.up = true) (hk : HdOk s (s.readAt 0)) :
    Calls Try.prog 37 #[.pointer (some ⟨q, 0, none⟩)] w fun e w' => e = .returned (.agg #[.int .i64 (hPl (s.readAt 0) : Int), .int .i64 (hLn (s.readAt 0) : Int)]) ∧ IsDev w' p bs bw s.settle ∧ Only [p, bs, bw] w w' := by
  have hA : Below w.heap.size w (w.alloc (.cells #[.int .i64 0, .int .i64 0] 68)) := (Below.refl _ w).alloc (Nat.le_refl _) _
  have hres := heap_alloc_last w (.cells #[.int .i64 0, .int .i64 0] 68)
  have cH := heading_ok (h.below hA) (hs.below hA) hu hk
  have cW := fun W (hW : Below w.heap.size w W) => waiting_any (h.below hW)
  have cS := fun W (hW : Below w.heap.size w W) => sync_all (h.below hW)
  have hsy : s.sync.1 = 0 := by unfold DevS.sync; rw [if_neg (by simp [hu])]
  rw [hsy] at cS
  have hc := fun W (hW : Below w.heap.size w W) => (hs.below hW).cells.1
  have hdW := fun W (hW : Below w.heap.size w W) => h.below hW
  have hlt : p < w.heap.size ∧ bs < w.heap.size ∧ bw < w.heap.size := ⟨h.ltp, h.lts, h.ltw⟩
  generalize hPl (s.readAt 0) = pl at *
  generalize hLn (s.readAt 0) = ln at *
  have fin : ∀ (W W' : World) (s' : DevS), Below w.heap.size w W → IsDev W' p bs bw s' → Only [p, bs, bw] W W' → W'.heap[w.heap.size]? = some (.cells #[.int .i64 0, .int .i64 0] 68) → IsDev ((W'.setCell ⟨w.heap.size, 0, none⟩ (.int .i64 (pl : Int))).setCell ⟨w.heap.size, 1, none⟩ (.int .i64 (ln : Int))) p bs bw s' ∧ Only [p, bs, bw] w ((W'.setCell ⟨w.heap.size, 0, none⟩ (.int .i64 (pl : Int))).setCell ⟨w.heap.size, 1, none⟩ (.int .i64 (ln : Int))) := fun W W' s' hW hd ho hr => by
    have o2 : Only [w.heap.size] W' ((W'.setCell ⟨w.heap.size, 0, none⟩ (.int .i64 (pl : Int))).setCell ⟨w.heap.size, 1, none⟩ (.int .i64 (ln : Int))) := (Only.setCell W' (p := ⟨w.heap.size, 0, none⟩) (by simp) _).trans (Only.setCell _ (p := ⟨w.heap.size, 1, none⟩) (by simp) _)
    refine ⟨hd.kept o2 (by simp; omega) (by simp; omega) (by simp; omega), ⟨o2.os.trans (ho.os.trans hW.os), o2.tape.trans (ho.tape.trans hW.tape), o2.output.trans (ho.output.trans hW.output), Nat.le_trans hW.size (Nat.le_trans ho.size o2.size), fun i hi hn => ?_⟩⟩
    have s1 := hW.size
    have s2 := ho.size
    rw [o2.block i (by omega) (by simp; omega), ho.block i (by omega) hn]
    exact hW.block i hi
  clear h hs hu hk
  by_cases hk0 : s.keys.length = 0
  · have HS : s.settle = s := by unfold DevS.settle; rw [if_pos hk0]
    rw [HS]
    go_enter Try.func37, Try.ntmps37
    go_wp2_with fail
    refine cH.mono ?_
    rintro e w2 ⟨rfl, hb2⟩
    have hB2 := chainS hA hb2
    have hB3 := hB2.alloc hB2.size (.cells #[.int .i64 (pl : Int), .int .i64 (ln : Int)] 68)
    have hhd := heap_alloc_last w2 (.cells #[.int .i64 (pl : Int), .int .i64 (ln : Int)] 68)
    have hrs3 := (Below.heap_alloc w2 (.cells #[.int .i64 (pl : Int), .int .i64 (ln : Int)] 68) w.heap.size (Nat.lt_of_lt_of_le (heap_lt hres) hb2.size)).trans ((hb2.block w.heap.size (by simp)).trans hres)
    have q0 := hc _ hB3
    clear cH
    go_wp2_with fail
    refine (cW _ hB3).mono ?_
    rintro e w4 ⟨v4, rfl, ho4, -, hb4⟩
    obtain ⟨a4, k4, rfl⟩ := own_formS ho4
    have hB4 := chainS hB3 hb4
    have hhd4 := (hb4.block _ (heap_lt hhd)).trans hhd
    have hrs4 := (hb4.block _ (heap_lt hrs3)).trans hrs3
    have d0 := cell_at hhd4 0
    have d1 := cell_at hhd4 1
    have e0 := cell_at hrs4 0
    have e1 := cell_at hrs4 1
    have z0 := frozen_at hrs4 0
    have z1 := frozen_at hrs4 1
    simp at d0 d1 e0 e1
    have hfin := heap_setCell (heap_setCell hrs4 0 (.int .i64 (pl : Int))) 1 (.int .i64 (ln : Int))
    have hF := fin w4 w4 s hB4 (hdW _ hB4) (Only.refl _ _) hrs4
    clear cW cS hhd hrs3 hhd4 hrs4 hB4 hB3 hB2 hb2 hb4 hres hA hdW hc fin q0
    go_wp2_with fail
    refine bodyPost_ret (results_cell_row rfl _ _ w.heap.size 68 _ (0, 0) _ rfl hfin Try.underlying68 rfl Try.sizeHd) rfl ?_
    exact ⟨rfl, hF⟩
  · have HS : s.settle = s.sync.2 := by unfold DevS.settle; rw [if_neg hk0]
    rw [HS]
    have hk1 : (0 : Int) < (s.keys.length : Int) := by omega
    go_enter Try.func37, Try.ntmps37
    go_wp2_with fail
    refine cH.mono ?_
    rintro e w2 ⟨rfl, hb2⟩
    have hB2 := chainS hA hb2
    have hB3 := hB2.alloc hB2.size (.cells #[.int .i64 (pl : Int), .int .i64 (ln : Int)] 68)
    have hhd := heap_alloc_last w2 (.cells #[.int .i64 (pl : Int), .int .i64 (ln : Int)] 68)
    have hrs3 := (Below.heap_alloc w2 (.cells #[.int .i64 (pl : Int), .int .i64 (ln : Int)] 68) w.heap.size (Nat.lt_of_lt_of_le (heap_lt hres) hb2.size)).trans ((hb2.block w.heap.size (by simp)).trans hres)
    have q0 := hc _ hB3
    have hgt : w2.heap.size ≠ p ∧ w2.heap.size ≠ bs ∧ w2.heap.size ≠ bw := by have := hB2.size; omega
    clear cH
    go_wp2_with fail
    refine (cW _ hB3).mono ?_
    rintro e w4 ⟨v4, rfl, ho4, -, hb4⟩
    obtain ⟨a4, k4, rfl⟩ := own_formS ho4
    have hB4 := chainS hB3 hb4
    have hhd4 := (hb4.block _ (heap_lt hhd)).trans hhd
    have hrs4 := (hb4.block _ (heap_lt hrs3)).trans hrs3
    have q4 := hc _ hB4
    clear q0 hhd hrs3
    go_wp2_with fail
    refine (cS _ hB4).mono ?_
    rintro e w5 ⟨rfl, hd5, ho5⟩
    have hhd5 := only_heap hhd4 ho5 (by simp; omega)
    have hrs5 := only_heap hrs4 ho5 (by simp; omega)
    have hF := fin w4 w5 _ hB4 hd5 ho5 hrs5
    clear q4
    go_wp2_with fail
    refine (must_ok _).mono ?_
    rintro e w6 ⟨rfl, rfl⟩
    have d0 := cell_at hhd5 0
    have d1 := cell_at hhd5 1
    have e0 := cell_at hrs5 0
    have e1 := cell_at hrs5 1
    have z0 := frozen_at hrs5 0
    have z1 := frozen_at hrs5 1
    simp at d0 d1 e0 e1
    have hfin := heap_setCell (heap_setCell hrs5 0 (.int .i64 (pl : Int))) 1 (.int .i64 (ln : Int))
    clear cW cS hhd4 hrs4 hhd5 hrs5 hB4 hB3 hB2 hb2 hb4 hres hA hdW hc fin
    go_wp2_with fail
    refine bodyPost_ret (results_cell_row rfl _ _ w.heap.size 68 _ (0, 0) _ rfl hfin Try.underlying68 rfl Try.sizeHd) rfl ?_
    exact ⟨rfl, hF⟩
end Go.Proofs.Ytkmdjhdininimaa
