/-
  Sectors of a shelf: read, write.
-/
import Derived.Test.YtkmdjhdininimaaShA
import Derived.Laws.Tables
namespace Go.Proofs.Ytkmdjhdininimaa
open Go.RowKit Go.Maps

theorem Try.infoH : (Try.prog.info? 81).map (fun i => (i.zero, i.size)) = some (some (.agg zeroC.toArray), 64) := by kernel_rfl
theorem Try.zeroH (u : World) : (zeroValue 81).run Try.prog u = .ok (.agg zeroC.toArray) u := (zero_of_info Try.infoH).1 u
theorem Try.sizeH : (Try.prog.info? 81).map (·.size) = some 64 := (zero_of_info Try.infoH).2
theorem Only.setRowS {S : List Nat} (w : World) {g : Nat} (hg : g ∈ S) (cs : Array Value) : Only S w (w.setRow g cs) :=
  ⟨rfl, rfl, rfl, by simp, fun k _ hk => setRow_other w g k cs (fun e => hk (e ▸ hg))⟩
theorem mk_list (t : List UInt8) : (mk t).data.toList = t := by simp [mk]
theorem mk_size {t : List UInt8} (h : t.length = 64) : (mk t).size = 64 := by simp [mk, ByteArray.size, h]

set_option maxRecDepth 20000 in
set_option maxHeartbeats 2000000 in
theorem sread_ok {w : World} {q p bs bw : Nat} {s : DevS} {age : Int} {lost : Bool} (h : IsDev w p bs bw s) (hs : SB w q p age lost) (i : Nat) (hi : i < s.n) (hu : s.up = true) :
    Calls Try.prog 53 #[.pointer (some ⟨q, 0, none⟩), .int .i64 (i : Int)] w fun e w' => e = .returned (.agg (bv (s.readAt i)).toArray) ∧ Below w.heap.size w w' := by
  have h64 := h.readLen i
  have hA : Only [] w (w.alloc (.cells zeroC.toArray 81)) := Only.alloc _ _ _
  have hAb : Below w.heap.size w (w.alloc (.cells zeroC.toArray 81)) := hA.below (Nat.le_refl _) (by simp)
  have cR := read_ok (h.kept hA (by simp) (by simp) (by simp)) i hi hu
  obtain ⟨c0, -, -, -⟩ := (hs.below hAb).cells
  have hres0 := heap_alloc_last w (.cells zeroC.toArray 81)
  have HT : Hid (cpy (mk (s.readAt i)) zeroC = bv (s.readAt i)) := by
    have := cpy_full (x := mk (s.readAt i)) (c := zeroC) (by rw [mk_size h64, zeroC_len])
    rw [mk_list] at this
    exact this
  clear h hi hu hs
  generalize s.readAt i = t at *
  have hsz : (bv t).length = 64 := by rw [bv_len, h64]
  go_enter Try.func53, Try.ntmps53
  go_wp2_with (first
    | (with_reducible refine at_alloc 81 rfl ?_; refine wpList_alloc_arr rfl 81 rfl zeroC.toArray Try.zeroH ?_)
    | (go_at_call 68; refine cR.mono ?_; rintro e w2 ⟨rfl, hb2⟩; have hres2 := (hb2.block w.heap.size (by simp)).trans hres0)
    | (go_at_call 54; refine (must_ok _).mono ?_; rintro e w3 ⟨rfl, rfl⟩; have hcell := heap_alloc_last w3 (.cells (bv t).toArray 81); have hres3 := (Below.heap_alloc w3 (.cells (bv t).toArray 81) w.heap.size (heap_lt hres2)).trans hres2)
    | (with_reducible refine at_bi .copy _ _ rfl ?_; refine wpList_copy_str w3 rfl (.tmp 19) (.tmp 20) 28 9 5 81 rfl zeroC (mk t) 64 zeroC_len rfl ?_ rfl Try.underlying28 (by kernel_rfl) ?_; simp [Act.eval]; rw [HT.out]; intro m; go_frame)
    | (with_reducible refine at_load 81 _ rfl ?_; refine wpList_load_row rfl 81 _ rfl w3.heap.size 81 _ _ _ hcell rfl Try.underlying81 rfl (by simpa [hsz] using Try.sizeH) ?_)
    | (with_reducible refine at_store 81 _ _ rfl ?_; refine wpList_store_row rfl 81 _ _ rfl w.heap.size (bv t).toArray rfl rfl 81 _ hres3 (by simpa [hsz] using Try.sizeH) (by simp [zeroC_len, hsz]) (bv_one t) ?_))
  have hfin := setRow_heap _ _ _ (bv t).toArray _ _ hres3
  have s2 := hb2.size
  have hs1 : (w.alloc (.cells zeroC.toArray 81)).heap.size = w.heap.size + 1 := World.size_alloc _ _
  have hB2 : Below w.heap.size w w3 := hAb.trans (hb2.mono (by omega))
  have hB3 : Below w.heap.size w (w3.alloc (.cells (bv t).toArray 81)) := hB2.alloc hB2.size _
  have hB := hB3.trans ((Only.setRowS (S := [w.heap.size]) (w3.alloc (.cells (bv t).toArray 81)) (List.mem_singleton.2 rfl) (bv t).toArray).below hB3.size (by simp))
  refine bodyPost_ret (results_cell_row rfl _ _ w.heap.size 81 (bv t).toArray (0, 0) _ rfl hfin Try.underlying81 rfl (by simpa [hsz] using Try.sizeH)) rfl ?_
  exact ⟨rfl, hB⟩
set_option maxRecDepth 20000 in
set_option maxHeartbeats 2000000 in
theorem sread_down {w : World} {q p bs bw : Nat} {s : DevS} {age : Int} {lost : Bool} (h : IsDev w p bs bw s) (hs : SB w q p age lost) (i : Nat) (hu : s.up = false) :
    Calls Try.prog 53 #[.pointer (some ⟨q, 0, none⟩), .int .i64 (i : Int)] w fun e w' => e = thr 3 ∧ Below w.heap.size w w' := by
  have hA : Only [] w (w.alloc (.cells zeroC.toArray 81)) := Only.alloc _ _ _
  have hAb : Below w.heap.size w (w.alloc (.cells zeroC.toArray 81)) := hA.below (Nat.le_refl _) (by simp)
  have cR := read_down (h.kept hA (by simp) (by simp) (by simp)) (i : Int) hu
  obtain ⟨c0, -, -, -⟩ := (hs.below hAb).cells
  have cM := fun W => must_bad 3 (by decide) W
  unfold thr at cM ⊢
  clear h hu hs
  go_enter Try.func53, Try.ntmps53
  go_wp2_with (first
    | (with_reducible refine at_alloc 81 rfl ?_; refine wpList_alloc_arr rfl 81 rfl zeroC.toArray Try.zeroH ?_)
    | (go_at_call 68; refine cR.mono ?_; rintro e w2 ⟨rfl, rfl⟩)
    | (go_at_call 54; refine (cM _).mono ?_; rintro e w3 ⟨rfl, rfl⟩))
  exact ⟨rfl, rfl, hAb⟩
end Go.Proofs.Ytkmdjhdininimaa
