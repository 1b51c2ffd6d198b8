/-
  blockOf, get, put.
-/
import Derived.Test.YtblhmfkohbdmeaaWalA
import Derived.Laws.Tables
namespace Go.Proofs.Ytblhmfkohbdmeaa
open Go.RowKit Go.Maps

theorem Try.infoW : (Try.prog.info? 97).map (fun i => (i.zero, i.size)) = some (some (.agg zeroC.toArray), 64) := by kernel_rfl
theorem Try.zeroW (u : World) : (zeroValue 97).run Try.prog u = .ok (.agg zeroC.toArray) u := (zero_of_info Try.infoW).1 u
theorem Try.sizeW : (Try.prog.info? 97).map (·.size) = some 64 := (zero_of_info Try.infoW).2

theorem Only.setRow {S : List Nat} (w : World) {g : Nat} (hg : g ∈ S) (cs : Array Value) : Only S w (w.setRow g cs) :=
  ⟨rfl, rfl, rfl, by simp, fun k _ hk => setRow_other w g k cs (fun e => hk (e ▸ hg))⟩

set_option maxRecDepth 20000 in
set_option maxHeartbeats 2000000 in
theorem blockOf_any (x : ByteArray) (hx : x.size = 64) (w : World) :
    Calls Try.prog 69 #[.string x] w fun e w' => e = .returned (.agg (bv x.data.toList).toArray) ∧ Below w.heap.size w w' := by
  have hxl : x.data.toList.length = 64 := by rw [Array.length_toList]; exact hx
  have HT : Hid (cpy x zeroC = bv x.data.toList) := cpy_full (by rw [hx, zeroC_len])
  clear hx
  generalize x.data.toList = t at *
  have hsz : (bv t).length = 64 := by rw [bv_len, hxl]
  have hcell : ((w.alloc (.cells zeroC.toArray 97)).alloc (.cells (bv t).toArray 97)).heap[w.heap.size + 1]? = some (.cells (bv t).toArray 97) := by
    have := heap_alloc_last (w.alloc (.cells zeroC.toArray 97)) (.cells (bv t).toArray 97)
    simpa using this
  have hres : ((w.alloc (.cells zeroC.toArray 97)).alloc (.cells (bv t).toArray 97)).heap[w.heap.size]? = some (.cells zeroC.toArray 97) := only_heap (heap_alloc_last w _) (Only.alloc [] _ _) (by simp)
  go_enter Try.func69, Try.ntmps69
  go_wp2_with (first
    | (with_reducible refine at_alloc 97 rfl ?_; refine wpList_alloc_arr rfl 97 rfl zeroC.toArray Try.zeroW ?_)
    | (with_reducible refine at_bi .copy _ _ rfl ?_; refine wpList_copy_str (w.alloc (.cells zeroC.toArray 97)) rfl (.tmp 4) (.tmp 5) 75 9 5 97 rfl zeroC x 64 zeroC_len rfl ?_ rfl Try.underlying75 (by kernel_rfl) ?_; simp [Act.eval]; rw [HT.out]; intro m; go_frame)
    | (with_reducible refine at_load 97 _ rfl ?_; refine wpList_load_row rfl 97 _ rfl (w.heap.size + 1) 97 _ _ _ hcell rfl Try.underlying97 rfl (by simpa [hsz] using Try.sizeW) ?_)
    | (with_reducible refine at_store 97 _ _ rfl ?_; refine wpList_store_row rfl 97 _ _ rfl w.heap.size (bv t).toArray rfl rfl 97 _ hres (by simpa [hsz] using Try.sizeW) (by simp [zeroC_len, hsz]) (bv_one t) ?_))
  have hfin := setRow_heap _ _ _ (bv t).toArray _ _ hres
  have hB : Below w.heap.size w (((w.alloc (.cells zeroC.toArray 97)).alloc (.cells (bv t).toArray 97)).setRow w.heap.size (bv t).toArray) :=
    (((Only.alloc [w.heap.size] w _).trans (Only.alloc _ _ _)).trans (Only.setRow _ (by simp) _)).below (Nat.le_refl _) (by simp)
  refine bodyPost_ret (results_cell_row rfl _ _ w.heap.size 97 (bv t).toArray (0, 0) _ rfl hfin Try.underlying97 rfl (by simpa [hsz] using Try.sizeW)) rfl ?_
  exact ⟨rfl, hB⟩

theorem mk_list (t : List UInt8) : (mk t).data.toList = t := by simp [mk]
theorem mk_size {t : List UInt8} (h : t.length = 64) : (mk t).size = 64 := by simp [mk, ByteArray.size, h]

theorem conv_rowW {w : World} {g : Nat} {t : TypeId} (s : Sec) (h : s.length = 64) (hg : w.heap[g]? = some (.cells (bv s).toArray t)) :
    (convert 75 9 (.slice (some ⟨g, 0, none⟩) 64 64)).run Try.prog w = .ok (.string (mk s)) w := by
  have := run_convert_bytes_back (P := Try.prog) w 75 9 5 ⟨g, 0, none⟩ 64 s Try.underlying75 Try.underlying5 Try.underlying9 (fun j hj => by
    have hadd : (⟨g, 0, none⟩ : Addr).add j = ⟨g, j, none⟩ := by unfold Addr.add; split <;> simp_all
    rw [hadd, cell_at hg]
    simp [bv, hj])
  rw [h] at this
  exact this

set_option maxRecDepth 20000 in
set_option maxHeartbeats 2000000 in
theorem get_any {w : World} {p bs bw : Nat} {s : DevS} (h : IsDev w p bs bw s) (i : Nat) (hi : i < s.n) (hu : s.up = true) :
    Calls Try.prog 58 #[.pointer (some ⟨p, 0, none⟩), .int .i64 (i : Int)] w fun e w' => e = .returned (.agg (bv (s.readAt i)).toArray) ∧ Below w.heap.size w w' := by
  have h64 := h.readLen i
  have hA : Only [] w (w.alloc (.cells zeroC.toArray 97)) := Only.alloc _ _ _
  have cR := read_ok (h.kept hA (by simp) (by simp) (by simp)) i hi hu
  have cB := fun u => blockOf_any (mk (s.readAt i)) (mk_size h64) u
  rw [mk_list] at cB
  have hres0 := heap_alloc_last w (.cells zeroC.toArray 97)
  clear h hi hu
  generalize s.readAt i = t at *
  have hsz : (bv t).length = 64 := by rw [bv_len, h64]
  go_enter Try.func58, Try.ntmps58
  go_wp2_with (first
    | (with_reducible refine at_alloc 97 rfl ?_; refine wpList_alloc_arr rfl 97 rfl zeroC.toArray Try.zeroW ?_)
    | (go_at_call 48; refine cR.mono ?_; rintro e w2 ⟨rfl, hb2⟩; have hres2 := (hb2.block w.heap.size (by simp)).trans hres0)
    | (go_at_call 69; refine (cB _).mono ?_; rintro e w3 ⟨rfl, hb3⟩; have hres3 := (hb3.block w.heap.size (heap_lt hres2)).trans hres2)
    | (with_reducible refine at_store 97 _ _ rfl ?_; refine wpList_store_row rfl 97 _ _ rfl w.heap.size (bv t).toArray rfl rfl 97 _ hres3 (by simpa [hsz] using Try.sizeW) (by simp [zeroC_len, hsz]) (bv_one t) ?_))
  have hfin := setRow_heap _ _ _ (bv t).toArray _ _ hres3
  have s2 := hb2.size
  have hs1 : (w.alloc (.cells zeroC.toArray 97)).heap.size = w.heap.size + 1 := World.size_alloc _ _
  have hB2 : Below w.heap.size w w2 := (hA.below (Nat.le_refl _) (by simp)).trans (hb2.mono (by omega))
  have hB3 : Below w.heap.size w w3 := hB2.trans (hb3.mono (by omega))
  have hB : Below w.heap.size w (w3.setRow w.heap.size (bv t).toArray) := hB3.trans ((Only.setRow (S := [w.heap.size]) w3 (by simp) _).below hB3.size (by simp))
  refine bodyPost_ret (results_cell_row rfl _ _ w.heap.size 97 (bv t).toArray (0, 0) _ rfl hfin Try.underlying97 rfl (by simpa [hsz] using Try.sizeW)) rfl ?_
  exact ⟨rfl, hB⟩

set_option maxRecDepth 20000 in
set_option maxHeartbeats 2000000 in
theorem put_any {w : World} {p bs bw : Nat} {s : DevS} (h : IsDev w p bs bw s) (k : Int) (t : Sec) (h64 : t.length = 64) :
    Calls Try.prog 71 #[.pointer (some ⟨p, 0, none⟩), .int .i64 k, .agg (bv t).toArray] w fun e w' => e = .returned (.tuple #[]) ∧ IsDev w' p bs bw (s.write k (mk t)).2 ∧ Only [p, bs, bw] w w' := by
  have hA : Only [p, bs, bw] w (w.alloc (.cells (bv t).toArray 97)) := Only.alloc _ _ _
  have cW := write_all (h.below (Only.alloc [] w (.cells (bv t).toArray 97)).nil_below) k (mk t)
  have hcv := conv_rowW t h64 (heap_alloc_last w (.cells (bv t).toArray 97))
  have hsz : (bv t).length = 64 := by rw [bv_len, h64]
  clear h h64
  go_enter Try.func71, Try.ntmps71
  go_wp2_with (first
    | (go_at_call 12; refine cW.mono ?_; rintro e w2 ⟨rfl, hd2, ho2⟩))
  go_end0
  exact ⟨rfl, hd2, hA.trans ho2⟩
end Go.Proofs.Ytblhmfkohbdmeaa
