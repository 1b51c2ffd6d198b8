/-
  The text of which a heading tells: textAt.
-/
import Derived.Test.YtkmdjhdininimaaShW
namespace Go.Proofs.Ytkmdjhdininimaa
open Go.RowKit Go.Maps

theorem bd_below {B b : Nat} {bs : List Value} {w w' : World} (h : Bd B b bs w) (hb : Below w.heap.size w w') : Bd B b bs w' := by
  have hg : w.grownBy w' none := ⟨hb.os, hb.tape, hb.output, hb.size, fun k hk _ => hb.block k hk⟩
  rcases h with ⟨h1, v, h2, h3, h4⟩ | ⟨h1, v, h2, h3, h4⟩
  · exact .inl ⟨h1, v, (hb.block b (heap_lt h2)).trans h2, h3.kept hg (by cases v.ownBlock <;> simp), h4⟩
  · exact .inr ⟨h1, v, (hb.block b (heap_lt h2)).trans h2, h3.kept hg (by cases v.ownBlock <;> simp), h4⟩
theorem bd_lt {B b : Nat} {bs : List Value} {w : World} (h : Bd B b bs w) : b < w.heap.size := by
  rcases h with ⟨_, v, h2, _⟩ | ⟨_, v, h2, _⟩
  · exact heap_lt h2
  · exact heap_lt h2
theorem cells_bv (l : List UInt8) : Lib.byteCells l = bv l := rfl
section
variable {P : Program} {ops : Array Oper} {rest : List Oper} {o : Oper} {a : Act} {w : World} {Q : Act → Prop}
theorem wpStill_slice (hg : o.guard = none) (t : TypeId) (x : Operand) (lo hi mx : Option Operand) (hop : o.op = Op.slice t x lo hi mx) (v : Value) (hrun : (Instr.sliceAt t (a.eval x) (lo.map a.eval) (hi.map a.eval) (mx.map a.eval)).run P w = .ok v w)
    (hK : wpStill P ops w Q rest (a.put o.dst v)) : wpStill P ops w Q (o :: rest) a := by
  have hw : Region.wanted o (yielded ops a.tmps) = true := by simp [Region.wanted, hg]
  simp only [wpStill, hw, if_true, Oper.still]
  have hr : (execOp a.eval o).run P w = .ok (.value v) w := by
    simp [execOp, hop, hrun, Result.andThen]
  rw [hr]
  exact ⟨rfl, hK⟩
end
set_option maxRecDepth 20000 in
theorem slice_blk (g m : Nat) (hm : m ≤ 64) (W : World) :
    (Instr.sliceAt 81 (.pointer (some ⟨g, 0, none⟩)) none (some (.int .i64 (m : Int))) none).run Try.prog W = .ok (.slice (some ⟨g, 0, none⟩) m 64) W := by
  have e1 : Try.prog.arrayLen 81 = 64 := by kernel_rfl
  have e2 : Try.prog.elem 81 = 5 := by kernel_rfl
  have hz := Try.sizeU W
  rw [run_sliceAt_array_h (P := Try.prog) W 81 ⟨g, 0, none⟩ Try.underlying81 .i64 (m : Int) (by omega) (by rw [e1]; omega), e1, e2]
  simp [hz, Result.andThen, slicedAt, Addr.add]
theorem idx_pl (s : DevS) (pl : Nat) (h : pl < 2) (W : World) : (Instr.index 87 (.agg #[.int .i64 1, .int .i64 (1 + (s.each : Int))]) (.int .i64 (pl : Int))).run Try.prog W = .ok (.int .i64 (s.pat pl : Int)) W := by
  obtain rfl | rfl : pl = 0 ∨ pl = 1 := by omega
  · have := idxP0 (.int .i64 1) (.int .i64 (1 + (s.each : Int))) W
    exact this
  · have := idxP1 (.int .i64 1) (.int .i64 (1 + (s.each : Int))) W
    have e : (s.pat 1 : Int) = 1 + (s.each : Int) := by show ((1 + s.each : Nat) : Int) = _; omega
    rw [e]
    exact this

set_option maxRecDepth 20000 in
set_option maxHeartbeats 1000000 in
theorem textAt_ok {w : World} {q p bs bw : Nat} {s : DevS} {age : Int} {lost : Bool} (h : IsDev w p bs bw s) (hs : SB w q p age lost) (hu : s.up = true) (pl ln : Nat) (hpl : pl < 2) (hln : ln ≤ s.room) :
    Calls Try.prog 43 #[.pointer (some ⟨q, 0, none⟩), .agg #[.int .i64 (pl : Int), .int .i64 (ln : Int)]] w fun e w' => e = .returned (.string (Go.Proofs.Ytkmdjhdininimaa.mk (s.txt (s.pat pl) ln))) ∧ Below w.heap.size w w' := by
  have h64 := h.readLen
  have hrm := room_le s
  have hec := each_le h
  have hen : 2 * s.each + 1 ≤ s.n := by have := h.lo; unfold DevS.each; omega
  have hA : Below w.heap.size w ((w.alloc (.cells #[.int .i64 (pl : Int), .int .i64 (ln : Int)] 68)).alloc (.cells #[.pointer none, .slice none 0 0] 86)) := ((Below.refl _ w).alloc (Nat.le_refl _) _).alloc (by simp) _
  have hhd := (Below.heap_alloc (w.alloc (.cells #[.int .i64 (pl : Int), .int .i64 (ln : Int)] 68)) (.cells #[.pointer none, .slice none 0 0] 86) w.heap.size (by simp)).trans (heap_alloc_last w (.cells #[.int .i64 (pl : Int), .int .i64 (ln : Int)] 68))
  have hbd := Lib.fresh_isBuilder 86 5 (w.alloc (.cells #[.int .i64 (pl : Int), .int .i64 (ln : Int)] 68))
  rw [World.size_alloc] at hbd
  have hix := fun W => idx_pl s pl hpl W
  have cP := fun W (hW : Below w.heap.size w W) => places_any (h.below hW) (hs.below hW)
  have cR := fun W (hW : Below w.heap.size w W) (i : Nat) (hi : i < s.n) => sread_ok (h.below hW) (hs.below hW) i hi hu
  have hpat : s.pat pl + s.each ≤ s.n := by unfold DevS.pat; split <;> omega
  generalize s.pat pl = x at *
  have hx0 : x ≤ 8192 := by have := h.hi; omega
  clear h hs hu
  go_enter Try.func43, Try.ntmps43
  go_upto_region 2 with fail
  obtain ⟨W, hW⟩ : ∃ W, W = (w.alloc (.cells #[.int .i64 (pl : Int), .int .i64 (ln : Int)] 68)).alloc (.cells #[.pointer none, .slice none 0 0] 86) := ⟨_, rfl⟩
  have hsz : W.heap.size = w.heap.size + 1 + 1 := by rw [hW]; simp
  rw [← hW] at hA hhd hbd
  simp only [← hW]
  clear hW
  have cP := fun u : Beh W => cP u.it (chainS hA u.h)
  have k0 : ∀ u : Beh W, u.it.cell? ⟨w.heap.size, 0, none⟩ = some (.int .i64 (pl : Int)) := fun u => by rw [cell_at ((u.h.block _ (heap_lt hhd)).trans hhd)]; rfl
  refine wp_region_beh (by kernel_rfl) (by kernel_rfl) ?_
  repeat (go_big_quiet_step ((go_at_call 58; exact Beh.call (cP _))))
  refine wpQuiet_nil ?_
  intro wq hw'
  have hwq := Beh.out hw'
  clear hw' cP k0 hix
  have hb1 := bd_below hbd hwq
  have hh1 := (hwq.block _ (heap_lt hhd)).trans hhd
  have hB1 := chainS hA hwq
  clear hA hbd hhd
  go_wp2_with fail
  go_loopw [6] (fun a wr => ∃ k : Nat, a = .int .i64 ((x + k : Nat) : Int) ∧ 64 * k < ln + 64 ∧ Bd (w.heap.size + 1) (w.heap.size + 1) (Lib.byteCells ((s.bys x k).take ln)) wr ∧ wr.heap[w.heap.size]? = some (.cells #[.int .i64 (pl : Int), .int .i64 (ln : Int)] 68) ∧ Below w.heap.size w wr) (fun a _ => 10000 - (intOf a).toNat)
  case atStart => exact ⟨0, rfl, by omega, by simpa [DevS.bys, Lib.byteCells] using hb1, hh1, hB1⟩
  case round =>
    obtain ⟨k, rfl, hk, hbk, hhk, hBk⟩ := hrel
    have hbl := bys_len h64 x k
    have k1 : ∀ u : Beh wr, u.it.cell? ⟨w.heap.size, 1, none⟩ = some (.int .i64 (ln : Int)) := fun u => by rw [cell_at ((u.h.block _ (heap_lt hhk)).trans hhk)]; rfl
    by_cases hlt : 64 * k < ln
    · obtain ⟨c, hc⟩ : ∃ c, c = 64 * k := ⟨_, rfl⟩
      have hkl : (s.bys x k).take ln = s.bys x k := List.take_of_length_le (by omega)
      have hcl : (Lib.byteCells ((s.bys x k).take ln)).length = c := by rw [Lib.byteCells_length, hkl, hbl, hc]
      have cL : ∀ u : Beh wr, Calls Try.prog 59 #[.pointer (some ⟨w.heap.size + 1, 0, none⟩)] u.it fun e w' => e = .returned (.int .i64 (c : Int)) ∧ Below u.it.heap.size u.it w' := fun u =>
        (blen_any _ _ _ _ (bd_below hbk u.h)).mono fun _ _ ⟨h1, h2⟩ => ⟨by rw [h1, hcl], by rw [h2]; exact Below.refl _ _⟩
      have hcn : (c : Int) < (ln : Int) := by omega
      have hxk : x + k < s.n := by omega
      have Hc : Hid (c = 64 * k) := hc
      have Hcl : Hid ((Lib.byteCells ((s.bys x k).take ln)).length = c) := hcl
      have Hkl : Hid ((s.bys x k).take ln = s.bys x k) := hkl
      clear hc hcl hkl hbl
      go_upto_region 3 with fail
      refine wp_region_beh (by kernel_rfl) (by kernel_rfl) ?_
      repeat (go_big_quiet_step ((go_at_call 59; exact Beh.call (cL _))))
      refine wpQuiet_nil ?_
      intro w2 hw'
      have hw2 := Beh.out hw'
      clear hw' cL k1
      have hb2 := bd_below hbk hw2
      have hh2 := (hw2.block _ (heap_lt hhk)).trans hhk
      have hB2 := chainS hBk hw2
      have cRd := cR w2 hB2 (x + k) hxk
      have ht64 := h64 (x + k)
      have Htk : Hid (bv ((s.bys x (k + 1)).take ln) = Lib.byteCells ((s.bys x k).take ln) ++ bv ((s.readAt (x + k)).take (ln - c))) := by
        show _ = _
        rw [bys_take h64 x k ln (by omega), Hkl.out, Hc.out]
        simp [bv, Lib.byteCells]
      generalize s.readAt (x + k) = t at *
      have hsz : (bv t).length = 64 := by rw [bv_len, ht64]
      clear hbk hhk hBk hw2
      go_upto_region 6 with (first
        | (go_at_call 53; refine cRd.mono ?_; rintro e w3 ⟨rfl, hb3⟩; have hz := heap_alloc_last w3 (.cells zeroC.toArray 81))
        | (with_reducible refine at_alloc 81 rfl ?_; refine wpList_alloc_arr rfl 81 rfl zeroC.toArray Try.zeroH ?_)
        | (with_reducible refine at_store 81 _ _ rfl ?_; refine wpList_store_row rfl 81 _ _ rfl w3.heap.size (bv t).toArray rfl rfl 81 _ hz (by simpa [hsz] using Try.sizeH) (by simp [zeroC_len, hsz]) (bv_one t) ?_))
      have hbx := setRow_heap _ _ _ (bv t).toArray _ _ hz
      have hX : Below w3.heap.size w3 ((w3.alloc (.cells zeroC.toArray 81)).setRow w3.heap.size (bv t).toArray) := ((Below.refl _ w3).alloc (Nat.le_refl _) _).trans ((Only.setRowS (S := [w3.heap.size]) (w3.alloc (.cells zeroC.toArray 81)) (List.mem_singleton.2 rfl) (bv t).toArray).below (by simp) (by simp))
      obtain ⟨X, hXe⟩ : ∃ X, X = (w3.alloc (.cells zeroC.toArray 81)).setRow w3.heap.size (bv t).toArray := ⟨_, rfl⟩
      rw [← hXe] at hbx hX
      simp only [← hXe]
      clear hXe hz
      have hX2 : Below w2.heap.size w2 X.drew := (chainS hb3 hX).trans (Below.drew (Below.refl _ X))
      have hbX := bd_below hb2 hX2
      have hhX := (hX2.block _ (heap_lt hh2)).trans hh2
      have hBX := chainS hB2 hX2
      have hbx' : X.drew.heap[w3.heap.size]? = some (.cells (bv t).toArray 81) := hbx
      have q1 : X.drew.cell? ⟨w.heap.size, 1, none⟩ = some (.int .i64 (ln : Int)) := by rw [cell_at hhX]; rfl
      have cL : Calls Try.prog 59 #[.pointer (some ⟨w.heap.size + 1, 0, none⟩)] X.drew fun e w' => e = .returned (.int .i64 (c : Int)) ∧ w' = X.drew := (blen_any _ _ _ _ hbX).mono fun _ _ ⟨h1, h2⟩ => ⟨by rw [h1, Hcl.out], h2⟩
      have hgb : w3.heap.size ≠ w.heap.size + 1 := by have := bd_lt hb2; have := hb3.size; omega
      have hBw : w.heap.size + 1 ≤ X.drew.heap.size := by have := bd_lt hbX; omega
      -- what is written
      obtain ⟨m, hm⟩ : ∃ m : Nat, m = min 64 (ln - c) := ⟨_, rfl⟩
      have hsl := slice_blk w3.heap.size m (by omega) X.drew
      have cW := bwrite_any (w.heap.size + 1) (w.heap.size + 1) _ ⟨w3.heap.size, 0, none⟩ m 64 (bv (t.take m)) X.drew hbX (by rw [bv_len, List.length_take]; omega) (fun j u hj => by
        have hadd : (⟨w3.heap.size, 0, none⟩ : Addr).add j = ⟨w3.heap.size, j, none⟩ := by unfold Addr.add; split <;> simp_all
        rw [hadd, cell_at hbx']
        simp only [bv, List.getElem?_map, List.map_take, List.getElem?_take] at hj ⊢
        split at hj
        · simpa using hj
        · cases hj) hgb (heap_lt hbx') (fun u hu => by
        obtain ⟨b0, _, rfl⟩ := List.mem_map.1 hu
        rfl) (by rw [Hcl.out]; omega) hBw
      have Htk2 : Hid (bv (t.take m) = bv (t.take (ln - c))) := by
        show _ = _
        congr 1
        by_cases h1 : 64 ≤ ln - c
        · rw [hm, Nat.min_eq_left h1, List.take_of_length_le (by omega), List.take_of_length_le (by omega)]
        · rw [hm, Nat.min_eq_right (by omega)]
      clear hbx hbx' hX hX2 hb3 hb2 hh2 hB2 cRd
      have fin : ∀ w5, BdAt (w.heap.size + 1) (w.heap.size + 1) (Lib.byteCells ((s.bys x k).take ln) ++ bv (t.take m)) w5 → Below (w.heap.size + 1) X.drew w5 → Bd (w.heap.size + 1) (w.heap.size + 1) (Lib.byteCells ((s.bys x (k + 1)).take ln)) w5 ∧ w5.heap[w.heap.size]? = some (.cells #[.int .i64 (pl : Int), .int .i64 (ln : Int)] 68) ∧ Below w.heap.size w w5 := fun w5 h1 h2 => by
        refine ⟨.inr ?_, (h2.block w.heap.size (by omega)).trans hhX, hBX.trans (h2.mono (by omega))⟩
        rw [cells_bv ((s.bys x (k + 1)).take ln), Htk.out, ← Htk2.out]
        exact h1
      clear hbX hhX hBX Htk Htk2 hBw
      have hme : min 64 (IntKind.i64.wrap ((ln : Int) - (c : Int))) = (m : Int) := by
        have e1 : (ln : Int) - (c : Int) = ((ln - c : Nat) : Int) := by omega
        rw [e1, Go.Lib.wrap_i64_small _ (by omega)]
        omega
      rw [← hme] at hsl
      clear hm hme
      refine region_tail 6 Try.mixed (by kernel_rfl) ?_
      simp only [List.take_succ_cons, List.take_zero, List.drop_succ_cons, List.drop_zero]
      iterate 2 still_step
      still_call cL
      iterate 2 still_step
      refine wpStill_slice rfl 81 _ none _ none rfl _ hsl ?_
      refine wpStill_nil ?_
      go_wp2_with (go_at_call 60; refine cW.mono ?_; rintro e w5 ⟨rfl, hb5, hl5⟩)
      obtain ⟨f1, f2, f3⟩ := fin _ hb5 hl5
      go_roundw
      case rel => exact ⟨k + 1, by go_num, by have := Hc.out; omega, f1, f2, f3⟩
      case measure => simp [intOf]; omega
    · have hlen : (Lib.byteCells ((s.bys x k).take ln)).length = ln := by rw [Lib.byteCells_length, List.length_take, hbl]; omega
      have cL : ∀ u : Beh wr, Calls Try.prog 59 #[.pointer (some ⟨w.heap.size + 1, 0, none⟩)] u.it fun e w' => e = .returned (.int .i64 (ln : Int)) ∧ Below u.it.heap.size u.it w' := fun u =>
        (blen_any _ _ _ _ (bd_below hbk u.h)).mono fun _ _ ⟨h1, h2⟩ => ⟨by rw [h1, hlen], by rw [h2]; exact Below.refl _ _⟩
      have htx : Hid ((s.bys x k).take ln = s.txt x ln) := txt_of x k ln (by omega) hk
      clear hlen hbl
      go_upto_region 3 with fail
      refine wp_region_beh (by kernel_rfl) (by kernel_rfl) ?_
      repeat (go_big_quiet_step ((go_at_call 59; exact Beh.call (cL _))))
      refine wpQuiet_nil ?_
      intro w2 hw'
      have hw2 := Beh.out hw'
      clear hw' cL k1
      have hb2 := bd_below hbk hw2
      have hB2 := chainS hBk hw2
      have cS := string_any _ _ _ _ hb2 (by have := bd_lt hb2; omega)
      rw [htx.out] at cS
      clear hbk hhk hBk hw2
      go_wp2_with (go_at_call 61; refine cS.mono ?_; rintro e w5 ⟨rfl, hl5⟩)
      go_ret
      exact ⟨rfl, hB2.trans (hl5.mono (by omega))⟩
end Go.Proofs.Ytkmdjhdininimaa
