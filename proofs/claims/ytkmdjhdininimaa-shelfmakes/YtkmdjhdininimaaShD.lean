/-
  The heading that a shelf's device has.
-/
import Derived.Test.YtkmdjhdininimaaShC
import Derived.Stop.BytesEq
import Derived.Deep.DeepCutAuto
import Derived.Laws.StructEq
namespace Go.Proofs.Ytkmdjhdininimaa
open Go.RowKit Go.Maps

/-- A sector that is a heading of a device with this room. -/
structure HdOk (s : DevS) (t : Sec) : Prop where
  pl : hPl t < 2
  ln : hLn t ≤ s.room
  me : hdS (hPl t) (hLn t) = t
theorem wpQuiet_loadB {P : Program} {ops : Array Oper} {Q : Act → Prop} {rest : List Oper} {a : Act} {o : Oper} {w : World} (hw : Region.wanted o (yielded ops a.tmps) = true) (ty : TypeId) (x : Operand) (ho : o.op = Op.load ty x) (p : Addr) (hx : a.eval x = .pointer (some p)) (v : Value)
    (hL : ∀ s : Beh w, (loadVar ty p).run P s.it = .ok v s.it) (h : wpQuiet P ops (fun u => ∃ s : Beh w, u = s.it) Q rest (a.put o.dst v)) : wpQuiet P ops (fun u => ∃ s : Beh w, u = s.it) Q (o :: rest) a := by
  unfold wpQuiet
  rw [if_pos hw]
  refine ⟨v, ?_, h⟩
  rintro _ ⟨s, rfl⟩
  unfold Oper.quietAt
  simp only [execOp, ho, hx, Instr.loadAt, Instr.sureAddr, Sem.run_bind, Sem.run_pure, Result.andThen, hL s]
  exact ⟨rfl, rfl⟩
theorem Try.infoU : (Try.prog.info? 5).map (fun i => (i.zero, i.size, i.bytes)) = some (some (.int .u8 0), 1, 1) := by kernel_rfl
theorem Try.sizeU (w : World) : (sizeOf 5).run Try.prog w = .ok 1 w := by
  obtain ⟨i0, hi, hz0, hz1, hz2⟩ := info_parts Try.infoU
  simp [sizeOf, typeInfo, hi, hz1]
theorem Try.noGuardH : Try.prog.eqGuardType Try.prog.depth 81 = false := by kernel_rfl
theorem eqH (xs : Sec) (hx : xs.length = 64) (w : World) : (Op.equalIn 10000 81 (.agg (bv xs).toArray) (.agg (bv xs).toArray)).run Try.prog w = .ok true w := by
  have h := run_equalIn_bytes (P := Try.prog) w 9998 81 5 64 Try.underlying81 Try.underlying5 Try.sizeU xs xs hx hx
  rw [beq_self_eq_true] at h
  exact h
theorem wpQuiet_neB {ops : Array Oper} {Q : Act → Prop} {rest : List Oper} {a : Act} {o : Oper} {w : World} (hw : Region.wanted o (yielded ops a.tmps) = true) (x y : Operand) (ho : o.op = Op.binOp BinOp.neq 81 x y 81) (t : Sec) (h64 : t.length = 64) (hx : a.eval x = .agg (bv t).toArray) (hy : a.eval y = .agg (bv t).toArray)
    (h : wpQuiet Try.prog ops (fun u => ∃ s : Beh w, u = s.it) Q rest (a.put o.dst (.bool false))) : wpQuiet Try.prog ops (fun u => ∃ s : Beh w, u = s.it) Q (o :: rest) a := by
  have hq := fun W => eqH t h64 W
  have hg := Try.noGuardH
  unfold wpQuiet
  rw [if_pos hw]
  refine ⟨.bool false, ?_, h⟩
  rintro _ ⟨s, rfl⟩
  unfold Oper.quietAt
  generalize (bv t).toArray = v at *
  have h1 := run_eqGuard_agg (P := Try.prog) s.it BinOp.neq 81 x y v v hg
  simp only [execOp, ho, hx, hy, Sem.run_bind, h1, Result.andThen]
  simp [binOp, go_sem, Op.equal, Op.maxDepth, hq]
theorem room_lt (s : DevS) : s.room ≤ 40000 := by unfold DevS.room; omega
theorem loadB {W : World} {g : Nat} {t : Sec} (h64 : t.length = 64) (h : W.heap[g]? = some (.cells (bv t).toArray 81)) : (loadVar 81 ⟨g, 0, none⟩).run Try.prog W = .ok (.agg (bv t).toArray) W := by
  have h2 : (bv t).length = 64 := by rw [bv_len, h64]
  exact run_loadVar_row W g 81 81 (bv t).toArray (0, 0) _ h Try.underlying81 rfl (by simpa [h2] using Try.sizeH)

set_option maxRecDepth 20000 in
set_option maxHeartbeats 1000000 in
theorem heading_ok {w : World} {q p bs bw : Nat} {s : DevS} {age : Int} {lost : Bool} (h : IsDev w p bs bw s) (hs : SB w q p age lost) (hu : s.up = true) (hk : HdOk s (s.readAt 0)) :
    Calls Try.prog 44 #[.pointer (some ⟨q, 0, none⟩)] w fun e w' => e = .returned (.agg #[.int .i64 (hPl (s.readAt 0) : Int), .int .i64 (hLn (s.readAt 0) : Int)]) ∧ Below w.heap.size w w' := by
  have hlo := h.lo
  have h64 := h.readLen 0
  have hA : Below w.heap.size w (w.alloc (.cells #[.int .i64 0, .int .i64 0] 68)) := (Below.refl _ w).alloc (Nat.le_refl _) _
  have cR := sread_ok (h.below hA) (hs.below hA) 0 (by omega) hu
  have cH := fun W => headingOf_any (s.readAt 0) h64 W
  have hrl := room_lt s
  have cB := fun W => bytes_any (hPl (s.readAt 0)) (hLn (s.readAt 0)) (by have := hk.pl; omega) (by have := hk.ln; omega) W
  rw [hk.me] at cB
  have cP := fun W (hW : Below w.heap.size w W) => places_any (h.below hW) (hs.below hW)
  have cM := fun W (hW : Below w.heap.size w W) => room_any (h.below hW) (hs.below hW)
  have hpl := hk.pl
  have hln := hk.ln
  have hres := heap_alloc_last w (.cells #[.int .i64 0, .int .i64 0] 68)
  have heq := eqH (s.readAt 0) h64
  clear h hs hu hk
  generalize hPl (s.readAt 0) = pl at *
  generalize hLn (s.readAt 0) = ln at *
  generalize s.readAt 0 = t at *
  generalize s.room = rm at *
  generalize s.each = ec at *
  have hsz : (bv t).length = 64 := by rw [bv_len, h64]
  go_enter Try.func44, Try.ntmps44
  go_upto_region 3 with (first
    | (go_at_call 53; refine cR.mono ?_; rintro e w2 ⟨rfl, hb2⟩; have hB2 := chainS hA hb2; have hr2 := (hb2.block w.heap.size (by simp)).trans hres; have hz := heap_alloc_last w2 (.cells zeroC.toArray 81); have hbx := setRow_heap _ _ _ (bv t).toArray _ _ hz; have hB3 := (hB2.alloc hB2.size (.cells zeroC.toArray 81)).trans ((Only.setRowS (S := [w2.heap.size]) (w2.alloc (.cells zeroC.toArray 81)) (List.mem_singleton.2 rfl) (bv t).toArray).below (hB2.alloc hB2.size (.cells zeroC.toArray 81)).size (by have := hB2.size; simp; omega)))
    | (with_reducible refine at_alloc 81 rfl ?_; refine wpList_alloc_arr rfl 81 rfl zeroC.toArray Try.zeroH ?_)
    | (with_reducible refine at_store 81 _ _ rfl ?_; refine wpList_store_row rfl 81 _ _ rfl w2.heap.size (bv t).toArray rfl rfl 81 _ hz (by simpa [hsz] using Try.sizeH) (by simp [zeroC_len, hsz]) (bv_one t) ?_)
    | (with_reducible refine at_load 81 _ rfl ?_; refine wpList_load_row rfl 81 _ rfl w2.heap.size 81 _ _ _ hbx rfl Try.underlying81 rfl (by simpa [hsz] using Try.sizeH) ?_)
    | (go_at_call 62; refine (cH _).mono ?_; rintro e w4 ⟨rfl, hb4⟩))
  have hhd := heap_alloc_last w4 (.cells #[.int .i64 (pl : Int), .int .i64 (ln : Int)] 68)
  have hB4 := (chainS hB3 hb4).alloc (chainS hB3 hb4).size (.cells #[.int .i64 (pl : Int), .int .i64 (ln : Int)] 68)
  have hbx4 := (Below.heap_alloc w4 (.cells #[.int .i64 (pl : Int), .int .i64 (ln : Int)] 68) w2.heap.size (Nat.lt_of_lt_of_le (heap_lt hbx) hb4.size)).trans ((hb4.block w2.heap.size (heap_lt hbx)).trans hbx)
  have hrs4 := (Below.heap_alloc w4 (.cells #[.int .i64 (pl : Int), .int .i64 (ln : Int)] 68) w.heap.size (Nat.lt_of_lt_of_le (Nat.lt_of_lt_of_le (heap_lt hr2) (by simp)) hb4.size)).trans ((hb4.block w.heap.size (Nat.lt_of_lt_of_le (heap_lt hr2) (by simp))).trans ((setRow_other _ _ _ _ (by have := heap_lt hr2; omega)).trans ((Below.heap_alloc w2 _ w.heap.size (heap_lt hr2)).trans hr2)))
  go_cut [27] (fun c wx => c = .bool false ∧ Below (w4.alloc (.cells #[.int .i64 (pl : Int), .int .i64 (ln : Int)] 68)).heap.size (w4.alloc (.cells #[.int .i64 (pl : Int), .int .i64 (ln : Int)] 68)) wx)
  case first =>
    generalize hW : w4.alloc (.cells #[.int .i64 (pl : Int), .int .i64 (ln : Int)] 68) = W at *
    have k0 : ∀ u : Beh W, u.it.cell? ⟨w4.heap.size, 0, none⟩ = some (.int .i64 (pl : Int)) := fun u => by rw [cell_at ((u.h.block _ (heap_lt hhd)).trans hhd)]; rfl
    have k1 : ∀ u : Beh W, u.it.cell? ⟨w4.heap.size, 1, none⟩ = some (.int .i64 (ln : Int)) := fun u => by rw [cell_at ((u.h.block _ (heap_lt hhd)).trans hhd)]; rfl
    have kLd := fun u : Beh W => loadB h64 ((u.h.block _ (heap_lt hbx4)).trans hbx4)
    have cP := fun u : Beh W => cP u.it (chainS hB4 u.h)
    have cM : ∀ u : Beh W, Calls Try.prog 46 #[.pointer (some ⟨q, 0, none⟩)] u.it fun e w' => e = .returned (.int .i64 (rm : Int)) ∧ Below u.it.heap.size u.it w' := fun u => (cM u.it (chainS hB4 u.h)).mono fun _ _ ⟨h1, h2⟩ => ⟨h1, by rw [h2]; exact Below.refl _ _⟩
    have hp1 : ¬ (2 : Int) ≤ (pl : Int) := by omega
    have hp2 : decide ((pl : Int) ≥ 2) = false := by simp; omega
    have hl1 : decide ((ln : Int) > (rm : Int)) = false := by simp; omega
    have hl2 : decide ((rm : Int) < (ln : Int)) = false := by simp; omega
    have hl3 : decide (rm < ln) = false := by simp; omega
    have hg := Try.noGuardH
    clear cR cH hhd hbx4 hrs4 hB4 hbx hB3 hz hr2 hB2 hb2 hb4 hres hA hW
    refine wp_region_beh (by kernel_rfl) (by kernel_rfl) ?_
    repeat (go_big_quiet_step ((first | (go_at_call 58; exact Beh.call (cP _)) | (go_at_call 46; exact Beh.call (cM _)) | (go_at_call 63; exact Beh.call (cB _)))))
    refine wpQuiet_loadB (by simp [Region.wanted, yielded]) 81 _ rfl ⟨w2.heap.size, 0, none⟩ rfl _ kLd ?_
    go_frame
    refine wpQuiet_neB (by simp [Region.wanted, yielded]) _ _ rfl t h64 (by simp [Act.eval]) (by simp [Act.eval]) ?_
    go_frame
    repeat (go_big_quiet_step (fail))
    refine wpQuiet_nil ?_
    intro wq hw'
    have hwq := Beh.out hw'
    clear hw'
    go_wp2_with fail
    go_meet
    exact ⟨rfl, hwq⟩
  case rest =>
    obtain ⟨rfl, hx⟩ := hcut
    have hhd5 := (hx.block _ (heap_lt hhd)).trans hhd
    have hrs5 := (hx.block _ (heap_lt hrs4)).trans hrs4
    have hB5 := chainS hB4 hx
    have d0 := cell_at hhd5 0
    have d1 := cell_at hhd5 1
    have e0 := cell_at hrs5 0
    have e1 := cell_at hrs5 1
    have z0 := frozen_at hrs5 0
    have z1 := frozen_at hrs5 1
    simp at d0 d1 e0 e1
    have hfin := heap_setCell (heap_setCell hrs5 0 (.int .i64 (pl : Int))) 1 (.int .i64 (ln : Int))
    have hB6 := (hB5.trans ((Only.setCell (S := [w.heap.size]) wc (p := ⟨w.heap.size, 0, none⟩) (by simp) (.int .i64 (pl : Int))).below hB5.size (by simp)))
    have hB7 := (hB6.trans ((Only.setCell (S := [w.heap.size]) (wc.setCell ⟨w.heap.size, 0, none⟩ (.int .i64 (pl : Int))) (p := ⟨w.heap.size, 1, none⟩) (by simp) (.int .i64 (ln : Int))).below hB6.size (by simp)))
    clear cR cH cB cP cM hhd hbx4 hrs4 hB4 hbx hB3 hz hr2 hB2 hb2 hb4 hres hA hhd5 hrs5
    go_wp2_with fail
    refine bodyPost_ret (results_cell_row rfl _ _ w.heap.size 68 _ (0, 0) _ rfl hfin Try.underlying68 rfl Try.sizeHd) rfl ?_
    exact ⟨rfl, hB7⟩
end Go.Proofs.Ytkmdjhdininimaa
