/-
  Contracts: Write, maps.Copy of sectors, Sync.
-/
import Derived.Test.YtkmdjhdininimaaDevR
import Derived.StillTactics
import Derived.Maps.RangeWalk
import Derived.Laws.IdiomRangeMap
namespace Go.Proofs.Ytkmdjhdininimaa
open Go.RowKit Go.Maps

section
variable {P : Program} {ops : Array Oper} {rest : List Oper} {o : Oper} {a : Act} {w : World} {Q : Act → Prop}
theorem wpStill_load_row (hg : o.guard = none) (t : TypeId) (x : Operand) (hop : o.op = Op.load t x) (g : Nat) (t' : TypeId) (cs : Array Value) (fr : Nat × Nat) (d : TypeDesc) (hh : w.heap[g]? = some (.cells cs t' fr)) (hx : a.eval x = .pointer (some ⟨g, 0, none⟩))
    (hu : P.underlying t = some d) (hd : (match d with | .struct _ | .array _ _ => true | _ => false) = true) (hi : (P.info? t).map (·.size) = some cs.size)
    (hK : wpStill P ops w Q rest (a.put o.dst (.agg cs))) : wpStill P ops w Q (o :: rest) a := by
  have hw : Region.wanted o (yielded ops a.tmps) = true := by simp [Region.wanted, hg]
  simp only [wpStill, hw, if_true, Oper.still]
  have hrun : (execOp a.eval o).run P w = .ok (.value (.agg cs)) w := by
    simp only [execOp, hop, hx, Instr.loadAt, Instr.sureAddr, Sem.run_bind, Sem.run_pure, Result.andThen, run_loadVar_row w g t' t cs fr d hh hu hd hi]
  rw [hrun]
  exact ⟨rfl, hK⟩
theorem wpStill_lookup (hg : o.guard = none) (t : TypeId) (x y : Operand) (c : Bool) (hop : o.op = Op.lookup t x y c) (v : Value) (hrun : (Instr.lookup t (a.eval x) (a.eval y) c).run P w = .ok v w)
    (hK : wpStill P ops w Q rest (a.put o.dst v)) : wpStill P ops w Q (o :: rest) a := by
  have hw : Region.wanted o (yielded ops a.tmps) = true := by simp [Region.wanted, hg]
  simp only [wpStill, hw, if_true, Oper.still]
  have hr : (execOp a.eval o).run P w = .ok (.value v) w := by
    simp only [execOp, hop, Sem.run_bind, Sem.run_pure, Result.andThen, hrun]
  rw [hr]
  exact ⟨rfl, hK⟩
end

theorem Try.mixed : Try.prog.follows .mixedOrders = true := by kernel_rfl

theorem region_tail {P : Program} {id : Nat} {Q : Exit → Act → World → Prop} {a : Act} {w : World} {l : List Oper} (n : Nat) (hm : P.follows .mixedOrders = true) (hB : Region.lexTailB .any l.toArray n = true)
    (h : wpStill P l.toArray w.drew (fun a' => wpList P l.toArray Q (l.drop n) a' w.drew) (l.take n) a) : (Code.region id l.toArray true).wp P Q a w :=
  wp_region_still_tail n hm hB h

theorem tight {w : World} {b m N : Nat} {f : SecF} (h : w.ownsMap Try.prog 3 secR b m (DF N f)) : w.ownsMap Try.prog 3 secR b N (DF N f) := by
  obtain ⟨es, c, hb, F, _, hD⟩ := h
  refine ⟨es, c, hb, F, ?_, hD⟩
  have := size_DF N f
  rw [hD, size_eq, length_sorted] at this
  simpa using this

/-- What waits at i is x. -/
theorem IsDev.wrote {w w' : World} {p bs bw : Nat} {s : DevS} (h : IsDev w p bs bw s) (i : Nat) (hi : i < s.n) (t : Sec) (ht : t.length = 64) (m : Nat) (ho : w'.ownsMap Try.prog 3 secR bw m ((DF s.n s.waits).put (.int .i64 (i : Int)) (.lit (.string t)))) (hg : Only [bw] w w') :
    IsDev w' p bs bw { s with waits := putF s.waits i t } := by
  refine ⟨only_heap h.str hg (by simp [h.pw]), ownsMap_only h.safe hg (by simp [h.ne]), ?_, h.ne, h.lo, h.hi, h.fz0, h.fz1, h.ag0, h.ag1, h.fs, ?_⟩
  · rw [put_DF t hi] at ho
    exact tight ho
  · intro j u hj
    have hj' : putF s.waits i t j = some u := hj
    unfold putF at hj'
    split at hj'
    · cases hj'; exact ht
    · exact h.fw j u hj'

set_option maxHeartbeats 400000 in
theorem write_down {w : World} {p bs bw : Nat} {s : DevS} (h : IsDev w p bs bw s) (k : Int) (x : ByteArray) (hu : s.up = false) :
    Calls Try.prog 11 #[.pointer (some ⟨p, 0, none⟩), .int .i64 k, .string x] w fun e w' => e = .returned (.int .i64 3) ∧ w' = w := by
  have hb := up_any h
  rw [hu] at hb
  clear h hu
  go_enter Try.func11, Try.ntmps11
  go_wp2_with (first | (go_at_call 28; refine hb.mono ?_; rintro e w' ⟨rfl, rfl⟩))
  go_ret
  exact ⟨rfl, rfl⟩

set_option maxHeartbeats 400000 in
theorem write_arg {w : World} {p bs bw : Nat} {s : DevS} (h : IsDev w p bs bw s) (k : Int) (x : ByteArray) (hu : s.up = true) (ha : s.inB k = false ∨ x.size ≠ 64) :
    Calls Try.prog 11 #[.pointer (some ⟨p, 0, none⟩), .int .i64 k, .string x] w fun e w' => e = .returned (.int .i64 1) ∧ w' = w := by
  have hb := up_any h
  rw [hu] at hb
  have hs := has_any h k
  clear h hu
  cases hin : s.inB k with
  | false =>
    rw [hin] at hs
    clear ha hin
    go_enter Try.func11, Try.ntmps11
    go_wp2_with (first | (go_at_call 28; refine hb.mono ?_; rintro e w' ⟨rfl, rfl⟩) | (go_at_call 29; refine hs.mono ?_; rintro e w' ⟨rfl, rfl⟩))
    go_ret
    exact ⟨rfl, rfl⟩
  | true =>
    rw [hin] at hs
    have h64 : ((x.size : Int) != 64) = true := by
      rw [bne_iff_ne]
      rcases ha with ha | ha
      · rw [hin] at ha; cases ha
      · omega
    clear ha hin
    go_enter Try.func11, Try.ntmps11
    go_wp2_with (first | (go_at_call 28; refine hb.mono ?_; rintro e w' ⟨rfl, rfl⟩) | (go_at_call 29; refine hs.mono ?_; rintro e w' ⟨rfl, rfl⟩))
    go_ret
    exact ⟨rfl, rfl⟩

set_option maxRecDepth 20000 in
set_option maxHeartbeats 1000000 in
theorem write_ok {w : World} {p bs bw : Nat} {s : DevS} (h : IsDev w p bs bw s) (i : Nat) (x : ByteArray) (hi : i < s.n) (hu : s.up = true) (hx : x.size = 64) :
    Calls Try.prog 11 #[.pointer (some ⟨p, 0, none⟩), .int .i64 (i : Int), .string x] w fun e w' => e = .returned (.int .i64 0) ∧
      IsDev w' p bs bw { s with waits := putF s.waits i x.data.toList, fuse := burnt s.fuse } ∧ Only [p, bw] w w' := by
  have hb := up_any h
  rw [hu] at hb
  have hs := has_any h i
  have e : s.inB i = true := by simp [DevS.inB]; omega
  rw [e] at hs
  have h64 : ((x.size : Int) != 64) = false := by rw [hx]; rfl
  have hxl : x.data.toList.length = 64 := by rw [Array.length_toList]; exact hx
  have HT : Hid (cpy x zeroC = bv x.data.toList) := cpy_full (by rw [hx, zeroC_len])
  clear e hx
  generalize x.data.toList = t at *
  have hB : Below w.heap.size w ((w.alloc (.cells (bv t).toArray 63)).drew) := ((Below.refl _ _).alloc (Nat.le_refl _) _).drew
  have hD := h.below hB
  have h2 : (w.alloc (.cells (bv t).toArray 63)).cell? ⟨p, 2, none⟩ = some (.map (some bw)) := hD.c2
  have hcell : ((w.alloc (.cells (bv t).toArray 63)).drew).heap[w.heap.size]? = some (.cells (bv t).toArray 63) := heap_alloc_last w (.cells (bv t).toArray 63)
  have hm := h.hi
  have hown := hD.waits
  have hsz : (bv t).length = 64 := by rw [bv_len, hxl]
  have hfin := fun W m ho hg => burn_any (hD.wrote (w' := W) i hi t hxl m ho hg)
  have hO : Only [p, bw] w ((w.alloc (.cells (bv t).toArray 63)).drew) := (Only.alloc _ w _).trans (Only.drew _ _)
  have hkey := key_nat i (by omega)
  have hval := secR_mk hxl
  clear h hu hB hD hxl
  go_enter Try.func11, Try.ntmps11
  go_wp2_with (first
    | (go_at_call 28; refine hb.mono ?_; rintro e w' ⟨rfl, hw⟩; subst hw)
    | (go_at_call 29; refine hs.mono ?_; rintro e w' ⟨rfl, hw⟩; subst hw)
    | (with_reducible refine at_alloc 63 rfl ?_; refine wpList_alloc_arr rfl 63 rfl zeroC.toArray Try.zeroB ?_)
    | (with_reducible refine at_bi .copy _ _ rfl ?_; refine wpList_copy_str _ rfl _ _ 28 9 5 63 rfl zeroC x 64 zeroC_len rfl rfl rfl Try.underlying28 (by kernel_rfl) ?_; rw [HT.out]; intro m; go_frame))
  clear hb hs h64
  refine region_tail 6 Try.mixed (by kernel_rfl) ?_
  simp only [List.take_succ_cons, List.take_zero, List.drop_succ_cons, List.drop_zero]
  iterate 5 still_step
  refine wpStill_load_row rfl 63 _ rfl _ 63 _ _ _ hcell rfl Try.underlying63 rfl (by simpa [hsz] using Try.sizeB) ?_
  refine wpStill_nil ?_
  refine wpList_mapUpdate_own _ rfl _ _ _ 58 rfl 3 63 keyed Try.underlying58 _ bw s.n (DF s.n s.waits) rfl hown (by unfold maxLen; omega) _ _ _ rfl rfl hkey _ _ hval ?_
  intro w1 hown1 hgrow1
  have hg1 : Only [bw] _ w1 := Only.of_grown hgrow1 (by simp)
  have cB := hfin w1 _ hown1 hg1
  clear hfin hown1 hgrow1 hown hcell hkey hval
  go_wp2_with (first | (go_at_call 30; refine cB.mono ?_; rintro e w2 ⟨rfl, hd2, ho2⟩))
  go_ret
  exact ⟨rfl, hd2, (hO.trans (hg1.mono (by simp))).trans (ho2.mono (by simp))⟩
end Go.Proofs.Ytkmdjhdininimaa
