/-
  bringHome.
-/
import Derived.Test.YtblhmfkohbdmeaaWalF
namespace Go.Proofs.Ytblhmfkohbdmeaa
open Go.RowKit Go.Maps

theorem sec_lookupW {w : World} {b N : Nat} {f : SecF} (h : w.ownsMap Try.prog 3 secR b N (DF N f)) (i : Nat) (hi : i < N) (hN : N ≤ 8192) :
    (Instr.lookup 91 (.map (some b)) (.int .i64 (i : Int)) false).run Try.prog w = .ok (secV ((f i).getD zeroS)) w := by
  obtain ⟨v, ps, hrun, hR⟩ := h.lookup keyed Try.underlying91 (Try.zeroW w) (secR_mk zeroS_len) (key_nat i (by omega))
  obtain ⟨s, rfl, _, hz⟩ := secR_inv hR
  rw [hrun]
  cases hf : f i with
  | none =>
    rw [atKey_of_not_has (by rw [has_DF_at]; simp [hf])] at hz
    simp only [Prod.mk.injEq, DataW.lit.injEq, Lit.string.injEq] at hz
    rw [← hz.1]
    rfl
  | some t =>
    rw [atKey_DF hi hf] at hz
    simp only [Prod.mk.injEq, DataW.lit.injEq, Lit.string.injEq] at hz
    rw [← hz.1]
    rfl

section
variable {P : Program} {ops : Array Oper} {rest : List Oper} {o : Oper} {a : Act} {w : World} {Q : Act → Prop}
theorem wpStill_build_zero (hg : o.guard = none) (t : TypeId) (ho : o.op = .build t #[]) (z : Array Value) (hz : P.built t [] = some z)
    (hK : wpStill P ops w Q rest (a.put o.dst (.agg z))) : wpStill P ops w Q (o :: rest) a := by
  have hw : Region.wanted o (yielded ops a.tmps) = true := by simp [Region.wanted, hg]
  simp only [wpStill, hw, if_true, Oper.still]
  have hr : (execOp a.eval o).run P w = .ok (.value (.agg z)) w := by
    have hb : (Instr.build t (Array.map (fun x : Nat × Operand => (x.1, a.eval x.2)) #[])).run P w = .ok (.agg z) w := run_build w t _ z (by simpa using hz)
    simp only [execOp, ho, Sem.run_bind, hb, Sem.run_pure, Result.andThen]
  rw [hr]
  exact ⟨rfl, hK⟩
end

/-- What waits behind the writes of f for these sectors. -/
def homeK (s : DevS) (f : SecF) (l : List Nat) : DevS := l.foldl (fun (s : DevS) (k : Nat) => (s.write (k : Int) (mk ((f k).getD zeroS))).2) s
theorem homeK_n (s : DevS) (f : SecF) (l : List Nat) : (homeK s f l).n = s.n := by
  unfold homeK
  induction l generalizing s with
  | nil => rfl
  | cons a l ih => rw [List.foldl_cons, ih, write_n]
/-- bringHome. -/
def homeD (s : DevS) (f : SecF) (N : Nat) : Int × DevS := (((homeK s f (keysF N f)).sync.2.write ((s.n : Int) - 25) (mk zeroS)).2).sync

theorem homeK_succ (s : DevS) (f : SecF) (l : List Nat) (k : Nat) (h : k < l.length) : homeK s f (l.take (k + 1)) = ((homeK s f (l.take k)).write (l[k] : Int) (mk ((f l[k]).getD zeroS))).2 := by
  unfold homeK
  rw [List.take_add_one, List.getElem?_eq_getElem h, Option.toList_some, List.foldl_append]
  rfl

set_option maxRecDepth 20000 in
set_option maxHeartbeats 2000000 in
theorem bringHome_any {w : World} {r p bs bw b N : Nat} {age : Int} {lost : Bool} {s : DevS} {f : SecF} (hw : IsWal w r p age lost) (hd : IsDev w p bs bw s) (hown : w.ownsMap Try.prog 3 secR b N (DF N f)) (hf : Full f) (hN : N ≤ 8192) (hb : b ∉ [p, bs, bw]) :
    Calls Try.prog 55 #[.pointer (some ⟨r, 0, none⟩), .map (some b)] w fun e w' => e = .returned (.int .i64 (homeD s f N).1) ∧ IsDev w' p bs bw (homeD s f N).2 ∧ Only [p, bs, bw] w w' := by
  have cR := rising_any hown hN
  have hap := hw.apart hd
  have hkl : (keysF N f).length ≤ 8192 := Nat.le_trans (keysF_le _ _) hN
  have lp := hd.ltp
  have ls := hd.lts
  have lw := hd.ltw
  go_enter Try.func55, Try.ntmps55
  go_wp2_with (first | (go_at_call 70; refine cR.mono ?_; rintro e w1 ⟨v, rfl, hrow, _, hb1⟩; obtain ⟨ao, cp, rfl, hao⟩ := own_shape hrow))
  have hD1 := hd.below hb1
  have hW1 := hw.below hb1
  have hM1 := ownsMap_only hown (Only.of_below (S := []) hb1) (by simp)
  clear cR hrow hd hw hown
  go_loopw [10] (fun i wr => ∃ k : Nat, k ≤ (keysF N f).length ∧ i = .int .i64 (k : Int) ∧ IsDev wr p bs bw (homeK s f ((keysF N f).take k)) ∧ Only [p, bs, bw] w1 wr)
    (fun i _ => (keysF N f).length - (intOf i).toNat)
  case atStart => exact ⟨0, Nat.zero_le _, rfl, hD1, Only.refl _ _⟩
  case round =>
    obtain ⟨k, hk, rfl, hDk, hOk⟩ := hrel
    have hWk := hW1.kept hOk hap
    have hMk := ownsMap_only hM1 hOk hb
    by_cases hlk : k < (keysF N f).length
    · obtain ⟨g, rfl, hg0, hg1, hcp, hcell⟩ := hao (by omega)
      have hck : wr.cell? ⟨g, k, none⟩ = some (.int .i64 ((keysF N f)[k] : Int)) := by
        rw [World.cell?_of_block (a := ⟨g, k, none⟩) (hOk.block g hg1 (by simp; omega)), hcell k hlk]
        simp [iv, hlk]
      have hkn : (keysF N f)[k] < N := (mem_keysF.1 (List.getElem_mem hlk)).1
      have Hst : Hid _ := homeK_succ s f (keysF N f) k hlk
      generalize (keysF N f)[k] = q at hck hkn Hst
      have hlk' : (k : Int) < ((keysF N f).length : Int) := by omega
      have h64 : ((f q).getD zeroS).length = 64 := by
        cases hg : f q with
        | none => exact zeroS_len
        | some t => exact hf _ t hg
      have hl := sec_lookupW (w := wr.drew) (ownsMap_only hMk (Only.drew [] wr) (by simp)) q hkn hN
      have cP := put_any (hDk.kept (Only.drew [] wr) (by simp) (by simp) (by simp)) (q : Int) ((f q).getD zeroS) h64
      obtain ⟨d1, d2, d3⟩ := hWk.cells
      clear hDk hMk hWk hM1 hW1 hD1 h64 hao hcell hf
      generalize (f q).getD zeroS = t at *
      unfold secV at hl
      go_wp2_with fail
      clear hck
      refine region_tail 8 Try.mixed (by kernel_rfl) ?_
      simp only [List.take_succ_cons, List.take_zero, List.drop_succ_cons, List.drop_zero]
      iterate 7 still_step
      refine wpStill_lookup rfl 91 _ _ false rfl _ hl ?_
      refine wpStill_nil ?_
      clear hl
      go_wp2_with (first | (go_at_call 71; refine cP.mono ?_; rintro e w3 ⟨rfl, hd3, ho3⟩))
      go_roundw
      case rel => exact ⟨k + 1, by omega, by go_num, by rw [Hst.out]; exact hd3, (hOk.trans (Only.drew _ _)).trans ho3⟩
      case measure => simp [intOf]; omega
    · obtain rfl : k = (keysF N f).length := by omega
      rw [List.take_length] at hDk
      have hlt' : ¬ ((keysF N f).length : Int) < ((keysF N f).length : Int) := by omega
      obtain ⟨d1, d2, d3⟩ := hWk.cells
      have cS := sync_all hDk
      clear hM1 hMk hW1 hD1 hao hf
      go_wp2_with (first
        | (go_at_call 14; refine cS.mono ?_; rintro e w3 ⟨rfl, hd3, ho3⟩; have hW3 := hWk.kept ho3 hap; obtain ⟨e1, e2, e3⟩ := hW3.cells))
      have hO3 : Only [p, bs, bw] w w3 := ((Only.of_below hb1).trans hOk).trans ho3
      have hn3 : (homeK s f (keysF N f)).sync.2.n = s.n := by rw [sync_n, homeK_n]
      have cH := heading_any (hW3.kept (Only.drew [] w3) (by simp)) (hd3.kept (Only.drew [] w3) (by simp) (by simp) (by simp))
      rw [hn3] at cH
      have cP := put_any (hd3.kept (Only.drew [] w3) (by simp) (by simp) (by simp)) ((s.n : Int) - 25) zeroS zeroS_len
      clear hDk hWk cS hd3 ho3 hOk hb1
      refine region_tail 7 Try.mixed (by kernel_rfl) ?_
      simp only [List.take_succ_cons, List.take_zero, List.drop_succ_cons, List.drop_zero]
      iterate 5 still_step
      still_call cH
      refine wpStill_build_zero rfl 97 rfl zeroC.toArray Try.builtW ?_
      refine wpStill_nil ?_
      clear cH e1 e2 e3
      go_frame
      go_wp2_with (first
        | (go_at_call 71; refine cP.mono ?_; rintro e w4 ⟨rfl, hd4, ho4⟩; have hW4 := (hW3.kept (Only.drew [] w3) (by simp)).kept ho4 hap; obtain ⟨e1, e2, e3⟩ := hW4.cells)
        | (go_at_call 14; refine (sync_all hd4).mono ?_; rintro e w5 ⟨rfl, hd5, ho5⟩))
      go_ret
      exact ⟨rfl, hd5, ((hO3.trans (Only.drew _ _)).trans ho4).trans ho5⟩
end Go.Proofs.Ytblhmfkohbdmeaa
