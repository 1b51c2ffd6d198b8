/-
  record's sheet: counted numbers, deltas; a pair is done.
-/
import Derived.Test.YtdheddgdlindmaaRcB
import Derived.Deep.AppendLies
namespace Go.Proofs.Ytdheddgdlindmaa
open Go.WideShapes Go.RowKit Go.ChangeShapes Go.ChangeAt Go.PlainAid

theorem alloc_bR (w : World) (o : Obj) : Below w.heap.size w (w.alloc o) := (Below.refl _ w).alloc (Nat.le_refl _) _
theorem nmB_app (a b : List Nat) : nmB (a ++ b) = nmB a ++ nmB b := by simp [nmB]
theorem k3_vint {w W' : World} {l : List Int} (hk : K3 (w.alloc (.cells (l.map (Value.int .i64)).toArray 3)) W') : RdI W' (.slice (some ⟨w.heap.size, 0, none⟩) l.length l.length) l :=
  rdi_lit (hk.blk _ _ _ (heap_alloc_new w _) (by decide) (by decide) (by decide))
theorem k3_vstr {w W' : World} {l : List ByteArray} (hk : K3 (w.alloc (.cells (l.map Value.string).toArray 9)) W') : RdX W' (.slice (some ⟨w.heap.size, 0, none⟩) l.length l.length) l :=
  rdx_lit (hk.blk _ _ _ (heap_alloc_new w _) (by decide) (by decide) (by decide))
set_option maxRecDepth 20000 in
set_option maxHeartbeats 1000000 in
theorem countedS_any (B b : Nat) (cur : List UInt8) (D : List PaD) (v : Value) (l : List Int) (w : World) (h : IsSh B b cur D w) (hr : ∀ W', K3 w W' → Below B w W' → RdI W' v l) (hl : l.length ≤ 1000000) (hb : ∀ n ∈ l, 0 ≤ n ∧ n ≤ 1125899906842624) (hc : cur.length ≤ 70368744100000) :
    Calls Try.prog 49 #[.pointer (some ⟨b, 0, none⟩), v] w fun e w' => e = .returned (.tuple #[]) ∧ IsSh B b (cur ++ nmB (l.length :: l.map Int.toNat)) D w' ∧ Below B w w' ∧ K3 w w' := by
  obtain ⟨ao, cp, rfl⟩ := rdi_len (hr w (K3.refl w) (Below.refl _ _))
  have hBw := h.lt
  have hal := alloc_bR w (.cells #[.int .i64 (l.length : Int)] 3)
  have c1 := numsS_any B b cur D (.slice (some ⟨w.heap.size, 0, none⟩) 1 1) [(l.length : Int)] (w.alloc (.cells #[.int .i64 (l.length : Int)] 3)) (h.below hal) (fun W' hk _ => k3_vint (l := [(l.length : Int)]) hk) (by simp) (by simp; omega) (by omega)
  have hB1 : Below B w (w.alloc (.cells #[.int .i64 (l.length : Int)] 3)) := hal.mono (by omega)
  have hK1 := k3_below hal
  have hln : (nmB [l.length]).length ≤ 10 := nmB_len [l.length]
  have HE : Hid (cur ++ nmB [l.length] ++ nmB (l.map Int.toNat) = cur ++ nmB (l.length :: l.map Int.toNat)) := by
    show _ = _
    rw [List.append_assoc, ← nmB_app]
    rfl
  simp only [List.map_cons, List.map_nil, Int.toNat_natCast] at c1
  go_enter Try.func49, Try.ntmps49
  go_wp2_with fail
  refine c1.mono ?_
  rintro e w2 ⟨rfl, hI2, hb2, hk2⟩
  have hB2 := hB1.trans hb2
  have hK2 := hK1.trans hk2
  have c2 := numsS_any B b (cur ++ nmB [l.length]) D (.slice ao l.length cp) l w2 hI2 (fun W' hk hbl => hr W' (hK2.trans hk) (hB2.trans hbl)) hl hb (by rw [List.length_append]; omega)
  rw [HE.out] at c2
  clear c1 hr
  go_wp2_with fail
  refine c2.mono ?_
  rintro e w3 ⟨rfl, hI3, hb3, hk3⟩
  go_wp2_with fail
  go_end0
  exact ⟨rfl, hI3, hB2.trans hb3, hK2.trans hk3⟩
/-- Deltas at a value. -/
def RdDs (W : World) (v : Value) (l : List (List OpD)) : Prop :=
  ∃ ao cp, v = .slice ao l.length cp ∧ ∀ (i : Nat) (d : List OpD), l[i]? = some d → ∃ b off u, ao = some ⟨b, off, none⟩ ∧ b < W.heap.size ∧ W.cell? ⟨b, off + i, none⟩ = some u ∧ RdD W u d
def dfsR (l : List (List OpD)) : List ByteArray := l.map fun d => (encR d).1
set_option maxRecDepth 20000 in
set_option maxHeartbeats 1500000 in
theorem deltasS_any (B b : Nat) (cur : List UInt8) (D : List PaD) (v : Value) (l : List (List OpD)) (w : World) (h : IsSh B b cur D w) (hr : ∀ W', K3 w W' → Below B w W' → RdDs W' v l) (hl : l.length ≤ 1000) (hb : ∀ d ∈ l, d.length ≤ maxLen ∧ ∀ o ∈ d, o.In) (hc : cur.length ≤ 70368700000000) :
    Calls Try.prog 51 #[.pointer (some ⟨b, 0, none⟩), v] w fun e w' => e = .returned (.tuple #[]) ∧ IsSh B b (cur ++ txsR (dfsR l)) D w' ∧ Below B w w' ∧ K3 w w' := by
  obtain ⟨ao, cp, ev0, -⟩ := hr w (K3.refl w) (Below.refl _ _)
  subst ev0
  have hBw := h.lt
  go_enter Try.func51, Try.ntmps51
  go_wp2_with fail
  go_loopw [10] (fun i wr => ∃ k : Nat, k ≤ l.length ∧ i = .int .i64 (k : Int) ∧ IsSh B b (cur ++ txsR (dfsR (l.take k))) D wr ∧ Below B w wr ∧ K3 w wr) (fun i _ => l.length - (Go.RowKit.intOf i).toNat)
  case atStart => exact ⟨0, by omega, rfl, by simpa [txsR, dfsR] using h, Below.refl _ _, K3.refl _⟩
  case round =>
    obtain ⟨k, hk, rfl, hI, hbl, hkk⟩ := hrel
    by_cases hlt : k < l.length
    · have hlt' : (k : Int) < (l.length : Int) := by omega
      obtain ⟨ao', cp', ev, hcs⟩ := hr wr hkk hbl
      simp only [Value.slice.injEq] at ev
      obtain ⟨rfl, -, rfl⟩ := ev
      obtain ⟨g, off, u, rfl, -, c0, hd⟩ := hcs k l[k] (by simp [hlt])
      obtain ⟨hd1, hd2⟩ := hb l[k] (List.getElem_mem hlt)
      have Htk : Hid (cur ++ txsR (dfsR (l.take k)) ++ txsR [(encR l[k]).1] = cur ++ txsR (dfsR (l.take (k + 1)))) := by
        show _ = _
        rw [List.append_assoc, List.take_succ_eq_append_getElem hlt]
        unfold dfsR txsR
        rw [List.map_append, List.map_append, List.flatten_append]
        rfl
      have hlen : (cur ++ txsR (dfsR (l.take k))).length ≤ 70368720020000 := by
        have := txsR_len (dfsR (l.take k))
        rw [List.length_append]
        unfold dfsR at this ⊢
        rw [List.length_map, List.length_take] at this
        omega
      have cN := encode_any u l[k] wr hd hd1 hd2
      have hes : (encR l[k]).1.size ≤ maxLen := by
        have := encB_small hd2
        rw [encR]
        split
        · rw [mk_size]; unfold maxLen; omega
        · show ByteArray.size ⟨#[]⟩ ≤ _; decide
      obtain ⟨au, ku, eu, -⟩ := id hd
      subst eu
      generalize encR l[k] = form at *
      generalize cur ++ txsR (dfsR (l.take k)) = cc at *
      generalize l[k] = n at *
      clear hcs hr hd
      go_wp2_with fail
      refine cN.mono ?_
      rintro e w4 ⟨rfl, hb4⟩
      have hI4 := hI.below hb4
      have hs4 := hb4.size
      have hs0 := hbl.size
      have hal := alloc_bR w4 (.cells #[.string form.1] 9)
      have cW := textsS_any B b cc D (.slice (some ⟨w4.heap.size, 0, none⟩) 1 1) [form.1] (w4.alloc (.cells #[.string form.1] 9)) (hI4.below hal) (fun W' hk _ => k3_vstr (l := [form.1]) hk) (by simp) (by simpa using hes) (by omega)
      have hB4 := (hbl.trans (hb4.mono (by have := hI.lt; omega))).trans (hal.mono (by have := hI.lt; omega))
      have hK4 := (hkk.trans (k3_below hb4)).trans (k3_below hal)
      clear cN c0 hI hI4
      go_wp2_with fail
      refine cW.mono ?_
      rintro e w5 ⟨rfl, hI5, hb5, hk5⟩
      rw [Htk.out] at hI5
      go_wp2_with fail
      exact ⟨⟨k + 1, by omega, by go_num, hI5, hB4.trans hb5, hK4.trans hk5⟩, by simp [Go.RowKit.intOf]; omega⟩
    · have hlt' : ¬ (k : Int) < (l.length : Int) := by omega
      rw [List.take_of_length_le (by omega)] at hI
      go_wp2_with fail
      go_end0
      exact ⟨rfl, hI, hbl, hkk⟩
theorem Try.infoPa : (Try.prog.info? 44).map (fun i => (i.zero, i.size, i.bytes)) = some (some (.agg #[.string ⟨#[]⟩, .string ⟨#[]⟩]), 2, 32) := by kernel_rfl
theorem two_str (a c : ByteArray) : ∀ u ∈ [Value.string a, .string c], u.oneCell' = true := by
  intro u hu
  simp at hu
  rcases hu with rfl | rfl <;> rfl
/-- A key's bytes. -/
theorem key_conv {W : World} {g : Nat} {key : List UInt8} (h : W.heap[g]? = some (.cells (bv key).toArray 5)) : (convert 52 9 (.slice (some ⟨g, 0, none⟩) key.length key.length)).run Try.prog W = .ok (.string (mk key)) W :=
  run_convert_bytes_back W 52 9 5 ⟨g, 0, none⟩ key.length key Try.underlying52 Try.underlying5 Try.underlying9 (fun j hj => by
    have hadd : (⟨g, 0, none⟩ : Addr).add j = ⟨g, j, none⟩ := by unfold Addr.add; split <;> simp_all
    rw [hadd]
    exact (cell_of_row W g j _ _ (0, 0) h).trans (by simp [bv, hj]))
set_option maxRecDepth 20000 in
set_option maxHeartbeats 2000000 in
theorem endS_any (B b : Nat) (cur key : List UInt8) (D : List PaD) (w : World) (h : IsSh B b cur D w) (h0 : cur ≠ []) (hD : D.length ≤ 1000000) :
    Calls Try.prog 50 #[.pointer (some ⟨b, 0, none⟩), .slice (some ⟨w.heap.size, 0, none⟩) key.length key.length] (w.alloc (.cells (bv key).toArray 5)) fun e w' => e = .returned (.tuple #[]) ∧ IsSh B b [] (D ++ [⟨mk key, mk cur⟩]) w' ∧ Below B w w' ∧ K3 w w' := by
  obtain ⟨i0, hin, hz0, hz1, hz2⟩ := info_parts Try.infoPa
  have hBw := h.lt
  obtain ⟨p, bv0, dv, hk, hown, hdn⟩ : ∃ p bv0 dv, w.heap[b]? = some (.cells #[p, bv0, dv] 56) ∧ w.ownsRow B 5 1 bv0 cur.length (Lib.byteCells cur) ∧ w.ownsRow B 44 2 dv D.length (pcs D) := by
    rcases h with ⟨-, x, y, z⟩ | ⟨-, x, y, z⟩ <;> exact ⟨_, x, y, z⟩
  have hne : some w.heap.size ≠ bv0.ownBlock := fun e => by
    have := (hown.lt _ e.symm).2
    omega
  have hal := alloc_bR w (.cells (bv key).toArray 5)
  have hkey := heap_alloc_new w (.cells (bv key).toArray 5)
  generalize hwa : w.alloc (.cells (bv key).toArray 5) = wa at *
  have hkA : wa.drew.heap[b]? = some (.cells #[p, bv0, dv] 56) := (hal.block b (heap_lt hk)).trans hk
  have hownA : wa.drew.ownsRow B 5 1 bv0 cur.length (Lib.byteCells cur) := own_belowG hown (Below.drew hal)
  have hdnA : wa.drew.ownsRow B 44 2 dv D.length (pcs D) := own_belowG hdn (Below.drew hal)
  have hkeyA : wa.drew.heap[w.heap.size]? = some (.cells (bv key).toArray 5) := hkey
  have hsA : w.heap.size ≤ wa.drew.heap.size := hal.size
  have cS := stringS_any B b p bv0 dv cur wa.drew hkA hownA h0
  have hc1 := key_conv hkeyA
  have hBA : Below B w wa.drew := (hal.mono (by omega)).drew
  have hKA : K3 w wa.drew := k3_below hal.drew
  obtain ⟨ad, kd, rfl⟩ := own_form hdnA
  obtain ⟨x0, x1, x2⟩ := cells3S hkA
  clear hwa hal hkey
  go_enter Try.func50, Try.ntmps50
  go_wp2_with fail
  go_region_law (first
    | (go_simp; go_at_call 73; refine cS.mono ?_; rintro e w8 ⟨rfl, hg8⟩; have hk8 : w8.heap[b]? = some (.cells #[p, bv0, .slice ad D.length kd] 56) := (hg8.block b (heap_lt hkA) (box_apart hownA hkA (by decide))).trans hkA; have hd8 := hdnA.kept hg8 (own_apart hdnA hownA (by decide)); have hkey8 := (hg8.block w.heap.size (heap_lt hkeyA) hne).trans hkeyA; have hc2 := key_conv hkey8; obtain ⟨y0, y1, y2⟩ := cells3S hk8; have hal8 := alloc_bR w8 (.cells #[.string (mk key), .string (mk cur)] 44); have hk9 := (hal8.block b (heap_lt hk8)).trans hk8; obtain ⟨z0, z1, z2⟩ := cells3S hk9; have hd9 := own_belowG hd8 hal8; have hB9 := (hBA.grown hg8 (by omega) (fun j hj => (hownA.lt j hj).1)).trans (hal8.mono (by have := hg8.size; omega)); have hK9 := (hKA.trans (k3_own hownA hg8 (.inl rfl))).trans (k3_below hal8))
    | (refine step_append_lies _ (by rfl) (.tmp 8) (.tmp 16) 28 (by rfl) B 44 i0 (.agg #[.string ⟨#[]⟩, .string ⟨#[]⟩]) 2 32 Try.underlying28 hin hz0 hz1 hz2 rfl (by decide) _ D.length _ (by rfl) hd9 ⟨_, 0, none⟩ 1 1 [.string (mk key), .string (mk cur)] (by rfl) rfl (many_new _ _ _) (two_str _ _) (by decide) (by unfold maxLen; omega) (by omega) (by have := hg8.size; rw [World.size_alloc]; omega) _ rfl ?_; intro g10 cap10 w10 ho10 hg10 hgg hgl; have hk10 := (hg10.block b (heap_lt hk9) (box_apart hd9 hk9 (by decide))).trans hk9; obtain ⟨p0, p1, p2⟩ := cells3S hk10; have p6 := frz hk10 2; have hB10 := hB9.grown hg10 (by have := hg8.size; rw [World.size_alloc]; omega) (fun j hj => (hd9.lt j hj).1); have hK10 := hK9.trans (k3_own hd9 hg10 (.inr rfl))))
  all_goals
    have hk11 := heap_setCell hk10 2 (.slice (some ⟨g10, 0, none⟩) (D.length + 1) cap10)
    have ho11 := own_set ho10 hk10 (by decide) (j := 2) (x := .slice (some ⟨g10, 0, none⟩) (D.length + 1) cap10)
    have cR := resetS_any B b p bv0 (.slice (some ⟨g10, 0, none⟩) (D.length + 1) cap10) (D ++ [⟨mk key, mk cur⟩]) _ (by omega) hk11 (by rw [List.length_append, pcs_app]; exact ho11)
    go_wp2_with fail
    refine cR.mono ?_
    rintro e w12 ⟨rfl, hI12, hb12, hk12⟩
    go_wp2_with fail
    go_end0
    exact ⟨rfl, hI12, (hB10.setCell (p := ⟨b, 2, none⟩) (by simp only; omega) _).trans hb12, (hK10.trans (k3_set hk10)).trans hk12⟩
end Go.Proofs.Ytdheddgdlindmaa
