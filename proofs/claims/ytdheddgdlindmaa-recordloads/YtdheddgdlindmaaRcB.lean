/-
  record's sheet: numbers, texts, deltas are written; a pair is done.
-/
import Derived.Test.YtdheddgdlindmaaRcA
import Derived.Deep.AppendLies
namespace Go.Proofs.Ytdheddgdlindmaa
open Go.WideShapes Go.RowKit Go.ChangeShapes Go.ChangeAt Go.PlainAid

/-- Numbers at a value. -/
def RdI (W : World) (v : Value) (l : List Int) : Prop :=
  ∃ ao cp, v = .slice ao l.length cp ∧ ∀ (i : Nat) (o : Int), l[i]? = some o → ∃ b off, ao = some ⟨b, off, none⟩ ∧ b < W.heap.size ∧ W.cell? ⟨b, off + i, none⟩ = some (.int .i64 o)
theorem RdI.below {W W' : World} {v : Value} {l : List Int} (h : RdI W v l) (hb : Below W.heap.size W W') : RdI W' v l := by
  obtain ⟨ao, cp, h1, h2⟩ := h
  refine ⟨ao, cp, h1, fun i o ho => ?_⟩
  obtain ⟨b, off, e1, e2, e3⟩ := h2 i o ho
  exact ⟨b, off, e1, Nat.lt_of_lt_of_le e2 hb.size, (hb.cell (p := ⟨b, off + i, none⟩) e2).trans e3⟩
theorem RdI.nil (W : World) : RdI W (.slice none 0 0) [] := ⟨none, 0, rfl, fun i o h => by simp at h⟩
theorem rdi_len {W : World} {v : Value} {l : List Int} (h : RdI W v l) : ∃ ao cp, v = .slice ao l.length cp := by
  obtain ⟨ao, cp, e, -⟩ := h
  exact ⟨ao, cp, e⟩
/-- A row in a block of its own. -/
theorem rdi_lit {W : World} {g : Nat} {l : List Int} (h : W.heap[g]? = some (.cells (l.map (Value.int .i64)).toArray 3)) : RdI W (.slice (some ⟨g, 0, none⟩) l.length l.length) l := by
  refine ⟨_, _, rfl, fun i o hi => ⟨g, 0, rfl, heap_lt h, ?_⟩⟩
  rw [Nat.zero_add]
  exact (cell_of_row W g i _ _ (0, 0) h).trans (by simp [hi])
/-- Texts at a value. -/
def RdX (W : World) (v : Value) (l : List ByteArray) : Prop :=
  ∃ ao cp, v = .slice ao l.length cp ∧ ∀ (i : Nat) (o : ByteArray), l[i]? = some o → ∃ b off, ao = some ⟨b, off, none⟩ ∧ b < W.heap.size ∧ W.cell? ⟨b, off + i, none⟩ = some (.string o)
theorem rdx_lit {W : World} {g : Nat} {l : List ByteArray} (h : W.heap[g]? = some (.cells (l.map Value.string).toArray 9)) : RdX W (.slice (some ⟨g, 0, none⟩) l.length l.length) l := by
  refine ⟨_, _, rfl, fun i o hi => ⟨g, 0, rfl, heap_lt h, ?_⟩⟩
  rw [Nat.zero_add]
  exact (cell_of_row W g i _ _ (0, 0) h).trans (by simp [hi])
/-- Texts' forms. -/
def txsR (ts : List ByteArray) : List UInt8 := (ts.map fun s => (pk.textR s).1.data.toList).flatten
theorem txsR_take (ts : List ByteArray) (k : Nat) (h : k < ts.length) : txsR (ts.take (k + 1)) = txsR (ts.take k) ++ (pk.textR ts[k]).1.data.toList := by
  rw [List.take_succ_eq_append_getElem h, txsR, List.map_append, List.flatten_append]; simp [txsR]
theorem textR_lenR (s : ByteArray) : (pk.textR s).1.size ≤ 20020 := by
  unfold pk.textR
  split
  · rename_i h
    have := pk.textB_len s
    rw [mk_size]
    omega
  · show ByteArray.size ⟨#[]⟩ ≤ _; decide
theorem txsR_len : ∀ ts : List ByteArray, (txsR ts).length ≤ 20020 * ts.length
  | [] => by simp [txsR]
  | s :: ts => by
    have h1 := textR_lenR s
    have h2 := txsR_len ts
    have h3 := data_len (pk.textR s).1
    simp only [txsR, List.map_cons, List.flatten_cons, List.length_append, List.length_cons] at h2 ⊢
    omega

set_option maxRecDepth 20000 in
set_option maxHeartbeats 1500000 in
theorem numsS_any (B b : Nat) (cur : List UInt8) (D : List PaD) (v : Value) (l : List Int) (w : World) (h : IsSh B b cur D w) (hr : ∀ W', K3 w W' → Below B w W' → RdI W' v l) (hl : l.length ≤ 1000000) (hb : ∀ n ∈ l, 0 ≤ n ∧ n ≤ 1125899906842624) (hc : cur.length ≤ 70368744177664) :
    Calls Try.prog 47 #[.pointer (some ⟨b, 0, none⟩), v] w fun e w' => e = .returned (.tuple #[]) ∧ IsSh B b (cur ++ nmB (l.map Int.toNat)) D w' ∧ Below B w w' ∧ K3 w w' := by
  obtain ⟨ao, cp, rfl⟩ := rdi_len (hr w (K3.refl w) (Below.refl _ _))
  have hBw := h.lt
  go_enter Try.func47, Try.ntmps47
  go_wp2_with fail
  go_loopw [10] (fun i wr => ∃ k : Nat, k ≤ l.length ∧ i = .int .i64 (k : Int) ∧ IsSh B b (cur ++ nmB ((l.take k).map Int.toNat)) D wr ∧ Below B w wr ∧ K3 w wr) (fun i _ => l.length - (Go.RowKit.intOf i).toNat)
  case atStart => exact ⟨0, by omega, rfl, by simpa [nmB] using h, Below.refl _ _, K3.refl _⟩
  case round =>
    obtain ⟨k, hk, rfl, hI, hbl, hkk⟩ := hrel
    by_cases hlt : k < l.length
    · have hlt' : (k : Int) < (l.length : Int) := by omega
      obtain ⟨ao', cp', ev, hcs⟩ := hr wr hkk hbl
      simp only [Value.slice.injEq] at ev
      obtain ⟨rfl, -, rfl⟩ := ev
      obtain ⟨g, off, rfl, -, c0⟩ := hcs k l[k] (by simp [hlt])
      obtain ⟨hn0, hn1⟩ := hb l[k] (List.getElem_mem hlt)
      have Htk : Hid (cur ++ nmB ((l.take k).map Int.toNat) ++ (mk (numB l[k].toNat)).data.toList = cur ++ nmB ((l.take (k + 1)).map Int.toNat)) := by
        show _ = _
        rw [List.append_assoc, List.take_succ_eq_append_getElem hlt, List.map_append]
        simp [nmB, mk]
      have hlen : (cur ++ nmB ((l.take k).map Int.toNat)).length ≤ 70368754177664 := by
        have := nmB_len ((l.take k).map Int.toNat)
        rw [List.length_append]
        rw [List.length_map, List.length_take] at this
        omega
      have hns := numB_len (n := l[k].toNat)
      have cN := pk.num_ok l[k].toNat wr (by omega)
      rw [Int.toNat_of_nonneg hn0] at cN
      have hsz : (mk (numB l[k].toNat)).size ≤ 10 := by rw [mk_size]; exact hns
      generalize mk (numB l[k].toNat) = form at *
      generalize cur ++ nmB ((l.take k).map Int.toNat) = cc at *
      generalize l[k] = n at *
      clear hcs hr hns
      go_wp2_with fail
      refine cN.mono ?_
      rintro e w4 ⟨rfl, hb4⟩
      have hI4 := hI.below hb4
      have hs4 := hb4.size
      have hs0 := hbl.size
      have cW := writeStringS_any B b cc D form w4 hI4 (by omega) (by have := hI.lt; omega)
      have hB4 := hbl.trans (hb4.mono (by have := hI.lt; omega))
      have hK4 := hkk.trans (k3_below hb4)
      clear cN c0 hI hI4
      go_wp2_with fail
      refine cW.mono ?_
      rintro e w5 ⟨rfl, hI5, hb5, hk5⟩
      rw [Htk.out] at hI5
      go_wp2_with fail
      exact ⟨⟨k + 1, by omega, by go_num, hI5, hB4.trans hb5, hK4.trans hk5⟩, by simp [Go.RowKit.intOf]; omega⟩
    · have hlt' : ¬ (k : Int) < (l.length : Int) := by omega
      rw [List.take_of_length_le (by omega)] at hI
      go_wp2_with fail
      go_end0
      exact ⟨rfl, hI, hbl, hkk⟩
set_option maxRecDepth 20000 in
set_option maxHeartbeats 1500000 in
theorem textsS_any (B b : Nat) (cur : List UInt8) (D : List PaD) (v : Value) (l : List ByteArray) (w : World) (h : IsSh B b cur D w) (hr : ∀ W', K3 w W' → Below B w W' → RdX W' v l) (hl : l.length ≤ 1000000) (hb : ∀ s ∈ l, s.size ≤ maxLen) (hc : cur.length ≤ 70368744177664) :
    Calls Try.prog 48 #[.pointer (some ⟨b, 0, none⟩), v] w fun e w' => e = .returned (.tuple #[]) ∧ IsSh B b (cur ++ txsR l) D w' ∧ Below B w w' ∧ K3 w w' := by
  obtain ⟨ao, cp, ev0, -⟩ := hr w (K3.refl w) (Below.refl _ _)
  subst ev0
  have hBw := h.lt
  go_enter Try.func48, Try.ntmps48
  go_wp2_with fail
  go_loopw [10] (fun i wr => ∃ k : Nat, k ≤ l.length ∧ i = .int .i64 (k : Int) ∧ IsSh B b (cur ++ txsR (l.take k)) D wr ∧ Below B w wr ∧ K3 w wr) (fun i _ => l.length - (Go.RowKit.intOf i).toNat)
  case atStart => exact ⟨0, by omega, rfl, by simpa [txsR] using h, Below.refl _ _, K3.refl _⟩
  case round =>
    obtain ⟨k, hk, rfl, hI, hbl, hkk⟩ := hrel
    by_cases hlt : k < l.length
    · have hlt' : (k : Int) < (l.length : Int) := by omega
      obtain ⟨ao', cp', ev, hcs⟩ := hr wr hkk hbl
      simp only [Value.slice.injEq] at ev
      obtain ⟨rfl, -, rfl⟩ := ev
      obtain ⟨g, off, rfl, -, c0⟩ := hcs k l[k] (by simp [hlt])
      have Htk : Hid (cur ++ txsR (l.take k) ++ (pk.textR l[k]).1.data.toList = cur ++ txsR (l.take (k + 1))) := by
        show _ = _
        rw [List.append_assoc, txsR_take _ _ hlt]
      have hlen : (cur ++ txsR (l.take k)).length ≤ 70388764177664 := by
        have := txsR_len (l.take k)
        rw [List.length_append]
        rw [List.length_take] at this
        omega
      have cN := pk.text_any l[k] wr (hb _ (List.getElem_mem hlt))
      have hsz := textR_lenR l[k]
      generalize pk.textR l[k] = form at *
      generalize cur ++ txsR (l.take k) = cc at *
      generalize l[k] = n at *
      clear hcs hr
      go_wp2_with fail
      refine cN.mono ?_
      rintro e w4 ⟨rfl, hb4⟩
      have hI4 := hI.below hb4
      have hs4 := hb4.size
      have hs0 := hbl.size
      have cW := writeStringS_any B b cc D form.1 w4 hI4 (by omega) (by have := hI.lt; omega)
      have hB4 := hbl.trans (hb4.mono (by have := hI.lt; omega))
      have hK4 := hkk.trans (k3_below hb4)
      clear cN c0 hI hI4
      go_wp2_with fail
      refine cW.mono ?_
      rintro e w5 ⟨rfl, hI5, hb5, hk5⟩
      rw [Htk.out] at hI5
      go_wp2_with fail
      exact ⟨⟨k + 1, by omega, by go_num, hI5, hB4.trans hb5, hK4.trans hk5⟩, by simp [Go.RowKit.intOf]; omega⟩
    · have hlt' : ¬ (k : Int) < (l.length : Int) := by omega
      rw [List.take_of_length_le (by omega)] at hI
      go_wp2_with fail
      go_end0
      exact ⟨rfl, hI, hbl, hkk⟩
end Go.Proofs.Ytdheddgdlindmaa
