/-
  apart.
-/
import Derived.Test.YtblhmfkohbdmeaaWrD
namespace Go.Proofs.Ytblhmfkohbdmeaa
open Go.RowKit Go.Maps

/-- A box with a write. -/
def wrO (o : WrD) : Obj := .cells #[.int .i64 o.k, .string o.x] 57

/-- One round's boxes. -/
theorem boxes {wr : World} {o : WrD} {t : Sec} :
    ((wr.alloc (wrO o)).alloc (.cells (bv t).toArray 97)).heap[wr.heap.size]? = some (wrO o) ∧ Only [] wr ((wr.alloc (wrO o)).alloc (.cells (bv t).toArray 97)) :=
  ⟨only_heap (heap_alloc_last wr _) (Only.alloc [] _ _) (by simp), (Only.alloc _ _ _).trans (Only.alloc _ _ _)⟩

theorem box_cells {W : World} {b : Nat} {o : WrD} (h : W.heap[b]? = some (wrO o)) : W.cell? ⟨b, 0, none⟩ = some (.int .i64 o.k) ∧ W.cell? ⟨b, 1, none⟩ = some (.string o.x) := ⟨cell_at h 0, cell_at h 1⟩

set_option maxRecDepth 20000 in
set_option maxHeartbeats 4000000 in
theorem apart_any {w : World} {r p bs bw : Nat} {age : Int} {lost : Bool} {s : DevS} {v : Value} {l : List WrD} {N : Nat} (hw : IsWal w r p age lost) (hd : IsDev w p bs bw s) (hv : RdWr w v l) (hl : l.length ≤ maxLen) (ho : ∀ o ∈ l, o.Ok) (hN : s.n = N + 25) :
    Calls Try.prog 53 #[.pointer (some ⟨r, 0, none⟩), v] w fun e w' => ((apartE N l ≠ 0 ∧ e = .returned (.tuple #[.map none, .int .i64 (apartE N l)])) ∨ (apartE N l = 0 ∧ e = .returned (.tuple #[.map (some w.heap.size), .int .i64 0]) ∧ w'.ownsMap Try.prog 3 secR w.heap.size N (DF N (fOf l)))) ∧ Below w.heap.size w w' := by
  obtain ⟨ao, cp, rfl, hcp, hop⟩ := hv
  unfold maxLen at hl
  have hN8 : N ≤ 8192 := by have := hd.hi; omega
  have hmm := @run_makeMap Try.prog
  go_enter Try.func53, Try.ntmps53
  go_wp2_with fail
  have hM0 : (w.alloc (.map #[] 0)).ownsMap Try.prog 3 secR w.heap.size N (DF N (fOf (l.take 0))) := by
    have e : DF N (fOf (l.take 0)) = .map [] := by simp [fOf, DF_none]
    rw [e]
    exact (World.ownsMap_made w Try.prog 3 secR).mono (Nat.zero_le _)
  have hB0 : Below w.heap.size w (w.alloc (.map #[] 0)) := (Below.refl _ _).alloc (Nat.le_refl _) _
  clear hmm
  go_loopw [14] (fun i wr => ∃ j : Nat, j ≤ l.length ∧ i = .int .i64 (j : Int) ∧ OkW N (l.take j) ∧ wr.ownsMap Try.prog 3 secR w.heap.size N (DF N (fOf (l.take j))) ∧ Below w.heap.size w wr)
    (fun i _ => l.length - (intOf i).toNat)
  case atStart => exact ⟨0, Nat.zero_le _, rfl, ⟨by simp, by simp⟩, hM0, hB0⟩
  case round =>
    obtain ⟨j, hj, rfl, hok, hM, hB⟩ := hrel
    clear hM0 hB0
    by_cases hlt : j < l.length
    · have hlt' : (j : Int) < (l.length : Int) := by omega
      have hoj := ho l[j] (List.getElem_mem hlt)
      obtain ⟨b, off, rfl, hbl, e0, e1⟩ := hop j l[j] (by simp [hlt])
      have hBc : ∀ q, wr.cell? ⟨b, q, none⟩ = w.cell? ⟨b, q, none⟩ := fun q => hB.cell (p := ⟨b, q, none⟩) hbl
      rw [← hBc] at e0 e1
      have Hts : Hid (l.take (j + 1) = l.take j ++ [l[j]]) := take_snoc l j hlt
      clear hBc hop ho
      generalize l[j] = o at *
      have hsz := hB.size
      have hwr := hw.below hB
      have hdr := hd.below hB
      have hB1 : Below w.heap.size w (wr.alloc (wrO o)) := hB.alloc hsz _
      have hM1 := ownsMap_only hM (Only.alloc [] wr (wrO o)) (by simp)
      have k0 := hoj.k0
      have k1 := hoj.k1
      have x1 := hoj.x1
      have hB2 : ∀ t : Sec, Below w.heap.size w ((wr.alloc (wrO o)).alloc (.cells (bv t).toArray 97)) := fun t => hB1.alloc (by simp; omega) _
      have cH : ∀ t : Sec, Calls Try.prog 47 #[.pointer (some ⟨r, 0, none⟩), .int .i64 o.k] ((wr.alloc (wrO o)).alloc (.cells (bv t).toArray 97)) fun e w' => e = .returned (.bool (decide (0 ≤ o.k) && decide (o.k < (N : Int)))) ∧ w' = (wr.alloc (wrO o)).alloc (.cells (bv t).toArray 97) := fun t => by
        have := whas_any (hw.below (hB2 t)) (hd.below (hB2 t)) o.k
        rw [show (s.n : Int) - 25 = (N : Int) by omega] at this
        exact this
      have hxs : (o.x.size : Int) ≤ 9223372036854775807 := by unfold maxLen at x1; omega
      unfold wrO at *
      rcases sec_look_okW hM1 o.k k0 k1 with ⟨hno, hlk⟩ | ⟨t, hk0, hkN, hft, hlk⟩
      · unfold secV at hlk
        have hsz64 : (bv zeroS).length = 64 := by rw [bv_len, zeroS_len]
        cases hhas : (decide (0 ≤ o.k) && decide (o.k < (N : Int))) with
        | false =>
          have hE : apartE N l = 1 := by
            refine if_neg (OkW.of_take (j := j + 1) ?_)
            rw [Hts.out, OkW.snoc]
            rintro ⟨_, hg, _⟩
            have := good_parts hg
            simp at hhas
            omega
          rw [hhas] at cH
          have cHz := cH zeroS
          clear hno hhas cH hM hM1 hok hwr hdr hd hw hoj
          go_wp2_with (first
            | (with_reducible refine at_alloc 97 rfl ?_; refine wpList_alloc_arr rfl 97 rfl zeroC.toArray Try.zeroW ?_)
            | (with_reducible refine at_store 97 _ _ rfl ?_; refine wpList_store_new _ rfl 97 _ _ rfl zeroC.toArray (bv zeroS).toArray rfl rfl rfl (by simpa [hsz64] using Try.sizeW) (by simp [zeroC_len, hsz64]) (bv_one zeroS) ?_)
            | (go_at_call 47; refine cHz.mono ?_; rintro e w' ⟨rfl, hw⟩; rw [hw]; clear hw w'))
          go_ret2
          exact ⟨.inl ⟨by rw [hE]; decide, by rw [hE]; rfl⟩, hB2 zeroS⟩
        | true =>
          rw [hhas] at cH
          have cHz := cH zeroS
          simp at hhas
          by_cases h64 : o.x.size = 64
          · have hsx : ((o.x.size : Int) != 64) = false := by rw [h64]; rfl
            obtain ⟨q, hq⟩ := Int.eq_ofNat_of_zero_le hhas.1
            have hqN : q < N := by omega
            have hokn : OkW N (l.take (j + 1)) := by
              rw [Hts.out, OkW.snoc]
              refine ⟨hok, by simp [WrD.good, hhas, h64], fun a ha e => ?_⟩
              have := fOf_mem hok ha
              rw [e] at this
              rcases hno with hno | hno | hno
              · omega
              · omega
              · rw [hno] at this; cases this
            have hff : DF N (fOf (l.take (j + 1))) = (DF N (fOf (l.take j))).put (.int .i64 o.k) (.lit (.string o.x.data.toList)) := by
              rw [Hts.out, fOf_snoc, hq, put_DF _ hqN]
              simp
            have hxl : o.x.data.toList.length = 64 := by rw [Array.length_toList]; exact h64
            have hst : ∀ W, W.ownsMap Try.prog 3 secR w.heap.size N (DF N (fOf (l.take j))) → ∃ w', (Instr.mapUpdate 91 (.map (some w.heap.size)) (.int .i64 o.k) (.agg (bv o.x.data.toList).toArray)).run Try.prog W = .ok () w' ∧ w'.ownsMap Try.prog 3 secR w.heap.size N (DF N (fOf (l.take (j + 1)))) ∧ Only [w.heap.size] W w' := fun W hW => by
              obtain ⟨w', h1, h2, h3⟩ := hW.store keyed Try.underlying91 (by unfold maxLen; omega) (key_int o.k k0 k1) (secR_mk hxl)
              exact ⟨w', h1, tight (hff ▸ h2), Only.of_grown h3.grown (by simp)⟩
            have cB := fun u => blockOf_any o.x h64 u
            have hbx := (boxes (wr := wr) (o := o) (t := zeroS)).1
            have hMz := ownsMap_only hM1 (Only.alloc [] _ (.cells (bv zeroS).toArray 97)) (by simp)
            have hBz := hB2 zeroS
            have hcl := heap_lt hbx
            obtain ⟨c0, c1⟩ := box_cells hbx
            have HB : Hid _ := hbx
            have hne : w.heap.size ≠ wr.heap.size := by have := hM.lt; omega
            have Hne : Hid (w.heap.size ≠ wr.heap.size) := hne
            clear hno hhas cH hM hM1 hok hwr hdr hd hw hoj hff hB2 hB1 hbx h64 hxl hq hqN hne
            generalize o.x.data.toList = xs at *
            go_wp2_with (first
              | (with_reducible refine at_alloc 97 rfl ?_; refine wpList_alloc_arr rfl 97 rfl zeroC.toArray Try.zeroW ?_)
              | (with_reducible refine at_store 97 _ _ rfl ?_; refine wpList_store_new _ rfl 97 _ _ rfl zeroC.toArray (bv zeroS).toArray rfl rfl rfl (by simpa [hsz64] using Try.sizeW) (by simp [zeroC_len, hsz64]) (bv_one zeroS) ?_)
              | (go_at_call 47; refine cHz.mono ?_; rintro e w' ⟨rfl, hw⟩; rw [hw]; clear hw w'))
            clear hlk cHz e0 e1
            unfold wrO at *
            generalize ((wr.alloc (.cells #[.int .i64 o.k, .string o.x] 57)).alloc (.cells (bv zeroS).toArray 97)) = W2 at *
            go_region_held3 (fun W => W.cell? ⟨wr.heap.size, 0, none⟩ = some (.int .i64 o.k) ∧ W.cell? ⟨wr.heap.size, 1, none⟩ = some (.string o.x)) (first | assumption | go_keep)
              (first
                | (go_at_call 69; refine (cB _).mono ?_; rintro e w4 ⟨rfl, hb4⟩; have hbx4 := (hb4.block wr.heap.size hcl).trans HB.out; have hc4 := box_cells hbx4; have hM4 := ownsMap_only hMz (((Only.drew [] W2)).trans (Only.of_below hb4)) (by simp); obtain ⟨w5, hrun5, hM5, ho5⟩ := hst _ hM4; have hbx5 := only_heap hbx4 ho5 (by simpa using Hne.out.symm); have hc5 := box_cells hbx5))
            have hB5 : Below w.heap.size w w5 := (hBz.drew.trans (hb4.mono (by show w.heap.size ≤ W2.heap.size; exact hBz.size))).trans (ho5.below (by have := hBz.size; have := hb4.size; have e : W2.drew.heap.size = W2.heap.size := rfl; omega) (by simp))
            clear hc4 hc5 hbx5 hbx4 hM4 hrun5 ho5 hb4 hst cB hMz hBz
            go_wp2_with fail
            go_roundw
            case rel => exact ⟨j + 1, by omega, by go_num, hokn, hM5, hB5⟩
            case measure => simp [intOf]; omega
          · have hsx : ((o.x.size : Int) != 64) = true := by
              rw [bne_iff_ne]
              omega
            have hE : apartE N l = 1 := by
              refine if_neg (OkW.of_take (j := j + 1) ?_)
              rw [Hts.out, OkW.snoc]
              rintro ⟨_, hg, _⟩
              exact h64 (good_parts hg).2.2
            clear hno hhas cH hM hM1 hok hwr hdr hd hw hoj h64
            go_wp2_with (first
              | (with_reducible refine at_alloc 97 rfl ?_; refine wpList_alloc_arr rfl 97 rfl zeroC.toArray Try.zeroW ?_)
              | (with_reducible refine at_store 97 _ _ rfl ?_; refine wpList_store_new _ rfl 97 _ _ rfl zeroC.toArray (bv zeroS).toArray rfl rfl rfl (by simpa [hsz64] using Try.sizeW) (by simp [zeroC_len, hsz64]) (bv_one zeroS) ?_)
              | (go_at_call 47; refine cHz.mono ?_; rintro e w' ⟨rfl, hw⟩; rw [hw]; clear hw w'))
            go_ret2
            exact ⟨.inl ⟨by rw [hE]; decide, by rw [hE]; rfl⟩, hB2 zeroS⟩
      · unfold secV at hlk
        have hE : apartE N l = 1 := by
          refine if_neg (OkW.of_take (j := j + 1) ?_)
          rw [Hts.out, OkW.snoc]
          rintro ⟨h1, _, h3⟩
          obtain ⟨a, ha, e, _⟩ := fOf_some hft
          have g := good_parts (h1.1 a ha)
          have := h3 a ha
          omega
        have h64 : t.length = 64 := fOf_full hok _ _ hft
        have hsz64 : (bv t).length = 64 := by rw [bv_len, h64]
        clear cH hM hM1 hok hwr hdr hd hw hoj hft h64
        go_wp2_with (first
          | (with_reducible refine at_alloc 97 rfl ?_; refine wpList_alloc_arr rfl 97 rfl zeroC.toArray Try.zeroW ?_)
          | (with_reducible refine at_store 97 _ _ rfl ?_; refine wpList_store_new _ rfl 97 _ _ rfl zeroC.toArray (bv t).toArray rfl rfl rfl (by simpa [hsz64] using Try.sizeW) (by simp [zeroC_len, hsz64]) (bv_one t) ?_))
        go_ret2
        exact ⟨.inl ⟨by rw [hE]; decide, by rw [hE]; rfl⟩, hB2 t⟩
    · obtain rfl : j = l.length := by omega
      have hlt' : ¬ (l.length : Int) < (l.length : Int) := by omega
      rw [List.take_length] at hok hM
      have hsk : Maps.size (DF N (fOf l)) = l.length := by rw [size_keys, keys_len hok]
      by_cases h24 : 24 < l.length
      · have hE : Hid (apartE N l = 4) := by show apartE N l = 4; unfold apartE; rw [if_pos hok, if_pos h24]
        have h24' : (24 : Int) < (l.length : Int) := by omega
        clear hok hop ho hd hw
        go_wp2_with (first
          | (at_len; refine wpList_len_own _ rfl _ 91 rfl 3 97 Try.underlying91 secR w.heap.size N (DF N (fOf l)) rfl hM ?_; rw [hsk]; go_frame))
        go_ret2
        exact ⟨.inl ⟨by rw [hE.out]; decide, by rw [hE.out]; rfl⟩, hB⟩
      · have hE : Hid (apartE N l = 0) := by show apartE N l = 0; unfold apartE; rw [if_pos hok, if_neg h24]
        have h24' : ¬ (24 : Int) < (l.length : Int) := by omega
        clear hok hop ho hd hw
        go_wp2_with (first
          | (at_len; refine wpList_len_own _ rfl _ 91 rfl 3 97 Try.underlying91 secR w.heap.size N (DF N (fOf l)) rfl hM ?_; rw [hsk]; go_frame))
        go_ret2
        exact ⟨.inr ⟨hE.out, rfl, hM⟩, hB⟩
end Go.Proofs.Ytblhmfkohbdmeaa
