/-
  Contracts: New, Crash.
-/
import Derived.Test.YtkmdjhdininimaaDevK
namespace Go.Proofs.Ytkmdjhdininimaa
open Go.RowKit Go.Maps

/-- A new device. -/
def newS (n : Nat) : DevS := { n := n, safe := fun _ => none, waits := fun _ => none, fuse := -1, age := 0 }

set_option maxHeartbeats 400000 in
theorem new_no (n : Int) (w : World) (h : n < 8 ∨ 8192 < n) :
    Calls Try.prog 9 #[.int .i64 n] w fun e w' => e = .returned (.tuple #[.pointer none, .int .i64 1]) ∧ w' = w := by
  rcases h with h | h
  · go_enter Try.func9, Try.ntmps9
    go_wp2
    go_ret2
    exact ⟨rfl, rfl⟩
  · have h' : ¬ n < 8 := by omega
    go_enter Try.func9, Try.ntmps9
    go_wp2
    go_ret2
    exact ⟨rfl, rfl⟩

set_option maxHeartbeats 400000 in
theorem new_ok (n : Nat) (w : World) (h0 : 8 ≤ n) (h1 : n ≤ 8192) :
    Calls Try.prog 9 #[.int .i64 (n : Int)] w fun e w' => e = .returned (.tuple #[.pointer (some ⟨w.heap.size + 2, 0, none⟩), .int .i64 0]) ∧ IsDev w' (w.heap.size + 2) w.heap.size (w.heap.size + 1) (newS n) ∧ Below w.heap.size w w' := by
  have hmm := @run_makeMap Try.prog
  have hfin : IsDev (((w.alloc (.map #[] 0)).alloc (.map #[] 0)).alloc (.cells (devCells (newS n) w.heap.size (w.heap.size + 1)) 60)) (w.heap.size + 2) w.heap.size (w.heap.size + 1) (newS n) := by
    have m1 := World.ownsMap_made w Try.prog 3 secR
    have m2 := World.ownsMap_made (w.alloc (.map #[] 0)) Try.prog 3 secR
    rw [World.size_alloc] at m2
    refine ⟨?_, ?_, ?_, by omega, h0, h1, by simp [newS], by simp [newS], by simp [newS], by simp [newS], full_none, full_none⟩
    · have := heap_alloc_last ((w.alloc (.map #[] 0)).alloc (.map #[] 0)) (.cells (devCells (newS n) w.heap.size (w.heap.size + 1)) 60)
      simpa using this
    · show World.ownsMap _ _ _ _ _ n (DF n (fun _ => none))
      rw [DF_none]
      exact (((m1.alloc _).alloc _).mono (Nat.zero_le _))
    · show World.ownsMap _ _ _ _ _ n (DF n (fun _ => none))
      rw [DF_none]
      exact ((m2.alloc _).mono (Nat.zero_le _))
  have h0' : ¬ (n : Int) < 8 := by omega
  have h1' : ¬ 8192 < (n : Int) := by omega
  go_enter Try.func9, Try.ntmps9
  go_wp2
  go_ret2
  exact ⟨rfl, hfin, (((Below.refl _ _).alloc (Nat.le_refl _) _).alloc (by simp) _).alloc (by simp; omega) _⟩

/-- Is the mask's byte number j odd? -/
def oddAt (m : List UInt8) (j : Nat) : Bool := match m[j]? with
  | some b => b.toNat % 2 == 1
  | none => false

/-- What is safe when the first k of those that wait are through. -/
def crF (s : DevS) (m : List UInt8) : Nat → SecF
  | 0 => s.safe
  | k + 1 => if oddAt m k then putF (crF s m k) (s.keys.getD k 0) ((s.waits (s.keys.getD k 0)).getD zeroS) else crF s m k

/-- Behind a crash. -/
def DevS.crashed (s : DevS) (m : List UInt8) : DevS := { s with safe := crF s m s.keys.length, waits := fun _ => none, fuse := -1, age := wrap64 (s.age + 1) }

theorem full_put {f : SecF} (hf : Full f) (k : Nat) {t : Sec} (ht : t.length = 64) : Full (putF f k t) := by
  intro i u h
  unfold putF at h
  split at h
  · cases h; exact ht
  · exact hf i u h

/-- What is safe of i is t. -/
theorem IsDev.saved {w w' : World} {p bs bw : Nat} {s : DevS} (h : IsDev w p bs bw s) (i : Nat) (hi : i < s.n) (t : Sec) (ht : t.length = 64) (m : Nat) (ho : w'.ownsMap Try.prog 3 secR bs m ((DF s.n s.safe).put (.int .i64 (i : Int)) (.lit (.string t)))) (hg : Only [bs] w w') :
    IsDev w' p bs bw { s with safe := putF s.safe i t } := by
  refine ⟨only_heap h.str hg (by simp [h.ps]), ?_, ownsMap_only h.waits hg (by simp [h.ne.symm]), h.ne, h.lo, h.hi, h.fz0, h.fz1, h.ag0, h.ag1, full_put h.fs i ht, h.fw⟩
  rw [put_DF t hi] at ho
  exact tight ho

theorem oddAt_in {x : ByteArray} {k : Nat} (h : k < x.size) : oddAt x.data.toList k = (x[k].toNat % 2 == 1) := by
  have hk : k < x.data.toList.length := by rw [Array.length_toList]; exact h
  have e : x.data.toList[k]? = some x[k] := by
    rw [List.getElem?_eq_getElem hk]
    rfl
  simp only [oddAt, e]

theorem oddAt_out {x : ByteArray} {k : Nat} (h : ¬ k < x.size) : oddAt x.data.toList k = false := by
  have hk : x.data.toList.length ≤ k := by rw [Array.length_toList]; exact Nat.le_of_not_lt h
  simp only [oddAt, List.getElem?_eq_none hk]

theorem full_cr {s : DevS} (hs : Full s.safe) (hw : Full s.waits) (m : List UInt8) : ∀ k, Full (crF s m k)
  | 0 => hs
  | k + 1 => by
    unfold crF
    split
    · refine full_put (full_cr hs hw m k) _ ?_
      cases hg : s.waits (s.keys.getD k 0) with
      | none => exact zeroS_len
      | some t => exact hw _ t hg
    · exact full_cr hs hw m k

theorem own_shape {w : World} {base e n : Nat} {v : Value} {L : List Value} (h : w.ownsRow base e 1 v n L) :
    ∃ ao cp, v = .slice ao n cp ∧ (0 < n → ∃ g, ao = some ⟨g, 0, none⟩ ∧ base ≤ g ∧ g < w.heap.size ∧ n ≤ cp ∧ ∀ j, j < n → w.cell? ⟨g, j, none⟩ = L[j]?) := by
  have h' := h
  rcases h.2 with ⟨rfl, rfl⟩ | ⟨g, cap, cur, rfl, hb, hg, hn, _⟩
  · exact ⟨none, 0, rfl, fun h => by omega⟩
  · exact ⟨_, cap, rfl, fun _ => ⟨g, rfl, hb, heap_lt hg, hn, fun j hj => h'.cellAt j (by omega)⟩⟩

theorem DevS.key_lt {s : DevS} {k : Nat} (hk : k < s.keys.length) : s.keys[k] < s.n := (mem_keysF.1 (List.getElem_mem hk)).1

set_option maxRecDepth 20000 in
set_option maxHeartbeats 2000000 in
theorem crash_any {w : World} {p bs bw : Nat} {s : DevS} (h : IsDev w p bs bw s) (x : ByteArray) (hx : x.size ≤ maxLen) :
    Calls Try.prog 25 #[.pointer (some ⟨p, 0, none⟩), .string x] w fun e w' => e = .returned (.int .i64 (s.keys.length : Int)) ∧ IsDev w' p bs bw (s.crashed x.data.toList) ∧ Only [p, bs, bw] w w' := by
  have cW := waiting_any h
  have hkl : s.keys.length ≤ 8192 := Nat.le_trans (keysF_le _ _) h.hi
  have hlt := h.lts
  unfold maxLen at hx
  go_enter Try.func25, Try.ntmps25
  go_wp2_with (first | (go_at_call 16; refine cW.mono ?_; rintro e w1 ⟨v, rfl, hrow, _, hb1⟩; obtain ⟨ao, cp, rfl, hao⟩ := own_shape hrow))
  have hD1 := h.below hb1
  clear cW hrow
  go_loopw [12] (fun i wr => ∃ k : Nat, k ≤ s.keys.length ∧ i = .int .i64 (k : Int) ∧ IsDev wr p bs bw { s with safe := crF s x.data.toList k } ∧ Only [bs] w1 wr)
    (fun i _ => s.keys.length - (intOf i).toNat)
  case atStart => exact ⟨0, Nat.zero_le _, rfl, hD1, Only.refl _ _⟩
  case round =>
    obtain ⟨k, hk, rfl, hDk, hOk⟩ := hrel
    have hc1 := hDk.c1
    have hc2 := hDk.c2
    by_cases hlk : k < s.keys.length
    · obtain ⟨g, rfl, hg0, hg1, hcp, hcell⟩ := hao (by omega)
      have hck : wr.cell? ⟨g, k, none⟩ = some (.int .i64 (s.keys[k] : Int)) := by
        rw [World.cell?_of_block (a := ⟨g, k, none⟩) (hOk.block g hg1 (by simp; omega)), hcell k hlk]
        simp [iv, hlk]
      have hkn := DevS.key_lt hlk
      have hgd : s.keys.getD k 0 = s.keys[k] := by simp [List.getD, hlk]
      have HG : Hid (s.keys.getD k 0 = s.keys[k]) := hgd
      clear hgd
      generalize s.keys[k] = q at hck hkn HG
      have hlk' : (k : Int) < (s.keys.length : Int) := by omega
      by_cases hm : k < x.size
      · have hm' : (k : Int) < (x.size : Int) := by omega
        by_cases hp : (x[k].toNat : Int) % 2 = 1
        · have hp' : ((x[k].toNat : Int) % 2 == 1) = true := by simpa using hp
          have hstep : crF s x.data.toList (k + 1) = putF (crF s x.data.toList k) q ((s.waits q).getD zeroS) := by
            have e1 : (x[k].toNat % 2 == 1) = true := by
              have : x[k].toNat % 2 = 1 := by omega
              simpa using this
            rw [crF, oddAt_in hm, e1, if_pos rfl, HG.out]
          have hDd : IsDev wr.drew p bs bw { s with safe := crF s x.data.toList k } := hDk.kept (Only.drew [] wr) (by simp) (by simp) (by simp)
          have hl := sec_lookup hDd.waits q hkn h.hi
          have hown := hDd.safe
          have h64 : ((s.waits q).getD zeroS).length = 64 := by
            cases hg : s.waits q with
            | none => exact zeroS_len
            | some t => exact h.fw _ t hg
          have hfin := fun W m ho hg => hDd.saved (w' := W) q hkn ((s.waits q).getD zeroS) h64 m ho hg
          have hkey := key_nat q (by have := h.hi; omega)
          have hval := secR_mk h64
          have Hstep : Hid _ := hstep
          clear hp hDd hstep hDk h64 hcell hao
          have hN := h.hi
          go_wp2_with fail
          clear hck hp'
          refine region_tail 11 Try.mixed (by kernel_rfl) ?_
          simp only [List.take_succ_cons, List.take_zero, List.drop_succ_cons, List.drop_zero]
          iterate 10 still_step
          refine wpStill_lookup rfl 58 _ _ false rfl _ hl ?_
          refine wpStill_nil ?_
          refine wpList_mapUpdate_own _ rfl _ _ _ 58 rfl 3 63 keyed Try.underlying58 _ bs s.n _ rfl hown (by unfold maxLen; omega) _ _ _ rfl rfl hkey _ _ hval ?_
          intro w2 hown2 hgrow2
          have hg2 : Only [bs] wr.drew w2 := Only.of_grown hgrow2 (by simp)
          have hD2 := hfin w2 _ hown2 hg2
          clear hfin hown2 hgrow2 hown hl hkey hval
          go_frame
          go_wp2
          go_roundw
          case rel => exact ⟨k + 1, by omega, by go_num, by rw [Hstep.out]; exact hD2, (hOk.trans (Only.drew _ _)).trans hg2⟩
          case measure => simp [intOf]; omega
        · have hp' : ((x[k].toNat : Int) % 2 == 1) = false := by simpa using hp
          have hstep : crF s x.data.toList (k + 1) = crF s x.data.toList k := by
            have e1 : (x[k].toNat % 2 == 1) = false := by
              have : ¬ x[k].toNat % 2 = 1 := by omega
              simpa using this
            rw [crF, oddAt_in hm, e1, if_neg (by simp)]
          have Hstep : Hid _ := hstep
          clear hp hstep hcell hao
          go_wp2_with fail
          go_roundw
          case rel => exact ⟨k + 1, by omega, by go_num, by rw [Hstep.out]; exact hDk, hOk⟩
          case measure => simp [intOf]; omega
      · have hm' : decide ((k : Int) < (x.size : Int)) = false := by simp; omega
        have hstep : crF s x.data.toList (k + 1) = crF s x.data.toList k := by
          rw [crF, oddAt_out hm, if_neg (by simp)]
        have Hstep : Hid _ := hstep
        clear hstep hcell hao
        go_wp2_with fail
        go_roundw
        case rel => exact ⟨k + 1, by omega, by go_num, by rw [Hstep.out]; exact hDk, hOk⟩
        case measure => simp [intOf]; omega
    · have hlk' : ¬ (k : Int) < (s.keys.length : Int) := by omega
      obtain rfl : k = s.keys.length := by omega
      have hw1 := hDk.waits
      have hO : Only [p, bs, bw] w wr := (Only.of_below (S := [p, bs, bw]) hb1).trans (hOk.mono (by simp))
      have hfin : ∀ w2, w2.ownsMap Try.prog 3 secR bw s.n (.map []) → Only [bw] wr w2 → IsDev w2 p bs bw { s with safe := crF s x.data.toList s.keys.length, waits := fun _ => none } :=
        fun w2 h2 o2 => hDk.cleared hDk.safe (Only.refl _ _) h2 o2 (full_cr h.fs h.fw _ _)
      have hfr := hDk.z
      clear hao hk
      go_wp2_with (first
        | (with_reducible refine at_bi .clear _ _ rfl ?_; refine wpList_clear_own rfl _ 58 rfl 3 63 Try.underlying58 secR bw s.n _ rfl hw1 ?_; intro w2 hm2 hg2; have ho2 : Only [bw] wr w2 := Only.of_grown hg2 (by simp); have hD2 := hfin w2 hm2 ho2; have hc3 := hD2.c3; have hc4 := hD2.c4; have hz := hD2.z; clear hfin hw1 hm2 hg2; go_frame))
      go_ret
      have hwr : -9223372036854775808 ≤ wrap64 (s.age + 1) ∧ wrap64 (s.age + 1) ≤ 9223372036854775807 := by unfold wrap64; omega
      exact ⟨rfl, (hD2.setFuse (-1) (by omega) (by omega)).setAge _ hwr.1 hwr.2, (hO.trans (ho2.mono (by simp))).trans ((Only.setCell w2 (by simp) _).trans (Only.setCell _ (by simp) _))⟩
end Go.Proofs.Ytkmdjhdininimaa
