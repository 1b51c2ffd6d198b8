/-
  log.
-/
import Derived.Test.YtblhmfkohbdmeaaWalH
import Derived.Deep.RegionHeld3
namespace Go.Proofs.Ytblhmfkohbdmeaa
open Go.RowKit Go.Maps

/-- What waits behind the writes of f's first k sectors into the slots. -/
def logK (s : DevS) (f : SecF) (l : List Nat) : Nat → DevS
  | 0 => s
  | k + 1 => ((logK s f l k).write ((s.n : Int) - 24 + (k : Nat)) (mk ((f (l.getD k 0)).getD zeroS))).2
theorem logK_n (s : DevS) (f : SecF) (l : List Nat) : ∀ k, (logK s f l k).n = s.n
  | 0 => rfl
  | k + 1 => by rw [logK, write_n, logK_n s f l k]
/-- log. -/
def logD (s : DevS) (f : SecF) (N : Nat) : DevS := (((logK s f (keysF N f) (keysF N f).length).sync.2.write ((s.n : Int) - 25) (mk (hdL (keysF N f) (keysF N f).length))).2).sync.2
theorem logD_n (s : DevS) (f : SecF) (N : Nat) : (logD s f N).n = s.n := by unfold logD; rw [sync_n, write_n, sync_n, logK_n]

set_option maxRecDepth 20000 in
set_option maxHeartbeats 4000000 in
theorem log_any {w : World} {r p bs bw b N : Nat} {age : Int} {lost : Bool} {s : DevS} {f : SecF} (hw : IsWal w r p age lost) (hd : IsDev w p bs bw s) (hown : w.ownsMap Try.prog 3 secR b N (DF N f)) (hf : Full f) (hN : N ≤ 8192) (hb : b ∉ [p, bs, bw]) (hl24 : (keysF N f).length ≤ 24) :
    Calls Try.prog 54 #[.pointer (some ⟨r, 0, none⟩), .map (some b)] w fun e w' => e = .returned (.tuple #[]) ∧ IsDev w' p bs bw (logD s f N) ∧ Only [p, bs, bw] w w' := by
  have cR := rising_any hown hN
  have hap := hw.apart hd
  have lp := hd.ltp
  have ls := hd.lts
  have lw := hd.ltw
  go_enter Try.func54, Try.ntmps54
  go_wp2_with (first | (go_at_call 70; refine cR.mono ?_; rintro e w1 ⟨v, rfl, hrow, _, hb1⟩; obtain ⟨ao, cp, rfl, hao⟩ := own_shape hrow))
  have hD1 := hd.below hb1
  have hW1 := hw.below hb1
  have hM1 := ownsMap_only hown (Only.of_below (S := []) hb1) (by simp)
  clear cR hrow hd hw hown
  go_loopw [11] (fun i wr => ∃ k : Nat, k ≤ (keysF N f).length ∧ i = .int .i64 (k : Int) ∧ IsDev wr p bs bw (logK s f (keysF N f) k) ∧ Only [p, bs, bw] w1 wr)
    (fun i _ => (keysF N f).length - (intOf i).toNat)
  case atStart => exact ⟨0, Nat.zero_le _, rfl, hD1, Only.refl _ _⟩
  case round =>
    obtain ⟨k, hk, rfl, hDk, hOk⟩ := hrel
    have hWk := hW1.kept hOk hap
    have hMk := ownsMap_only hM1 hOk hb
    by_cases hlk : k < (keysF N f).length
    · obtain ⟨g, rfl, hg0, hg1, hcp, hcell⟩ := hao (by omega)
      have hck : wr.cell? ⟨g, k, none⟩ = some (.int .i64 ((keysF N f)[k] : Int)) := by
        rw [World.cell?_of_block (a := ⟨g, k, none⟩) (hOk.block g hg1 (by simp; omega)), hcell k hlk]
        simp [iv, hlk]
      have hkn : (keysF N f)[k] < N := (mem_keysF.1 (List.getElem_mem hlk)).1
      have hgd : (keysF N f).getD k 0 = (keysF N f)[k] := by simp [List.getD, hlk]
      have Hst : Hid (logK s f (keysF N f) (k + 1) = ((logK s f (keysF N f) k).write ((s.n : Int) - 24 + (k : Nat)) (mk ((f (keysF N f)[k]).getD zeroS))).2) := by
        show logK s f (keysF N f) (k + 1) = _
        rw [logK, hgd]
      clear hgd
      generalize (keysF N f)[k] = q at hck hkn Hst
      have hlk' : (k : Int) < ((keysF N f).length : Int) := by omega
      have h64 : ((f q).getD zeroS).length = 64 := by
        cases hg : f q with
        | none => exact zeroS_len
        | some t => exact hf _ t hg
      have hl := sec_lookupW (w := wr.drew) (ownsMap_only hMk (Only.drew [] wr) (by simp)) q hkn hN
      have cS := slot_any (hWk.kept (Only.drew [] wr) (by simp)) (hDk.kept (Only.drew [] wr) (by simp) (by simp) (by simp)) k (by omega)
      rw [logK_n] at cS
      have cP := put_any (hDk.kept (Only.drew [] wr) (by simp) (by simp) (by simp)) ((s.n : Int) - 24 + (k : Nat)) ((f q).getD zeroS) h64
      obtain ⟨d1, d2, d3⟩ := hWk.cells
      clear hDk hMk hWk hM1 hW1 hD1 h64 hao hcell hf
      generalize (f q).getD zeroS = t at *
      unfold secV at hl
      go_wp2_with fail
      clear hck
      refine region_tail 10 Try.mixed (by kernel_rfl) ?_
      simp only [List.take_succ_cons, List.take_zero, List.drop_succ_cons, List.drop_zero]
      iterate 6 still_step
      still_call cS
      iterate 2 still_step
      refine wpStill_lookup rfl 91 _ _ false rfl _ hl ?_
      refine wpStill_nil ?_
      clear hl
      go_wp2_with (first | (go_at_call 71; refine cP.mono ?_; rintro e w3 ⟨rfl, hd3, ho3⟩))
      go_roundw
      case rel => exact ⟨k + 1, by omega, by go_num, by rw [Hst.out]; exact hd3, (hOk.trans (Only.drew _ _)).trans ho3⟩
      case measure => simp [intOf]; omega
    · obtain rfl : k = (keysF N f).length := by omega
      have hlt' : ¬ ((keysF N f).length : Int) < ((keysF N f).length : Int) := by omega
      obtain ⟨d1, d2, d3⟩ := hWk.cells
      have cS := sync_all hDk
      have hn3 : (logK s f (keysF N f) (keysF N f).length).sync.2.n = s.n := by rw [sync_n, logK_n]
      have hks : ∀ x ∈ keysF N f, x < 8192 := fun x hx => by have := (mem_keysF.1 hx).1; omega
      clear hM1 hMk hW1 hD1 hf
      go_wp2_with (first
        | (go_at_call 14; refine cS.mono ?_; rintro e w3 ⟨rfl, hd3, ho3⟩; have hW3 := hWk.kept ho3 hap; obtain ⟨e1, e2, e3⟩ := hW3.cells))
      have hO3 : Only [p, bs, bw] w1 w3 := hOk.trans ho3
      have hO3' : Only [p, bs, bw] w w3 := ((Only.of_below hb1).trans hOk).trans ho3
      have hrd : ∀ W, Only [p, bs, bw] w3 W → ∀ (i x : Nat), (keysF N f)[i]? = some x → ∃ g, ao = some ⟨g, 0, none⟩ ∧ g < W.heap.size ∧ (keysF N f).length ≤ cp ∧ W.cell? ⟨g, i, none⟩ = some (.int .i64 (x : Int)) := by
        intro W hW i x hx
        obtain ⟨hi, rfl⟩ := List.getElem?_eq_some_iff.1 hx
        obtain ⟨g, rfl, hg0, hg1, hcp, hcell⟩ := hao (by omega)
        have hO := hO3.trans hW
        refine ⟨g, rfl, Nat.lt_of_lt_of_le hg1 hO.size, hcp, ?_⟩
        rw [World.cell?_of_block (a := ⟨g, i, none⟩) (hO.block g hg1 (by simp; omega)), hcell i hi]
        simp [iv, hi]
      have hWd := hW3.kept (Only.drew [] w3) (by simp)
      have hDd := hd3.kept (Only.drew [] w3) (by simp) (by simp) (by simp)
      have cH := heading_any hWd hDd
      rw [hn3] at cH
      have cG : ∀ W, Only [p, bs, bw] w3 W → _ := fun W hW => headingOf_any ao cp (keysF N f) W hl24 hks (hrd W hW)
      have hh64 := hdL_len (keysF N f) (keysF N f).length
      have HE : Hid (logD s f N = (((logK s f (keysF N f) (keysF N f).length).sync.2.write ((s.n : Int) - 25) (mk (hdL (keysF N f) (keysF N f).length))).2).sync.2) := rfl
      generalize hdL (keysF N f) (keysF N f).length = t at cG hh64 HE
      generalize (logK s f (keysF N f) (keysF N f).length).sync.2 = s3 at hn3 hd3 hDd HE
      have hc0 := hWd.cells
      clear hDk hWk cS ho3 hOk hao hrd hks hl24 d1 d2 d3 e1 e2 e3 hd3 hb1
      go_region_held3 (fun W => W.cell? ⟨r, 0, none⟩ = some (.pointer (some ⟨p, 0, none⟩)) ∧ W.cell? ⟨r, 1, none⟩ = some (.int .i64 age) ∧ W.cell? ⟨r, 2, none⟩ = some (.bool lost)) (first | assumption | go_keep)
        (first
          | (go_at_call 44; refine cH.mono ?_; rintro e w' ⟨rfl, hw⟩; rw [hw]; clear hw w')
          | (go_at_call 73; refine (cG _ (Only.drew _ w3)).mono ?_; rintro e w4 ⟨rfl, hb4⟩; have hD4 := hDd.below hb4; have hW4 := hWd.below hb4; have hc4 := hW4.cells)
          | (go_at_call 71; refine (put_any hD4 _ t hh64).mono ?_; rintro e w5 ⟨rfl, hd5, ho5⟩; have hW5 := hW4.kept ho5 hap; have hc5 := hW5.cells))
      obtain ⟨a1, a2, a3⟩ := hc5
      clear hc0 hc4
      go_wp2_with (first
        | (go_at_call 14; refine (sync_all hd5).mono ?_; rintro e w6 ⟨rfl, hd6, ho6⟩))
      go_end0
      exact ⟨rfl, by rw [HE.out]; exact hd6, (((hO3'.trans (Only.drew _ _)).trans (Only.of_below hb4)).trans ho5).trans ho6⟩
end Go.Proofs.Ytblhmfkohbdmeaa
