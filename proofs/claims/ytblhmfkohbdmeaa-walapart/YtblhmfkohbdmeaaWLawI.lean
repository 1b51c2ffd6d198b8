/-
  made.
-/
import Derived.Test.YtblhmfkohbdmeaaWLawH
import Derived.Deep.AppendLies
import Derived.Deep.RegionLaw
namespace Go.Proofs.Ytblhmfkohbdmeaa
open Go.RowKit Go.Maps

theorem NJ.from {W0 W W' : World} {r p bs bw B : Nat} {s : DevS} (h : NJ W0 W r p bs bw s) (hb : Below B W W') (h0 : W0.heap.size ≤ B) (h1 : r < B) (h2 : p < B) (h3 : bs < B) (h4 : bw < B) : NJ W0 W' r p bs bw s :=
  ⟨⟨h.dev.kept (only_from hb) (not_from h2) (not_from h3) (not_from h4), h.b.trans (hb.mono h0), h.lp, h.ls, h.lw⟩, h.wal.kept (only_from hb) (not_from h1), h.lr⟩

def pairO (p r : Nat) (v : Value) : Obj := .cells #[.pointer (some ⟨p, 0, none⟩), .pointer (some ⟨r, 0, none⟩), v, .slice none 0 0, .bool false] 51
def zrow : Obj := .cells #[.string (mk zeroS)] 9

/-- In the midst of made: k sectors are laid. -/
structure MidP (W0 W : World) (q r p bs bw n k : Nat) : Prop where
  j : NJ W0 W r p bs bw (newS n)
  str : ∃ v V, W.heap[q]? = some (pairO p r v) ∧ V.length = k ∧ W.ownsRow (q + 1) 62 1 v k V ∧ ∀ u ∈ V, RdT W u [mk zeroS]
  lr : r < q
  lp : p < q
  ls : bs < q
  lw : bw < q
  lq : W0.heap.size ≤ q

theorem rd_zrow {W : World} {g : Nat} (h : W.heap[g]? = some zrow) : RdT W (.slice (some ⟨g, 0, none⟩) 1 1) [mk zeroS] :=
  ⟨_, _, rfl, Nat.le_refl _, fun i x hx => by
    match i, hx with
    | 0, hx => simp at hx; subst hx; exact ⟨g, _, rfl, h, rfl⟩⟩

section
variable {W0 w w3 w4 : World} {q r p bs bw n k g cap : Nat} {v : Value} {V : List Value}

theorem midp_size {w' : World} (h : MidP W0 w q r p bs bw n k) (ho : Only [r] w w') (hj : NJ W0 w' r p bs bw (newS n)) : MidP W0 w' q r p bs bw n k := by
  obtain ⟨v, V, h1, h2, h3, h4⟩ := h.str
  have lr := h.lr
  have hk : KeepT w w' := keepT_only ho fun x hx cur t hc => by
    simp at hx
    subst hx
    have := h.j.wal
    rw [this] at hc
    cases hc
    decide
  exact ⟨hj, ⟨v, V, only_heap h1 ho (by simp; omega), h2, own_only h3 ho (by simp; omega), fun u hu => (h4 u hu).keepT hk⟩, h.lr, h.lp, h.ls, h.lw, h.lq⟩

theorem midp_call (hstr : w.heap[q]? = some (pairO p r v)) (hown : w.ownsRow (q + 1) 62 1 v k V) (hb : Below w.drew.heap.size w.drew w3) :
    Only [] w w3 ∧ w3.heap[q]? = some (pairO p r v) ∧ w3.cell? ⟨q, 2, none⟩ = some v ∧ w3.ownsRow (q + 1) 62 1 v k V ∧ q < w3.heap.size := by
  have hO3 : Only [] w w3 := (Only.drew _ _).trans (Only.of_below hb)
  have h3 := only_heap hstr hO3 (by simp)
  exact ⟨hO3, h3, cell_at h3 2, own_only hown hO3 (by simp), heap_lt h3⟩

theorem midp_app (h : MidP W0 w q r p bs bw n k) (hstr : w.heap[q]? = some (pairO p r v)) (hown : w.ownsRow (q + 1) 62 1 v k V) (hV : ∀ u ∈ V, RdT w u [mk zeroS]) (hVk : V.length = k) (h3 : Only [] w w3)
    (hg : ((w3.alloc zrow).alloc (.cells #[.slice (some ⟨w3.heap.size, 0, none⟩) 1 1] 62)).grownBy w4 v.ownBlock) (ho : w4.ownsRow (q + 1) 62 1 (.slice (some ⟨g, 0, none⟩) (k + 1) cap) (k + 1) (V ++ [.slice (some ⟨w3.heap.size, 0, none⟩) 1 1])) :
    MidP W0 (w4.setCell ⟨q, 2, none⟩ (.slice (some ⟨g, 0, none⟩) (k + 1) cap)) q r p bs bw n (k + 1) ∧ w4.cell? ⟨q, 2, none⟩ = some v ∧ w4.frozen? ⟨q, 2, none⟩ = false := by
  have hA : Only [] w ((w3.alloc zrow).alloc (.cells #[.slice (some ⟨w3.heap.size, 0, none⟩) 1 1] 62)) := (h3.trans (Only.alloc _ _ _)).trans (Only.alloc _ _ _)
  have hlq := heap_lt hstr
  have hs := hA.size
  have hne : ∀ j, j ≤ q → some j ≠ v.ownBlock := fun j hj e => by have := (hown.lt j e.symm).1; omega
  have h34 : ∀ j, j < w.heap.size → some j ≠ v.ownBlock → w4.heap[j]? = w.heap[j]? := fun j hj hn => (hg.block j (by omega) hn).trans (hA.block j hj (by simp))
  have h4q := (h34 q hlq (hne q (Nat.le_refl _))).trans hstr
  have hB4 : Below (q + 1) w w4 := (hA.below (by omega) (by simp)).grown hg (by omega) (fun j hj => (hown.lt j hj).1)
  have hBf : Below q w (w4.setCell ⟨q, 2, none⟩ (.slice (some ⟨g, 0, none⟩) (k + 1) cap)) := (hB4.mono (show q ≤ q + 1 by omega)).setCell (p := ⟨q, 2, none⟩) (Nat.le_refl _) _
  have hK1 : ∀ (j : Nat) (cur : Array Value), w.heap[j]? = some (.cells cur 9) → w4.heap[j]? = some (.cells cur 9) := fun j cur hc => by
    refine (h34 j (heap_lt hc) ?_).trans hc
    intro e
    rcases hown.2 with ⟨rfl, _⟩ | ⟨g', cap', cur', rfl, _, hg', _⟩
    · cases e
    · have : j = g' := by simpa [Value.ownBlock] using e
      subst this
      rw [hc] at hg'
      simp at hg'
  have hKs : ∀ (j : Nat) (cur : Array Value), w4.heap[j]? = some (.cells cur 9) → (w4.setCell ⟨q, 2, none⟩ (.slice (some ⟨g, 0, none⟩) (k + 1) cap)).heap[j]? = some (.cells cur 9) := fun j cur hc =>
    only_heap hc (Only.setCell (S := [q]) w4 (p := ⟨q, 2, none⟩) (by simp) _) (by simp; exact (q_ne h4q hc (by decide)).symm)
  have hz : w4.heap[w3.heap.size]? = some zrow := by
    have h0 : ((w3.alloc zrow).alloc (.cells #[.slice (some ⟨w3.heap.size, 0, none⟩) 1 1] 62)).heap[w3.heap.size]? = some zrow := only_heap (heap_alloc_last w3 zrow) (Only.alloc [] _ _) (by simp)
    refine (hg.block _ (heap_lt h0) ?_).trans h0
    intro e
    rcases hown.2 with ⟨rfl, _⟩ | ⟨g', cap', cur', rfl, _, hg', _⟩
    · cases e
    · have : w3.heap.size = g' := by simpa [Value.ownBlock] using e
      have := heap_lt hg'
      have := h3.size
      omega
  refine ⟨⟨h.j.from hBf h.lq h.lr h.lp h.ls h.lw, ⟨_, V ++ [.slice (some ⟨w3.heap.size, 0, none⟩) 1 1], heap_setCell h4q 2 _, by simp [hVk], own_only ho (Only.setCell (S := [q]) w4 (p := ⟨q, 2, none⟩) (by simp) _) (by simp), fun u hu => ?_⟩, h.lr, h.lp, h.ls, h.lw, h.lq⟩, cell_at h4q 2, frozen_at h4q 2⟩
  rw [List.mem_append, List.mem_singleton] at hu
  rcases hu with hu | rfl
  · exact ((hV u hu).keep hK1).keep hKs
  · exact (rd_zrow hz).keep hKs
end

theorem midp_whole {W0 w : World} {q r p bs bw N : Nat} (h : MidP W0 w q r p bs bw (N + 25) N) (h7 : 7 ≤ N) : ∃ A : PA, A.q = q ∧ A.N = N ∧ IsP W0 w A false false (newS (N + 25)) (fun _ => [mk zeroS]) (.slice none 0 0) [] := by
  obtain ⟨v, V, h1, h2, h3, h4⟩ := h.str
  rcases h3.2 with ⟨_, h0⟩ | ⟨g, cap, cur, rfl, hb, hg, hn, hm, hc, ht⟩
  · omega
  · have lq := h.lq
    refine ⟨⟨q, r, p, bs, bw, g, cap, N, fun _ => none⟩, rfl, rfl, ⟨h.j.dev, h.j.wal, h1, ⟨cur, hg, fun i hi => ?_⟩, RdWT.nil _, rfl, h7, hn, h.j.b, lq, h.j.lr, h.j.lp, h.j.ls, h.j.lw, by show W0.heap.size ≤ g; omega, fun g o hg => by cases hg⟩⟩
    have hi' : i < V.length := by rw [h2]; exact hi
    have hi2 : i < N := hi
    obtain ⟨x, hx⟩ : ∃ x, V[i]? = some x := ⟨V[i], by simp [hi']⟩
    refine ⟨x, ?_, h4 _ (List.mem_of_getElem? hx)⟩
    rw [← ht, List.getElem?_take_of_lt (by omega)] at hx
    simpa using hx

set_option maxRecDepth 20000 in
set_option maxHeartbeats 4000000 in
theorem made_any (c : Int) (w : World) (h0 : -9223372036854775808 ≤ c) (h1 : c ≤ 9223372036854775807) :
    Calls Try.prog 23 #[.int .i64 c] w fun e w' => ∃ (A : PA) (n : Nat), e = .returned (.tuple #[.pointer (some ⟨A.q, 0, none⟩), .bool true]) ∧ IsP w w' A false false (newS n) (fun _ => [mk zeroS]) (.slice none 0 0) [] := by
  have hp := pickI_bd c 40 (by omega)
  have cP := pick_any c 40 w h0 h1 (by omega) (by omega)
  obtain ⟨N, hN⟩ := Int.eq_ofNat_of_zero_le (show 0 ≤ pickI c 40 + 7 by omega)
  rw [show pickI c 40 = (N : Int) - 7 by omega] at cP
  have hN7 : 7 ≤ N := by omega
  have hN47 : N < 47 := by omega
  have hNI : (N : Int) < 47 := by omega
  have hNJ : (7 : Int) ≤ (N : Int) := by omega
  have cN := ndev_any w w (Below.refl _ _) (N + 25) (by omega) (by omega)
  rw [show ((N + 25 : Nat) : Int) = (N : Int) + 25 by omega] at cN
  obtain ⟨iS, hiS, hzS0, hzS1, hzS2⟩ := info_parts Try.infoSS
  clear hp hN h0 h1
  go_enter Try.func23, Try.ntmps23
  go_wp2_with fail
  refine cP.mono ?_
  rintro e w' ⟨rfl, hw⟩
  rw [hw]
  clear hw w' cP
  go_wp2_with fail
  rw [show (32 : Int) + ((N : Int) - 7) = (N : Int) + 25 by omega]
  refine cN.mono ?_
  rintro e w1 ⟨p, bs, bw, rfl, hD1⟩
  clear cN
  have cW := nnew_any hD1 (newS_newE (N + 25) (by omega))
  clear hD1
  go_wp2_with fail
  refine cW.mono ?_
  rintro e w2 ⟨r, rfl, hJ2⟩
  clear cW
  go_wp2_with fail
  refine (begun_any _).mono ?_
  rintro e w3 ⟨rfl, hb3⟩
  have hJ3 := hJ2.below hb3
  clear hJ2 hb3
  have hM0 : MidP w (w3.alloc (pairO p r (.slice none 0 0))) w3.heap.size r p bs bw (N + 25) 0 :=
    ⟨hJ3.below ((Below.refl _ _).alloc (Nat.le_refl _) _), ⟨_, [], heap_alloc_last w3 _, rfl, World.ownsRow_nil _ _ _ _, by simp⟩, heap_lt hJ3.wal, hJ3.dev.ltp, hJ3.dev.lts, hJ3.dev.ltw, hJ3.sz⟩
  clear hJ3
  go_wp2_with fail
  have hM0' : MidP w (w3.alloc (.cells #[.pointer (some ⟨p, 0, none⟩), .pointer (some ⟨r, 0, none⟩), .slice none 0 0, .slice none 0 0, .bool false] 51)) w3.heap.size r p bs bw (N + 25) 0 := hM0
  clear hM0
  generalize w3.heap.size = q at *
  go_loopw [9] (fun i wr => ∃ k : Nat, k ≤ N ∧ i = .int .i64 (k : Int) ∧ MidP w wr q r p bs bw (N + 25) k) (fun i _ => N - (intOf i).toNat)
  case atStart => exact ⟨0, Nat.zero_le _, rfl, hM0'⟩
  case round =>
    obtain ⟨k, hk, rfl, hM⟩ := hrel
    clear hM0'
    have cS : Calls Try.prog 18 #[.pointer (some ⟨r, 0, none⟩)] wr fun e w' => e = .returned (.int .i64 (N : Int)) ∧ MidP w w' q r p bs bw (N + 25) k := by
      refine (size_any hM.j.wal hM.j.dev).mono fun e w' ⟨h1, h2, h3, h4⟩ => ⟨?_, midp_size hM h4 ?_⟩
      · rw [h1]
        exact ret_int (show ((N + 25 : Nat) : Int) - 25 = (N : Int) by omega)
      · rw [rdy_true (s := newS (N + 25)) rfl] at h2
        exact hM.j.only h2 h3 (h4.mono (by simp))
    clear hM
    go_wp2_with fail
    refine cS.mono ?_
    rintro e w4 ⟨rfl, hM4⟩
    clear cS
    by_cases hlt : k < N
    · have hlt' : (k : Int) < (N : Int) := by omega
      obtain ⟨v, V, hstr, hVk, hown, hV⟩ := hM4.str
      have c2 := cell_at hstr 2
      have hcl := heap_lt hstr
      go_wp2_with fail
      go_region_law (first
        | (refine step_append_lies _ (by rfl) (.tmp 46) (.tmp 49) 49 (by rfl) (q + 1) 62 iS (.slice none 0 0) 1 24 Try.underlying49 hiS hzS0 hzS1 hzS2 rfl (by decide) v k V (by simp [Act.eval]) ((hown5.alloc _).alloc _) ⟨w5.heap.size + 1, 0, none⟩ 1 1 [.slice (some ⟨w5.heap.size, 0, none⟩) 1 1] (by simp [Act.eval]) rfl (by intro j u hj; match j, hj with | 0, hj => simp at hj; subst hj; simp [Addr.add]) (one_one _ rfl) (by decide) (by unfold maxLen; omega) (by omega) (by simp; omega) (w5.heap.size + 1 + 1) (by simp) ?_; intro g cap w6 hown6 hgr6 hat6 hlt6; obtain ⟨hM6, e6, z6⟩ := midp_app hM4 hstr hown hV hVk hO5 hgr6 hown6)
        | (go_simp; go_at_call 22; refine (lzero_any _).mono ?_; rintro e w5 ⟨rfl, hb5⟩; obtain ⟨hO5, hstr5, c5, hown5, l5⟩ := midp_call hstr hown hb5))
      all_goals
        clear hM4 hstr hown hV hcl hb5 hO5 hstr5 c5 hown5 l5 hown6 hgr6 hat6 hlt6 e6 z6 c2
        go_wp2_with fail
        go_roundw
        case rel => exact ⟨k + 1, by omega, by go_num, hM6⟩
        case measure => simp [intOf]; omega
    · obtain rfl : k = N := by omega
      have hlt' : ¬ (k : Int) < (k : Int) := by omega
      obtain ⟨A, hq, _, hP⟩ := midp_whole hM4 hN7
      have HQ : Hid (A.q = q) := hq
      clear hM4 hq
      go_wp2_with fail
      go_ret2
      exact ⟨A, k + 25, by rw [HQ.out]; rfl, hP⟩
end Go.Proofs.Ytblhmfkohbdmeaa
