/-
  The contract of the reference's Take.
-/
import Derived.Test.YtdkhfehoohiflaaNtO
namespace Go.Proofs.Ytdkhfehoohiflaa.nt
open Go.Maps Go.WideShapes Go.RowKit Go.ChangeShapes Go.ChangeAt Go.PlainAid

theorem rdl_take {w : World} {ao : Option Addr} {cp k : Nat} {L : List LtD} (h : RdL w (.slice ao L.length cp) L) (hk : k ≤ L.length) (c : Nat) : RdL w (.slice ao k c) (L.take k) := by
  refine ⟨ao, c, by rw [List.length_take, Nat.min_eq_left hk], fun i x hx => ?_⟩
  have hx' : L[i]? = some x := by
    rw [List.getElem?_take] at hx
    split at hx
    · exact hx
    · cases hx
  obtain ⟨b, off, e, r⟩ := rdl_cells rfl h hx'
  exact ⟨b, off, e, r⟩
theorem rdl_drop {w : World} {b off cp j : Nat} {L : List LtD} (h : RdL w (.slice (some ⟨b, off, none⟩) L.length cp) L) (c : Nat) : RdL w (.slice (some ⟨b, off + j * 2, none⟩) (L.length - j) c) (L.drop j) := by
  refine ⟨_, c, by rw [List.length_drop], fun i x hx => ?_⟩
  have hx' : L[j + i]? = some x := by rw [List.getElem?_drop] at hx; exact hx
  obtain ⟨b', off', e, hb, c0, c1⟩ := rdl_cells rfl h hx'
  cases e
  exact ⟨b, off + j * 2, rfl, hb, by rw [show off + j * 2 + i * 2 = off + (j + i) * 2 by omega]; exact c0, by rw [show off + j * 2 + i * 2 + 1 = off + (j + i) * 2 + 1 by omega]; exact c1⟩
theorem rdl_nil (w : World) (ao : Option Addr) (c : Nat) : RdL w (.slice ao 0 c) [] := ⟨ao, c, rfl, fun i x hx => by simp at hx⟩

theorem rt_b1 {w W W' : World} (hb : Below w.heap.size w W) (hg : W.grownBy W' (Value.slice none 0 0).ownBlock) : Below w.heap.size w W' := hb.grown hg hb.size (fun k hk => by simp [Value.ownBlock] at hk)

theorem rt_bx {w w3 w4 : World} {R : RfS} {n : Nat} {u : Value} {L : List Value} (h : IsRf w R) (hb : Below w.heap.size w w3) (ho : w3.ownsRow w.heap.size 37 2 u n L) (hg : w3.grownBy w4 u.ownBlock) : w4.heap[R.p]? = some (.cells #[.int .i64 R.room, R.u] 62) := by
  have hp := heap_lt h.bx
  have h3 := (h.below hb).bx
  refine (hg.block R.p (heap_lt h3) (fun e => ?_)).trans h3
  have := (ho.lt R.p e.symm).1
  omega
theorem rt_b2 {w w3 w4 : World} {n : Nat} {u : Value} {L : List Value} (hb : Below w.heap.size w w3) (ho : w3.ownsRow w.heap.size 37 2 u n L) (hg : w3.grownBy w4 u.ownBlock) : Below w.heap.size w w4 :=
  hb.grown hg hb.size (fun k hk => (ho.lt k hk).1)

theorem rt_lb {W w3 w4 : World} {p : Nat} {x : LtD} {u : Value} (h : LB W p x) (hg : W.grownBy w3 (Value.slice none 0 0).ownBlock) (hq : u.ownBlock = (Value.slice none 0 0).ownBlock ∨ ∀ g, u.ownBlock = some g → W.heap.size ≤ g) (hg4 : w3.grownBy w4 u.ownBlock) : LB w4 p x := by
  have hp := heap_lt h
  have h3 : LB w3 p x := (hg.block p hp (by simp [Value.ownBlock])).trans h
  refine (hg4.block p (heap_lt h3) (fun e => ?_)).trans h3
  rcases hq with hq | hq
  · rw [hq] at e; simp [Value.ownBlock] at e
  · have := hq p e.symm; omega

theorem own_lower0 {w : World} {B e z n : Nat} {v : Value} {L : List Value} (h : w.ownsRow B e z v n L) : w.ownsRow 0 e z v n L := by
  refine ⟨h.1, h.2.imp_right ?_⟩
  rintro ⟨g, cap, cur, e1, _, r⟩
  exact ⟨g, cap, cur, e1, Nat.zero_le _, r⟩
theorem rt_out {w W2 w3 w4 : World} {R : RfS} {k m : Nat} {x : LtD} {u3 u : Value} {M : List LtD} (h : IsRf w R) (hk : k < R.L.length) (hb4 : Below w.heap.size w w4) (ho : w4.ownsRow w.heap.size 37 2 u m (lcs M)) (hm : M.length = m) (hM : R.L.eraseIdx k = M)
    (hq3 : u3.ownBlock = (Value.slice none 0 0).ownBlock ∨ ∀ g, u3.ownBlock = some g → W2.heap.size ≤ g) (hq4 : u.ownBlock = u3.ownBlock ∨ ∀ g, u.ownBlock = some g → w3.heap.size ≤ g) (hs2 : w.heap.size < W2.heap.size) (hs3 : W2.heap.size ≤ w3.heap.size) (hbx : w4.heap[R.p]? = some (.cells #[.int .i64 R.room, R.u] 62)) :
    ∃ R', RAft w (((w4.setCell ⟨R.p, 1, none⟩ u).setCell ⟨w.heap.size, 0, none⟩ (.int .i64 x.to)).setCell ⟨w.heap.size, 1, none⟩ (.string x.t)) R M R' := by
  have hp := heap_lt h.bx
  have hu : ∀ g, u.ownBlock = some g → w.heap.size < g := by
    intro g hg
    rcases hq4 with h4 | h4
    · rw [h4] at hg
      rcases hq3 with h3 | h3
      · rw [h3] at hg; simp [Value.ownBlock] at hg
      · have := h3 g hg; omega
    · have := h4 g hg; omega
  have o1 : Only [R.p] w4 (w4.setCell ⟨R.p, 1, none⟩ u) := Only.setCell w4 (p := ⟨R.p, 1, none⟩) (by simp) _
  have o2 : Only [w.heap.size] (w4.setCell ⟨R.p, 1, none⟩ u) (((w4.setCell ⟨R.p, 1, none⟩ u).setCell ⟨w.heap.size, 0, none⟩ (.int .i64 x.to)).setCell ⟨w.heap.size, 1, none⟩ (.string x.t)) := (Only.setCell (p := ⟨w.heap.size, 0, none⟩) _ (by simp) _).trans (Only.setCell (p := ⟨w.heap.size, 1, none⟩) _ (by simp) _)
  have hlt := fun g hg => (ho.lt g hg).1
  refine ⟨⟨R.p, R.room, u, M⟩, ⟨only_heap (heap_setCell hbx 1 _) o2 (by simp; omega), ?_, h.rm, ?_⟩, rfl, rfl, rfl, ?_, fun g hg => .inr (hlt g hg)⟩
  · rw [← hm] at ho
    refine own_only (own_only (own_lower0 ho) o1 (fun g hg => ?_)) o2 (fun g hg => ?_)
    · have := hlt g hg; simp; omega
    · have := hu g hg; simp; omega
  · have := h.len
    show ((M.length : Nat) : Int) ≤ R.room
    rw [← hM, List.length_eraseIdx_of_lt hk]
    omega
  · exact ((Only.of_below hb4).trans (o1.mono (by simp [RfS.bl]))).new o2 (fun i hi => .inr (by simp at hi; omega))

set_option maxRecDepth 20000 in
set_option maxHeartbeats 1000000 in
theorem rtake_ok (R : RfS) (k : Nat) (x : LtD) (w : World) (h : IsRf w R) (hx : R.L[k]? = some x) :
    Calls Try.prog 16 #[.pointer (some ⟨R.p, 0, none⟩), .int .i64 (k : Int)] w fun e w' => e = .returned (.tuple #[x.v, .int .i64 0]) ∧ ∃ R', RAft w w' R (R.L.eraseIdx k) R' := by
  obtain ⟨hk, hxe⟩ := List.getElem?_eq_some_iff.1 hx
  have hk' : (k : Int) < (R.L.length : Int) := by omega
  have hk2 : ¬ (R.L.length : Int) ≤ (k : Int) := by omega
  have hlen : R.L.length ≤ 3000 := by have := h.len; have := h.rm; omega
  have hb : Below w.heap.size w (w.alloc (.cells #[.int .i64 0, .string ⟨#[]⟩] 37)) := (Below.refl _ w).alloc (Nat.le_refl _) _
  have hl : LB (w.alloc (.cells #[.int .i64 0, .string ⟨#[]⟩] 37)) w.heap.size noL := lb_new w noL
  have hN1 := h.below hb
  have hs1 : (w.alloc (.cells #[.int .i64 0, .string ⟨#[]⟩] 37)).heap.size = w.heap.size + 1 := by simp
  have hx2 := lb_new (w.alloc (.cells #[.int .i64 0, .string ⟨#[]⟩] 37)) x
  rw [hs1] at hx2
  have hb2 : Below w.heap.size w ((w.alloc (.cells #[.int .i64 0, .string ⟨#[]⟩] 37)).alloc (.cells #[.int .i64 x.to, .string x.t] 37)) := hb.alloc (by simp) _
  have hl2 := hl.alloc (.cells #[.int .i64 x.to, .string x.t] 37)
  have hN2 := h.below hb2
  obtain ⟨-, c1, -⟩ := rf_cells hN1.bx
  obtain ⟨-, c2, -⟩ := rf_cells hN2.bx
  obtain ⟨ao, cp, hu⟩ := own_form h.row
  have hcp : R.L.length ≤ cp := by
    rcases h.row.2 with ⟨e, e2⟩ | ⟨g, cap, cur, e, _, _, hn, _⟩
    · omega
    · rw [hu] at e
      injection e with _ _ e3
      omega
  obtain ⟨b, off, rfl, hbw, d0, d1⟩ := rdl_cells hu (rdl_own hN1.row) hx
  have hrd := rdl_own h.row
  rw [hu] at c1 c2 hrd
  obtain ⟨A, hA, hrA⟩ : ∃ A : Addr, (if cp = k + 1 then some (⟨b, off, none⟩ : Addr) else some ⟨b, off + (k + 1) * 2, none⟩) = some A ∧ Hid (RdL w (.slice (some A) (R.L.length - (k + 1)) (cp - (k + 1))) (R.L.drop (k + 1))) := by
    by_cases hc : cp = k + 1
    · refine ⟨_, by rw [if_pos hc], ?_⟩
      show RdL _ _ _
      rw [List.drop_of_length_le (by omega), show R.L.length - (k + 1) = 0 by omega]
      exact rdl_nil _ _ _
    · exact ⟨_, by rw [if_neg hc], rdl_drop hrd _⟩
  have hrT := rdl_take hrd (Nat.le_of_lt hk) cp
  have e0 : Hid ((([] : List LtD) ++ R.L.take k).length = k) := by show _ = _; rw [List.nil_append, List.length_take]; omega
  have e9 : Hid (R.L.eraseIdx k = [] ++ R.L.take k ++ R.L.drop (k + 1)) := by show _ = _; rw [List.nil_append]; exact List.eraseIdx_eq_take_drop_succ ..
  have hic : k ≤ cp := by omega
  have hp0 : (0 : Int) ≤ (k : Int) + 1 := by omega
  have hp1 : (k : Int) + 1 ≤ (R.L.length : Int) := by omega
  have hp2 : ((k : Int) + 1).toNat = k + 1 := by omega
  have h6 : ((R.L.take k).length : Nat) + (R.L.drop (k + 1)).length ≤ 6000 := by rw [List.length_take, List.length_drop]; omega
  obtain ⟨m, hm⟩ : ∃ m, (([] : List LtD) ++ R.L.take k ++ R.L.drop (k + 1)).length = m := ⟨_, rfl⟩
  have e8 : Hid ((([] : List LtD) ++ R.L.take k ++ R.L.drop (k + 1)).length = m) := hm
  have hpw := heap_lt h.bx
  have n1 : ¬ R.p = w.heap.size + 1 := by omega
  have n2 : ¬ w.heap.size + 1 = R.p := by omega
  have n3 : ¬ R.p = w.heap.size := by omega
  have n4 : ¬ w.heap.size = R.p := by omega
  clear hm
  have HU : Hid (R.u = .slice (some ⟨b, off, none⟩) R.L.length cp) := hu
  clear hu
  go_enter Try.func16, Try.ntmps16
  go_wp2_with (with_reducible refine at_append _ _ _ rfl ?_; first | (refine wpList_app_lt _ rfl _ _ rfl w.heap.size (.slice none 0 0) (.slice (some ⟨b, off, none⟩) k cp) [] (R.L.take k) rfl rfl (World.ownsRow_nil _ _ _ _) (by simp; omega) (hrT.below hb2) (by simp; omega) ?_; intro u' w3 ho3 hg3 hq3; have hb3 := rt_b1 hb2 hg3; rw [e0.out] at ho3; obtain ⟨a9, c9, rfl⟩ := own_form ho3; have hN3 := h.below hb3; obtain ⟨-, f1, -⟩ := rf_cells hN3.bx; rw [HU.out] at f1) | (refine wpList_app_lt _ rfl _ _ rfl w.heap.size (.slice a9 k c9) (.slice (some A) (R.L.length - (k + 1)) (cp - (k + 1))) ([] ++ R.L.take k) (R.L.drop (k + 1)) rfl rfl (by rw [e0.out]; exact ho3) hb3.size (hrA.out.below hb3) (by simpa using h6) ?_; intro u' w4 ho4 hg4 hq4; rw [e8.out] at ho4; obtain ⟨a8, c8, rfl⟩ := own_form ho4; have hbx4 := rt_bx h hb3 ho3 hg4; obtain ⟨-, j1, j3⟩ := rf_cells hbx4; have hb4 := rt_b2 hb3 ho3 hg4; have hx4 := rt_lb hx2 hg3 hq3 hg4; have hl4 := rt_lb hl2 hg3 hq3 hg4; obtain ⟨y0, y1, -, -⟩ := hx4.facts; obtain ⟨z0, z1, z2, z3⟩ := hl4.facts))
  refine bodyPost_ret (results_cell2 rfl _ _ w.heap.size 37 _ (0, 0) _ rfl (LB.set (LB.only hl4 (Only.setCell (S := [R.p]) w4 (p := ⟨R.p, 1, none⟩) (by simp) _) (by simp; omega)) x) Try.underlying37 rfl Try.sizeLt (.int .i64 0) rfl) rfl ?_
  refine ⟨rfl, ?_⟩
  rw [e9.out]
  exact rt_out h hk hb4 ho4 e8.out e9.out hq3 hq4 (by simp; omega) hg3.size hbx4

set_option maxRecDepth 20000 in
set_option maxHeartbeats 1000000 in
theorem rtake_any (R : RfS) (i : Int) (w : World) (h : IsRf w R) :
    Calls Try.prog 16 #[.pointer (some ⟨R.p, 0, none⟩), .int .i64 i] w fun e w' => e = .returned (.tuple #[(R.N.tkV i).v, .int .i64 (R.N.tkE i)]) ∧ ∃ R', RAft w w' R (R.N.tkL i) R' := by
  have hi : R.N.hasI i = true ↔ 0 ≤ i ∧ i < (R.L.length : Int) := hasI_iff
  by_cases hI : R.N.hasI i = true
  · obtain ⟨k, rfl⟩ := Int.eq_ofNat_of_zero_le (hi.1 hI).1
    have hk : k < R.L.length := by have := (hi.1 hI).2; omega
    have hx : R.L[k]? = some R.L[k] := by simp [hk]
    have e1 : R.N.tkV k = R.L[k] := by
      unfold NtS.tkV
      rw [if_pos hI]
      show (R.L[(k : Int).toNat]?).getD noL = _
      simp [hk]
    have e2 : R.N.tkE k = 0 := by unfold NtS.tkE; rw [if_pos hI]
    have e3 : R.N.tkL k = R.L.eraseIdx k := by unfold NtS.tkL; rw [if_pos hI]; rfl
    rw [e1, e2, e3]
    exact rtake_ok R k R.L[k] w h hx
  · have e1 : R.N.tkV i = noL := by unfold NtS.tkV; rw [if_neg hI]
    have e2 : R.N.tkE i = 171 := by unfold NtS.tkE; rw [if_neg hI]
    have e3 : R.N.tkL i = R.L := by unfold NtS.tkL; rw [if_neg hI]; rfl
    rw [e1, e2, e3]
    have hb : Below w.heap.size w (w.alloc (.cells #[.int .i64 0, .string ⟨#[]⟩] 37)) := (Below.refl _ w).alloc (Nat.le_refl _) _
    have hl : LB (w.alloc (.cells #[.int .i64 0, .string ⟨#[]⟩] 37)) w.heap.size noL := lb_new w noL
    obtain ⟨c0, c1, -⟩ := rf_cells (h.below hb).bx
    obtain ⟨y0, y1, y2, y3⟩ := hl.facts
    obtain ⟨ao, cp, hu⟩ := own_form h.row
    rw [hu] at c1
    clear hu e1 e2 e3
    unfold LtD.v noL at *
    by_cases h0 : i < 0
    · clear hi hI
      go_enter Try.func16, Try.ntmps16
      go_wp2_with fail
      refine bodyPost_ret (results_cell2 rfl _ _ w.heap.size 37 _ (0, 0) _ rfl hl Try.underlying37 rfl Try.sizeLt (.int .i64 171) rfl) rfl ?_
      exact ⟨rfl, R, RAft.same h hb⟩
    · have h1 : (R.L.length : Int) ≤ i := by
        rcases Int.lt_or_le i (R.L.length : Int) with h1 | h1
        · exact absurd (hi.2 ⟨by omega, h1⟩) hI
        · exact h1
      clear hi hI
      go_enter Try.func16, Try.ntmps16
      go_wp2_with fail
      refine bodyPost_ret (results_cell2 rfl _ _ w.heap.size 37 _ (0, 0) _ rfl hl Try.underlying37 rfl Try.sizeLt (.int .i64 171) rfl) rfl ?_
      exact ⟨rfl, R, RAft.same h hb⟩
end Go.Proofs.Ytdkhfehoohiflaa.nt
