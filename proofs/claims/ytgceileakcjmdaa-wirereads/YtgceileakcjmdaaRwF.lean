/-
  What WireReads does, over a contract of the reference's Decode.
-/
import Derived.Test.YtgceileakcjmdaaRwC
import Derived.Test.YtgceileakcjmdaaRwD
namespace Go.Proofs.Ytgceileakcjmdaa
open Go.ChangeShapes Go.WideShapes Go.ChangeAt Go.RowKit Go.PlainAid

/-- A row of operations, whatever they are, in new memory. -/
def RwN (W : World) (B : Nat) (a : Option Addr) (c n : Nat) : Prop := n = 0 ∨ ∃ (g : Nat) (cur : Array Value), a = some ⟨g, 0, none⟩ ∧ B ≤ g ∧ W.heap[g]? = some (.cells cur 35) ∧ cur.size = c * 3 ∧ n ≤ c
theorem rwn_own {W : World} {B n c : Nat} {a : Option Addr} {L : List Value} (h : W.ownsRow B 35 3 (.slice a n c) n L) : RwN W B a c n := by
  rcases h.2 with ⟨-, h0⟩ | ⟨g, cap, cur, e, hb, hh, hn, -, hs, -⟩
  · exact .inl h0
  · injection e with e1 e2 e3
    subst e3
    exact .inr ⟨g, cur, e1, hb, hh, hs, hn⟩
theorem op_store {W : World} {g j : Nat} {cur : Array Value} (h : W.heap[g]? = some (.cells cur 35)) (hj : j * 3 + 3 ≤ cur.size) :
    W.frozen? ⟨g, j * 3, none⟩ = false ∧ (∃ x, W.cell? ⟨g, j * 3, none⟩ = some x) ∧ (∀ k, (W.setCell ⟨g, j * 3, none⟩ k).frozen? ⟨g, j * 3 + 1, none⟩ = false) ∧ (∃ x, ∀ k, (W.setCell ⟨g, j * 3, none⟩ k).cell? ⟨g, j * 3 + 1, none⟩ = some x) ∧
    (∀ k l, ((W.setCell ⟨g, j * 3, none⟩ k).setCell ⟨g, j * 3 + 1, none⟩ l).frozen? ⟨g, j * 3 + 2, none⟩ = false) ∧ (∃ x, ∀ k l, ((W.setCell ⟨g, j * 3, none⟩ k).setCell ⟨g, j * 3 + 1, none⟩ l).cell? ⟨g, j * 3 + 2, none⟩ = some x) ∧
    (∀ k l n, ∃ cur' : Array Value, cur'.size = cur.size ∧ (((W.setCell ⟨g, j * 3, none⟩ k).setCell ⟨g, j * 3 + 1, none⟩ l).setCell ⟨g, j * 3 + 2, none⟩ n).heap[g]? = some (.cells cur' 35)) := by
  have h1 : ∀ k, (W.setCell ⟨g, j * 3, none⟩ k).heap[g]? = _ := fun k => heap_setCell h (j * 3) k
  have h2 : ∀ k l, ((W.setCell ⟨g, j * 3, none⟩ k).setCell ⟨g, j * 3 + 1, none⟩ l).heap[g]? = _ := fun k l => heap_setCell (h1 k) (j * 3 + 1) l
  have h3 : ∀ k l n, (((W.setCell ⟨g, j * 3, none⟩ k).setCell ⟨g, j * 3 + 1, none⟩ l).setCell ⟨g, j * 3 + 2, none⟩ n).heap[g]? = _ := fun k l n => heap_setCell (h2 k l) (j * 3 + 2) n
  refine ⟨frz h _, ⟨cur[j * 3]'(by omega), ?_⟩, fun k => frz (h1 k) _, ⟨cur[j * 3 + 1]'(by omega), fun k => ?_⟩, fun k l => frz (h2 k l) _, ⟨cur[j * 3 + 2]'(by omega), fun k l => ?_⟩, fun k l n => ⟨_, ?_, h3 k l n⟩⟩
  · rw [cell_of_row _ _ _ _ _ (0, 0) h]; simp
  · rw [cell_of_row _ _ _ _ _ (0, 0) (h1 k)]; simp
  · rw [cell_of_row _ _ _ _ _ (0, 0) (h2 k l)]; simp
  · simp

set_option maxRecDepth 20000 in
set_option maxHeartbeats 1000000 in
theorem reads_walk (s : ByteArray) (w : World) (hs : s.size ≤ maxLen)
    (hR : ∀ w, Calls Try.prog 12 #[.string s] w fun e w' => ∃ u, e = .returned (.tuple #[.agg ((wdR s).1.fs u), .int .i64 (wdR s).2]) ∧ RdD w' u (wdR s).1.d ∧ Below w.heap.size w w') (hm : (wdR s).1.d.length ≤ 3000) :
    Calls Try.prog 4 #[.string s] w fun e w' => e = .returned (.bool true) ∧ Below w.heap.size w w' := by
  have hD := fun W => wdecode_any s W hs
  have hS := fun a b W h1 h2 => sameM_true (wdR s).1 a b W (by unfold maxLen; omega) h1 h2
  generalize wdR s = R at *
  obtain ⟨m, f⟩ := R
  simp only at hR hD hS hm
  have hm' : (m.d.length : Int) ≤ 3000 := by omega
  unfold MsD.fs at hR hD hS
  have hR1 := hR w
  clear hR
  go_enter Try.func4, Try.ntmps4
  go_wp2_with fail
  refine hR1.mono ?_
  clear hR1
  rintro e w1 ⟨u1, rfl, hr1, hb1⟩
  obtain ⟨ao, cp, hv, -⟩ := id hr1
  subst hv
  have hb2 : Below w1.heap.size w1 (w1.alloc (.cells #[.int .i64 m.k, .int .i64 m.b, .int .i64 m.c, .int .i64 m.s, .int .i64 m.r, .int .i64 m.y, .slice ao m.d.length cp] 24)) := (Below.refl _ w1).alloc (Nat.le_refl _) _
  have hx2 : MB _ _ m (.slice ao m.d.length cp) := heap_alloc_new w1 (.cells #[.int .i64 m.k, .int .i64 m.b, .int .i64 m.c, .int .i64 m.s, .int .i64 m.r, .int .i64 m.y, .slice ao m.d.length cp] 24)
  have hr2 := hr1.below hb2
  have hB2 := hb1.trans (hb2.mono hb1.size)
  clear hr1 hb1 hb2
  go_wp2_with fail
  generalize w1.alloc _ = w2 at *
  go_loopw [5] (fun i wr => ∃ q : Nat, q ≤ 2 ∧ i = .int .i64 (q : Int) ∧ MB wr w1.heap.size m (.slice ao m.d.length cp) ∧ RdD wr (.slice ao m.d.length cp) m.d ∧ Below w.heap.size w wr) (fun i _ => 2 - (intOf i).toNat)
  case atStart => exact ⟨0, by omega, rfl, hx2, hr2, hB2⟩
  case round =>
    obtain ⟨q, hq, rfl, hx, hr, hB⟩ := hrel
    clear hx2 hr2 hB2
    by_cases hlt : q < 2
    · have hlt' : (q : Int) < 2 := by omega
      go_wp2_with fail
      refine (hD wr).mono ?_
      rintro e w3 ⟨u3, rfl, ho3, hb3⟩
      obtain ⟨a3, c3, rfl⟩ := own_form ho3
      have hb4 : Below w3.heap.size w3 (w3.alloc (.cells #[.int .i64 m.k, .int .i64 m.b, .int .i64 m.c, .int .i64 m.s, .int .i64 m.r, .int .i64 m.y, .slice a3 m.d.length c3] 24)) := (Below.refl _ w3).alloc (Nat.le_refl _) _
      have hy4 : MB _ _ m (.slice a3 m.d.length c3) := heap_alloc_new w3 (.cells #[.int .i64 m.k, .int .i64 m.b, .int .i64 m.c, .int .i64 m.s, .int .i64 m.r, .int .i64 m.y, .slice a3 m.d.length c3] 24)
      have ho4 := own_belowG ho3 hb4
      have hB34 := chain hb3 hb4
      have hx4 := hx.below hB34
      have hr4 := hr.below hB34
      have hS1 := hS _ _ _ (rdd_own ho4) hr4
      obtain ⟨k0, k1, k2, k3, k4, k5, k6⟩ := hx4.cells
      have hs3 := hb3.size
      clear hb3 hb4 ho3
      go_wp2_with fail
      generalize w3.alloc _ = w4 at *
      refine hS1.mono ?_
      clear hS1 k0 k1 k2 k3 k4 k5 k6 hx4 hr4
      rintro e w5 ⟨rfl, hb5⟩
      have hB5 := chain hB34 hb5
      have hy5 := hy4.below hb5
      have ho5 := own_belowG ho4 hb5
      clear hB34 hb5 hy4 ho4
      have rw5 := rwn_own ho5
      clear ho5
      go_wp2_with fail
      obtain ⟨wo, ho⟩ : ∃ x, x = wr := ⟨_, rfl⟩
      rw [← ho] at hB5 rw5 hx hr hB hs3
      clear ho
      go_loopw [8] (fun i wr => ∃ j : Nat, j ≤ m.d.length ∧ i = .int .i64 (j : Int) ∧ MB wr w3.heap.size m (.slice a3 m.d.length c3) ∧ RwN wr wo.heap.size a3 c3 m.d.length ∧ Below wo.heap.size wo wr) (fun i _ => m.d.length - (intOf i).toNat)
      case atStart => exact ⟨0, Nat.zero_le _, rfl, hy5, rw5, hB5⟩
      case round =>
        obtain ⟨j, hj, rfl, hy, rw6, hB6⟩ := hrel
        clear hy5 rw5 hB5
        have cy := hy.cells.2.2.2.2.2.2
        by_cases hjn : j < m.d.length
        · have hjn' : (j : Int) < (m.d.length : Int) := by omega
          rcases rw6 with h0 | ⟨g, cur, rfl, hg, hh, hsz, hnc⟩
          · omega
          have hne : w3.heap.size ≠ g := fun e => by
            rw [← e] at hh
            have h1 : MB wr w3.heap.size m _ := hy
            unfold MB at h1
            rw [h1] at hh
            cases hh
          have hlo := hB6.size
          obtain ⟨z0, ⟨x0, s0⟩, z1, ⟨x1, s1⟩, z2, ⟨x2, s2⟩, hF⟩ := op_store (j := j) hh (by omega)
          obtain ⟨cur', hs', hh'⟩ := hF (.int .i64 9) (.int .i64 0) (.string ⟨#[]⟩)
          have R1 : MB (((wr.setCell ⟨g, j * 3, none⟩ (.int .i64 9)).setCell ⟨g, j * 3 + 1, none⟩ (.int .i64 0)).setCell ⟨g, j * 3 + 2, none⟩ (.string ⟨#[]⟩)) w3.heap.size m (.slice (some ⟨g, 0, none⟩) m.d.length c3) := by
            unfold MB
            rw [Below.heap_setCell _ ⟨g, j * 3 + 2, none⟩ _ _ hne, Below.heap_setCell _ ⟨g, j * 3 + 1, none⟩ _ _ hne, Below.heap_setCell _ ⟨g, j * 3, none⟩ _ _ hne]
            exact hy
          have R2 : Below wo.heap.size wo (((wr.setCell ⟨g, j * 3, none⟩ (.int .i64 9)).setCell ⟨g, j * 3 + 1, none⟩ (.int .i64 0)).setCell ⟨g, j * 3 + 2, none⟩ (.string ⟨#[]⟩)) := by
            have b1 := below_set (j := j * 3) (x := .int .i64 9) hB6 hg hlo
            have b2 := below_set (j := j * 3 + 1) (x := .int .i64 0) b1 hg b1.size
            exact below_set b2 hg b2.size
          have R3 : RwN (((wr.setCell ⟨g, j * 3, none⟩ (.int .i64 9)).setCell ⟨g, j * 3 + 1, none⟩ (.int .i64 0)).setCell ⟨g, j * 3 + 2, none⟩ (.string ⟨#[]⟩)) wo.heap.size (some ⟨g, 0, none⟩) c3 m.d.length := .inr ⟨g, cur', rfl, hg, hh', by omega, hnc⟩
          clear hF hh' hh hs' hsz hx hr hB hB6 hD hS hy
          go_wp2_with fail
          exact ⟨⟨j + 1, by omega, by go_num, R1, R3, R2⟩, by simp only [intOf]; omega⟩
        · obtain rfl : j = m.d.length := by omega
          have hx7 := hx.below hB6
          have hr7 := hr.below hB6
          have hB7 := hB.trans (hB6.mono hB.size)
          clear rw6 hB6 hx hr hB hS hD
          go_wp2_with fail
          exact ⟨⟨q + 1, by omega, by go_num, hx7, hr7, hB7⟩, by simp only [intOf]; omega⟩
    · clear hD hS hx hr
      go_wp2_with fail
      refine (live16_any wr).mono ?_
      rintro e w6 ⟨rfl, hb6⟩
      go_wp2_with fail
      go_ret
      exact ⟨rfl, hB.trans (hb6.mono hB.size)⟩
end Go.Proofs.Ytgceileakcjmdaa
