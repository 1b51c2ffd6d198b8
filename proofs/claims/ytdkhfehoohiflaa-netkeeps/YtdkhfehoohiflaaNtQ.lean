/-
  The contracts of same and written.
-/
import Derived.Test.YtdkhfehoohiflaaNtP
namespace Go.Proofs.Ytdkhfehoohiflaa.nt
open Go.Maps Go.WideShapes Go.RowKit Go.ChangeShapes Go.ChangeAt Go.PlainAid

set_option maxRecDepth 20000 in
set_option maxHeartbeats 1000000 in
theorem same_true (va vb : Value) (l : List LtD) (w : World) (hm : l.length ≤ 1152921504606846976) (ha : RdL w va l) (hb : RdL w vb l) :
    Calls Try.prog 19 #[va, vb] w fun e w' => e = .returned (.bool true) ∧ Below w.heap.size w w' := by
  obtain ⟨ao, ac, rfl, hac⟩ := ha
  obtain ⟨bo, bc, rfl, hbc⟩ := hb
  go_enter Try.func19, Try.ntmps19
  go_wp2
  go_loopw [5] (fun i wr => ∃ k : Nat, k ≤ l.length ∧ i = .int .i64 (k : Int) ∧ Below w.heap.size w wr) (fun i _ => l.length - (Go.RowKit.intOf i).toNat)
  case atStart => exact ⟨0, by omega, rfl, Below.refl _ _⟩
  case round =>
    obtain ⟨k, hk, rfl, hbl⟩ := hrel
    by_cases hlt : k < l.length
    · have hlt' : (k : Int) < (l.length : Int) := by omega
      obtain ⟨b1, o1, rfl, hb1, c0, c1⟩ := hac k l[k] (by simp [hlt])
      obtain ⟨b2, o2, rfl, hb2, d0, d1⟩ := hbc k l[k] (by simp [hlt])
      have hB1 : ∀ o, wr.cell? ⟨b1, o, none⟩ = w.cell? ⟨b1, o, none⟩ := fun o => hbl.cell (p := ⟨b1, o, none⟩) hb1
      have hB2 : ∀ o, wr.cell? ⟨b2, o, none⟩ = w.cell? ⟨b2, o, none⟩ := fun o => hbl.cell (p := ⟨b2, o, none⟩) hb2
      rw [← hB1] at c0 c1
      rw [← hB2] at d0 d1
      clear hB1 hB2 hac hbc
      generalize l[k] = o at *
      go_wp2_with fail
      go_region
      go_wp2_with fail
      exact ⟨⟨k + 1, by omega, by go_num, Below.drew hbl⟩, by simp [Go.RowKit.intOf]; omega⟩
    · obtain rfl : k = l.length := by omega
      clear hac hbc
      go_wp2_with fail
      go_ret
      exact ⟨rfl, hbl⟩

theorem own_put {W : World} {B e g n cap k : Nat} {xs : List Value} (h : W.ownsRow B e 2 (.slice (some ⟨g, 0, none⟩) n cap) n xs) (x y : Value) :
    ∃ ys, ((W.setCell ⟨g, k * 2, none⟩ x).setCell ⟨g, k * 2 + 1, none⟩ y).ownsRow B e 2 (.slice (some ⟨g, 0, none⟩) n cap) n ys := by
  rcases h.2 with ⟨hv, _⟩ | ⟨g', cap', cur, hv, hb, hg, hn, hc, hs, ht⟩
  · cases hv
  · injection hv with h1 _ h3
    injection h1 with h1
    injection h1 with h1
    subst h1
    subst h3
    refine ⟨((cur.setIfInBounds (k * 2) x).setIfInBounds (k * 2 + 1) y).toList.take (n * 2), ?_, .inr ⟨g, cap, _, rfl, hb, heap_setCell (heap_setCell hg (k * 2) x) (k * 2 + 1) y, hn, hc, by simp [hs], rfl⟩⟩
    rw [List.length_take, Array.length_toList]
    simp [hs]
    omega
theorem own_cells {W : World} {B e g n cap k : Nat} {xs : List Value} (h : W.ownsRow B e 2 (.slice (some ⟨g, 0, none⟩) n cap) n xs) (hk : k < n) :
    (∃ v, W.cell? ⟨g, k * 2, none⟩ = some v) ∧ (∃ v, W.cell? ⟨g, k * 2 + 1, none⟩ = some v) ∧ W.frozen? ⟨g, k * 2, none⟩ = false ∧ W.frozen? ⟨g, k * 2 + 1, none⟩ = false ∧ B ≤ g := by
  rcases h.2 with ⟨hv, _⟩ | ⟨g', cap', cur, hv, hb, hg, hn, hc, hs, ht⟩
  · cases hv
  · injection hv with h1 _ h3
    injection h1 with h1
    injection h1 with h1
    subst h1
    have c0 := cell_of_row W g (k * 2) cur e (0, 0) hg
    have c1 := cell_of_row W g (k * 2 + 1) cur e (0, 0) hg
    refine ⟨⟨cur[k * 2]'(by omega), by rw [c0]; simp [show k * 2 < cur.size by omega]⟩, ⟨cur[k * 2 + 1]'(by omega), by rw [c1]; simp [show k * 2 + 1 < cur.size by omega]⟩, by simp [World.frozen?, hg], by simp [World.frozen?, hg], hb⟩

set_option maxRecDepth 20000 in
set_option maxHeartbeats 1000000 in
theorem written_any (B n : Nat) (u : Value) (xs : List Value) (w : World) (hr : w.ownsRow B 37 2 u n xs) (hB : B ≤ w.heap.size) (hn : n ≤ 3000) :
    Calls Try.prog 22 #[u] w fun e w' => e = .returned (.tuple #[]) ∧ Below B w w' := by
  obtain ⟨iL, hi, hz0, hz1, hz2⟩ := info_parts Try.infoLt
  obtain ⟨ao, cp, rfl⟩ := own_form hr
  go_enter Try.func22, Try.ntmps22
  go_wp2_with fail
  go_loopw [2] (fun i wr => ∃ (k : Nat) (ys : List Value), k ≤ n ∧ i = .int .i64 (k : Int) ∧ wr.ownsRow B 37 2 (.slice ao n cp) n ys ∧ Below B w wr) (fun i _ => n - (Go.RowKit.intOf i).toNat)
  case atStart => exact ⟨0, xs, Nat.zero_le _, rfl, hr, Below.refl _ _⟩
  case round =>
    obtain ⟨k, ys, hk, rfl, ho, hb⟩ := hrel
    clear hr
    by_cases hlt : k < n
    · have hlt' : (k : Int) < (n : Int) := by omega
      obtain ⟨g, cap, e, _, _⟩ := ho.form (by omega)
      injection e with e1 _ e3
      subst e1
      subst e3
      obtain ⟨⟨v0, c0⟩, ⟨v1, c1⟩, z0, z1, hg⟩ := own_cells ho hlt
      obtain ⟨zs, hz⟩ := own_put (k := k) ho (.int .i64 7) (.string ⟨#[119, 114, 105, 116, 116, 101, 110]⟩)
      have hb2 : Below B w ((wr.setCell ⟨g, k * 2, none⟩ (.int .i64 7)).setCell ⟨g, k * 2 + 1, none⟩ (.string ⟨#[119, 114, 105, 116, 116, 101, 110]⟩)) := below_set (below_set hb hg) hg
      clear ho hb
      go_wp2_with fail
      exact ⟨⟨k + 1, zs, by omega, by go_num, hz, hb2⟩, by simp [Go.RowKit.intOf]; omega⟩
    · obtain rfl : k = n := by omega
      have hBr : B ≤ wr.heap.size := by have := hb.size; omega
      have ho1 := World.ownsRow.alloc ho (.cells #[.int .i64 0, .string ⟨#[]⟩] 37)
      have hb1 := hb.alloc hBr (.cells #[.int .i64 0, .string ⟨#[]⟩] 37)
      go_wp2_with (with_reducible refine at_append _ _ _ rfl ?_; refine wpList_append_lies _ rfl _ _ _ rfl B 37 iL (.agg #[.int .i64 0, .string ⟨#[]⟩]) 2 24 Try.underlying31 hi hz0 hz1 hz2 rfl (by decide) (.slice ao k cp) k ys rfl ho1 ⟨wr.heap.size, 0, none⟩ 1 1 [.int .i64 0, .string ⟨#[]⟩] rfl rfl (World.news_of_block (heap_alloc_new wr _)) (by simp [Value.oneCell']) (by decide) (by unfold maxLen; omega) (by omega) (by simp; omega) (wr.heap.size + 1) (by simp) ?_; intro g cap w7 hown hgr hg hlt7; have hb7 := hb1.grown hgr (by simp; omega) (fun j hj => (ho1.lt j hj).1); obtain ⟨⟨v0, c0⟩, -, z0, -, hgB⟩ := own_cells hown (show k < k + 1 by omega))
      go_end0
      exact ⟨rfl, below_set hb7 hgB⟩
end Go.Proofs.Ytdkhfehoohiflaa.nt
