/-
  live.
-/
import Derived.Test.YtcdnlkhjlgaaoaaGreatDoorClP
namespace Go.Proofs.YtcdnlkhjlgaaoaaGreatDoor
open Go.ChangeShapes Go.WideShapes Go.ChangeAt Go.RowKit Go.PlainAid

/-- A box that one operation (s) writes, behind another (l) that reads it. -/
structure BxS (s l : Nat) (w : World) (g B : Nat) (E E' : EdD) (v : Value) (us : List Value) (L : Nat → Bool) (W : World) : Prop where
  bel : Below w.heap.size w W
  lt : g < W.heap.size
  own : OwEd W B v E.p us
  old : L s = false → EB W g E v
  new : L s = true → L l = true ∧ ∃ a k us', EB W g E' (.slice a 1 k) ∧ OwEd W B (.slice a 1 k) E'.p us'
theorem BxS.old0 {s l : Nat} {w : World} {g B : Nat} {E E' : EdD} {v : Value} {us : List Value} {L : Nat → Bool} {W : World} (h : BxS s l w g B E E' v us L W) (hl : L l = false) : EB W g E v := by
  cases hs : L s with
  | false => exact h.old hs
  | true => have := (h.new hs).1; rw [hl] at this; cases this
theorem BxS.step {s l : Nat} {w : World} {g B : Nat} {E E' : EdD} {v : Value} {us : List Value} {L : Nat → Bool} {W W' : World} {i : Nat} (h : BxS s l w g B E E' v us L W) (hi : s ≠ i) (hb : Below W.heap.size W W') : BxS s l w g B E E' v us (fun j => if j = i then true else L j) W' := by
  refine ⟨chain h.bel hb, Nat.lt_of_lt_of_le h.lt hb.size, h.own.below hb, fun hs => ?_, fun hs => ?_⟩
  · rw [if_neg hi] at hs
    exact (h.old hs).below hb
  · rw [if_neg hi] at hs
    obtain ⟨h1, a, k, us', h2, h3⟩ := h.new hs
    exact ⟨by split <;> first | rfl | exact h1, a, k, us', h2.below hb, h3.below hb⟩
theorem gb_put (g : Nat) (W : World) (E : EdD) (v : Value) : W.grownBy ((((((W.setCell ⟨g, 0, none⟩ (.int .i64 E.c)).setCell ⟨g, 1, none⟩ (.int .i64 E.b)).setCell ⟨g, 2, none⟩ (.int .i64 E.r)).setCell ⟨g, 3, none⟩ (.string E.t)).setCell ⟨g, 4, none⟩ (.int .i64 E.s)).setCell ⟨g, 5, none⟩ v) (some g) :=
  gb_trans (gb_trans (gb_trans (gb_trans (gb_trans (grown_set _ _ _ _) (grown_set _ _ _ _)) (grown_set _ _ _ _)) (grown_set _ _ _ _)) (grown_set _ _ _ _)) (grown_set _ _ _ _)
theorem BxS.sto {s l : Nat} {w : World} {g B : Nat} {E E' : EdD} {v : Value} {us : List Value} {L : Nat → Bool} {W : World} {a : Option Addr} {k : Nat} {us' : List Value} (h : BxS s l w g B E E' v us L W) (hl : L l = true) (hs : L s = false) (ho : OwEd W B (.slice a 1 k) E'.p us') (hgB : g < B) (hwg : w.heap.size ≤ g) :
    BxS s l w g B E E' v us (fun j => if j = s then true else L j) ((((((W.setCell ⟨g, 0, none⟩ (.int .i64 E'.c)).setCell ⟨g, 1, none⟩ (.int .i64 E'.b)).setCell ⟨g, 2, none⟩ (.int .i64 E'.r)).setCell ⟨g, 3, none⟩ (.string E'.t)).setCell ⟨g, 4, none⟩ (.int .i64 E'.s)).setCell ⟨g, 5, none⟩ (.slice a 1 k)) := by
  have hg := gb_put g W E' (.slice a 1 k)
  refine ⟨below_putE h.bel hwg E' _, Nat.lt_of_lt_of_le h.lt hg.size, h.own.keptB hg hgB, fun e => ?_, fun _ => ⟨?_, a, k, us', (h.old hs).put E' _, ho.keptB hg hgB⟩⟩
  · rw [if_pos rfl] at e; cases e
  · split
    · rfl
    · exact hl
def ph2 (g B : Nat) : Nat → Value → World → Prop
  | 0, v, _ => v = (.agg #[.int .i64 1, .int .i64 1, .int .i64 0, .string ⟨#[97, 98, 99]⟩, .int .i64 0, .slice none 0 0])
  | 1, v, _ => v = (.agg #[.int .i64 1, .int .i64 1, .string ⟨#[]⟩])
  | 2, v, _ => v = (.agg #[.int .i64 2, .int .i64 0, .string ⟨#[49]⟩])
  | 3, v, _ => v = (.agg #[.int .i64 1, .int .i64 2, .string ⟨#[]⟩])
  | 4, v, W => ∃ k, v = .slice (some ⟨k, 0, none⟩) 3 3 ∧ W.heap[k]? = some (.cells #[.int .i64 1, .int .i64 1, .string ⟨#[]⟩, .int .i64 2, .int .i64 0, .string ⟨#[49]⟩, .int .i64 1, .int .i64 2, .string ⟨#[]⟩] 59) ∧ k ≠ g
  | 5, v, W => ∃ a k us, v = .tuple #[.agg #[.int .i64 1, .int .i64 1, .int .i64 0, .string ⟨#[97, 49, 98, 99]⟩, .int .i64 1, .slice a 1 k], .int .i64 0] ∧ OwEd W B (.slice a 1 k) E1L.p us
  | 6, v, W => ∃ a k us, v = .tuple #[.agg #[.int .i64 1, .int .i64 1, .int .i64 0, .string ⟨#[97, 49, 98, 99]⟩, .int .i64 1, .slice a 1 k], .int .i64 0] ∧ OwEd W B (.slice a 1 k) E1L.p us
  | 7, v, W => ∃ a k us, v = .agg #[.int .i64 1, .int .i64 1, .int .i64 0, .string ⟨#[97, 49, 98, 99]⟩, .int .i64 1, .slice a 1 k] ∧ OwEd W B (.slice a 1 k) E1L.p us
  | 8, v, _ => v = .int .i64 0
  | 9, _, _ => True
  | 10, v, _ => v = .int .i64 0
  | _, _, _ => True
theorem ph2_stays {g B : Nat} (hgB : g < B) (i : Nat) (v : Value) (w w' : World) (h : ph2 g B i v w) (hg : w.grownBy w' (some g)) : ph2 g B i v w' := by
  unfold ph2 at h ⊢
  split at h
  all_goals first
    | exact h
    | (obtain ⟨k, e, hk, hn⟩ := h; exact ⟨k, e, blk_kept hk hg hn, hn⟩)
    | (obtain ⟨a, k, us, e, ho⟩ := h; exact ⟨a, k, us, e, ho.keptB hg hgB⟩)
    | trivial
def ph3 (g B : Nat) (a1 : Option Addr) (k1 : Nat) : Nat → Value → World → Prop
  | 0, v, _ => v = (.agg #[.int .i64 1, .int .i64 1, .int .i64 0, .string ⟨#[97, 49, 98, 99]⟩, .int .i64 1, .slice a1 1 k1])
  | 1, v, _ => v = (.agg #[.int .i64 1, .int .i64 1, .string ⟨#[]⟩])
  | 2, v, _ => v = (.agg #[.int .i64 2, .int .i64 0, .string ⟨#[50]⟩])
  | 3, v, _ => v = (.agg #[.int .i64 1, .int .i64 2, .string ⟨#[]⟩])
  | 4, v, W => ∃ k, v = .slice (some ⟨k, 0, none⟩) 3 3 ∧ W.heap[k]? = some (.cells #[.int .i64 1, .int .i64 1, .string ⟨#[]⟩, .int .i64 2, .int .i64 0, .string ⟨#[50]⟩, .int .i64 1, .int .i64 2, .string ⟨#[]⟩] 59) ∧ k ≠ g
  | 5, v, W => ∃ k, v = .agg #[.int .i64 3, .int .i64 1, .int .i64 1, .int .i64 1, .int .i64 1, .int .i64 2, .slice (some ⟨k, 0, none⟩) 3 3] ∧ W.heap[k]? = some (.cells #[.int .i64 1, .int .i64 1, .string ⟨#[]⟩, .int .i64 2, .int .i64 0, .string ⟨#[50]⟩, .int .i64 1, .int .i64 2, .string ⟨#[]⟩] 59) ∧ k ≠ g
  | 6, v, W => ∃ a k us, v = .tuple #[.agg #[.int .i64 1, .int .i64 1, .int .i64 1, .string ⟨#[97, 50, 49, 98, 99]⟩, .int .i64 1, .slice a 1 k], .int .i64 0] ∧ OwEd W B (.slice a 1 k) E2L.p us
  | 7, v, W => ∃ a k us, v = .tuple #[.agg #[.int .i64 1, .int .i64 1, .int .i64 1, .string ⟨#[97, 50, 49, 98, 99]⟩, .int .i64 1, .slice a 1 k], .int .i64 0] ∧ OwEd W B (.slice a 1 k) E2L.p us
  | 8, v, W => ∃ a k us, v = .agg #[.int .i64 1, .int .i64 1, .int .i64 1, .string ⟨#[97, 50, 49, 98, 99]⟩, .int .i64 1, .slice a 1 k] ∧ OwEd W B (.slice a 1 k) E2L.p us
  | 9, v, _ => v = .int .i64 0
  | 10, _, _ => True
  | 11, v, _ => v = .int .i64 0
  | _, _, _ => True
theorem ph3_stays {g B : Nat} {a1 : Option Addr} {k1 : Nat} (hgB : g < B) (i : Nat) (v : Value) (w w' : World) (h : ph3 g B a1 k1 i v w) (hg : w.grownBy w' (some g)) : ph3 g B a1 k1 i v w' := by
  unfold ph3 at h ⊢
  split at h
  all_goals first
    | exact h
    | (obtain ⟨k, e, hk, hn⟩ := h; exact ⟨k, e, blk_kept hk hg hn, hn⟩)
    | (obtain ⟨a, k, us, e, ho⟩ := h; exact ⟨a, k, us, e, ho.keptB hg hgB⟩)
    | trivial
def ph4 (g q o k ku : Nat) (au : Option Addr) : Nat → Value → World → Prop
  | 0, v, _ => v = (.int .i64 0)
  | 1, v, _ => v = (.bool true)
  | 2, v, _ => v = (.bool true)
  | 3, v, _ => v = (.int .i64 0)
  | 4, v, _ => v = (.bool true)
  | 5, v, _ => v = (.bool true)
  | 6, v, _ => v = (.bool true)
  | 7, v, _ => v = (.int .i64 0)
  | 8, v, _ => v = (.bool true)
  | 9, v, _ => v = (.bool true)
  | 10, v, _ => v = (.bool true)
  | 11, v, _ => v = (.pointer (some ⟨g, 3, none⟩))
  | 12, v, _ => v = (.string ⟨#[97, 50, 49, 98, 99]⟩)
  | 13, v, _ => v = (.bool true)
  | 14, v, _ => v = (.bool true)
  | 15, v, _ => v = (.bool true)
  | 16, v, _ => v = (.pointer (some ⟨g, 5, none⟩))
  | 17, v, _ => v = (.slice (some ⟨q, o, none⟩) 1 k)
  | 18, v, _ => v = (.int .i64 1)
  | 19, v, _ => v = (.bool true)
  | 20, v, _ => v = (.bool true)
  | 21, v, _ => v = (.bool true)
  | 22, v, _ => v = (.pointer (some ⟨g, 5, none⟩))
  | 23, v, _ => v = (.slice (some ⟨q, o, none⟩) 1 k)
  | 24, v, _ => v = (.pointer (some ⟨q, o, none⟩))
  | 25, v, _ => v = (.pointer (some ⟨q, o + 1, none⟩))
  | 26, v, _ => v = (.slice au 3 ku)
  | 27, v, _ => v = (.agg #[.int .i64 1, .int .i64 2, .string ⟨#[]⟩])
  | 28, v, _ => v = (.agg #[.int .i64 2, .int .i64 0, .string ⟨#[49]⟩])
  | 29, v, _ => v = (.agg #[.int .i64 1, .int .i64 2, .string ⟨#[]⟩])
  | 30, v, W => ∃ k, v = .slice (some ⟨k, 0, none⟩) 3 3 ∧ W.heap[k]? = some (.cells #[.int .i64 1, .int .i64 2, .string ⟨#[]⟩, .int .i64 2, .int .i64 0, .string ⟨#[49]⟩, .int .i64 1, .int .i64 2, .string ⟨#[]⟩] 59)
  | 31, v, _ => v = (.bool true)
  | 32, v, _ => v = (.bool true)
  | 33, v, _ => v = (.bool true)
  | 34, v, _ => v = (.agg #[.int .i64 1, .int .i64 1, .int .i64 1, .string ⟨#[97, 50, 49, 98, 99]⟩, .int .i64 1, (.slice (some ⟨q, o, none⟩) 1 k)])
  | 35, v, _ => ∃ a k, v = .slice a 2 k
  | 36, v, _ => v = (.int .i64 2)
  | 37, v, _ => v = (.bool true)
  | 38, v, _ => v = (.bool true)
  | 39, v, _ => v = (.bool true)
  | _, _, _ => True
theorem ph4_stays {g q o k ku : Nat} {au : Option Addr} (i : Nat) (v : Value) (w w' : World) (h : ph4 g q o k ku au i v w) (hg : Below w.heap.size w w') : ph4 g q o k ku au i v w' := by
  unfold ph4 at h ⊢
  split at h
  all_goals first
    | exact h
    | (obtain ⟨k, e, hk⟩ := h; exact ⟨k, e, (hg.block k (EB.lt' hk)).trans hk⟩)
    | trivial
set_option maxRecDepth 20000 in
set_option maxHeartbeats 4000000 in
theorem live20_any (w : World) (hV : VS w) : Calls Tryz.prog 10 #[] w fun e w' => e = .returned (.bool true) ∧ Below w.heap.size w w' := by
  have cB := begin_any 1 1 0 ⟨#[97, 98, 99]⟩ w hV (by decide)
  rw [l_beg] at cB
  go_enter Tryz.func10, Tryz.ntmps10
  go_wp2_with fail
  refine cB.mono ?_
  rintro e w1 ⟨rfl, hb1⟩
  have hE1 := eb_new w1 E0L (.slice none 0 0)
  have hB2 := chain hb1 (alloc_b w1 (.cells (E0L.fs (.slice none 0 0)) 24))
  clear cB
  simp only [EdD.fs, E0L] at hE1 hB2 ⊢
  go_upto_region 2 with fail
  generalize hw2 : w1.alloc (.cells #[.int .i64 1, .int .i64 1, .int .i64 0, .string ⟨#[97, 98, 99]⟩, .int .i64 0, .slice none 0 0] 24) = w2 at *
  have hgl : w1.heap.size < w2.heap.size := hE1.lt
  have hwg := hb1.size
  clear hw2 hb1
  generalize w1.heap.size = g at *
  go_cut [3] (fun x wx => x = .int .i64 0 ∧ (∃ a k us, EB wx g E1L (.slice a 1 k) ∧ OwEd wx w2.heap.size (.slice a 1 k) E1L.p us) ∧ w2.heap.size ≤ wx.heap.size ∧ Below w.heap.size w wx)
  case first =>
    refine mono.region_monoS (fun W W' => World.grownBy W W' (some g)) (gb_refl g) (fun _ _ _ => gb_trans) (ph2 g w2.heap.size) (BxS 9 0 w g w2.heap.size E0L E1L (.slice none 0 0) []) 67 [] [0, 1, 2, 3, 4, 5, 6, 7, 8, 9, 10] (by kernel_rfl) rfl rfl (by kernel_rfl) [] (by kernel_rfl) (by simp) (ph2_stays hgl) (⟨hB2.drew, hgl, OwEd.nil _ _, fun _ => hE1, fun e => by cases e⟩) (.cons ?_ (.cons ?_ (.cons ?_ (.cons ?_ (.cons ?_ (.cons ?_ (.cons ?_ (.cons ?_ (.cons ?_ (.cons ?_ (.cons ?_ (.nil)))))))))))) ?_
    · refine mono.dutyS_of rfl ?_
      intro f W L hR hO hD hL hi hX K hK
      have eL : mono.lit 67 f [] = ⟨#[f 0, f 1, f 2, f 3, f 4, f 5, f 6, f 7, f 8, f 9, f 10, f 11, f 12, f 13, f 14, f 15, f 16, f 17, f 18, f 19, f 20, f 21, f 22, f 23, f 24, f 25, f 26, f 27, f 28, f 29, f 30, f 31, f 32, f 33, f 34, f 35, f 36, f 37, f 38, f 39, f 40, f 41, f 42, f 43, f 44, f 45, f 46, f 47, f 48, f 49, f 50, f 51, f 52, f 53, f 54, f 55, f 56, f 57, f 58, f 59, f 60, f 61, f 62, f 63, f 64, f 65, f 66], []⟩ := rfl
      replace hK : ∀ v W', (fun W W' => World.grownBy W W' (some g)) W W' → ph2 g w2.heap.size 0 v W' → BxS 9 0 w g w2.heap.size E0L E1L (.slice none 0 0) [] (fun j => if j = 0 then true else L j) W' → K ((mono.lit 67 f []).put (some 10) v) W' := hK
      rw [eL] at hK ⊢
      simp only [Act.put, List.setIfInBounds_toArray, List.set_cons_succ, List.set_cons_zero] at hK
      have o1 : f 1 = .pointer (some ⟨g, 0, none⟩) := hO 1 (by kernel_rfl)
      rw [o1] at hK ⊢
      have hEB := hX.old0 hi
      obtain ⟨x0, x1, x2, x3, x4, x5⟩ := cellsEB hEB
      simp only [E0L] at x0 x1 x2 x3 x4 x5
      go_simp
      exact hK _ _ (gb_refl _ _) rfl (hX.step (by decide) (Below.refl _ _))
    · refine mono.dutyS_of rfl ?_
      intro f W L hR hO hD hL hi hX K hK
      have eL : mono.lit 67 f [] = ⟨#[f 0, f 1, f 2, f 3, f 4, f 5, f 6, f 7, f 8, f 9, f 10, f 11, f 12, f 13, f 14, f 15, f 16, f 17, f 18, f 19, f 20, f 21, f 22, f 23, f 24, f 25, f 26, f 27, f 28, f 29, f 30, f 31, f 32, f 33, f 34, f 35, f 36, f 37, f 38, f 39, f 40, f 41, f 42, f 43, f 44, f 45, f 46, f 47, f 48, f 49, f 50, f 51, f 52, f 53, f 54, f 55, f 56, f 57, f 58, f 59, f 60, f 61, f 62, f 63, f 64, f 65, f 66], []⟩ := rfl
      replace hK : ∀ v W', (fun W W' => World.grownBy W W' (some g)) W W' → ph2 g w2.heap.size 1 v W' → BxS 9 0 w g w2.heap.size E0L E1L (.slice none 0 0) [] (fun j => if j = 1 then true else L j) W' → K ((mono.lit 67 f []).put (some 11) v) W' := hK
      rw [eL] at hK ⊢
      simp only [Act.put, List.setIfInBounds_toArray, List.set_cons_succ, List.set_cons_zero] at hK
      have cX := lkeep20 1 W
      go_simp
      refine cX.mono ?_
      rintro e w9 ⟨rfl, hb⟩
      exact hK _ _ (gb_below hb) rfl (hX.step (by decide) hb)
    · refine mono.dutyS_of rfl ?_
      intro f W L hR hO hD hL hi hX K hK
      have eL : mono.lit 67 f [] = ⟨#[f 0, f 1, f 2, f 3, f 4, f 5, f 6, f 7, f 8, f 9, f 10, f 11, f 12, f 13, f 14, f 15, f 16, f 17, f 18, f 19, f 20, f 21, f 22, f 23, f 24, f 25, f 26, f 27, f 28, f 29, f 30, f 31, f 32, f 33, f 34, f 35, f 36, f 37, f 38, f 39, f 40, f 41, f 42, f 43, f 44, f 45, f 46, f 47, f 48, f 49, f 50, f 51, f 52, f 53, f 54, f 55, f 56, f 57, f 58, f 59, f 60, f 61, f 62, f 63, f 64, f 65, f 66], []⟩ := rfl
      replace hK : ∀ v W', (fun W W' => World.grownBy W W' (some g)) W W' → ph2 g w2.heap.size 2 v W' → BxS 9 0 w g w2.heap.size E0L E1L (.slice none 0 0) [] (fun j => if j = 2 then true else L j) W' → K ((mono.lit 67 f []).put (some 12) v) W' := hK
      rw [eL] at hK ⊢
      simp only [Act.put, List.setIfInBounds_toArray, List.set_cons_succ, List.set_cons_zero] at hK
      have cX := lins20 ⟨#[49]⟩ W
      go_simp
      refine cX.mono ?_
      rintro e w9 ⟨rfl, hb⟩
      exact hK _ _ (gb_below hb) rfl (hX.step (by decide) hb)
    · refine mono.dutyS_of rfl ?_
      intro f W L hR hO hD hL hi hX K hK
      have eL : mono.lit 67 f [] = ⟨#[f 0, f 1, f 2, f 3, f 4, f 5, f 6, f 7, f 8, f 9, f 10, f 11, f 12, f 13, f 14, f 15, f 16, f 17, f 18, f 19, f 20, f 21, f 22, f 23, f 24, f 25, f 26, f 27, f 28, f 29, f 30, f 31, f 32, f 33, f 34, f 35, f 36, f 37, f 38, f 39, f 40, f 41, f 42, f 43, f 44, f 45, f 46, f 47, f 48, f 49, f 50, f 51, f 52, f 53, f 54, f 55, f 56, f 57, f 58, f 59, f 60, f 61, f 62, f 63, f 64, f 65, f 66], []⟩ := rfl
      replace hK : ∀ v W', (fun W W' => World.grownBy W W' (some g)) W W' → ph2 g w2.heap.size 3 v W' → BxS 9 0 w g w2.heap.size E0L E1L (.slice none 0 0) [] (fun j => if j = 3 then true else L j) W' → K ((mono.lit 67 f []).put (some 13) v) W' := hK
      rw [eL] at hK ⊢
      simp only [Act.put, List.setIfInBounds_toArray, List.set_cons_succ, List.set_cons_zero] at hK
      have cX := lkeep20 2 W
      go_simp
      refine cX.mono ?_
      rintro e w9 ⟨rfl, hb⟩
      exact hK _ _ (gb_below hb) rfl (hX.step (by decide) hb)
    · refine mono.dutyS_of rfl ?_
      intro f W L hR hO hD hL hi hX K hK
      have eL : mono.lit 67 f [] = ⟨#[f 0, f 1, f 2, f 3, f 4, f 5, f 6, f 7, f 8, f 9, f 10, f 11, f 12, f 13, f 14, f 15, f 16, f 17, f 18, f 19, f 20, f 21, f 22, f 23, f 24, f 25, f 26, f 27, f 28, f 29, f 30, f 31, f 32, f 33, f 34, f 35, f 36, f 37, f 38, f 39, f 40, f 41, f 42, f 43, f 44, f 45, f 46, f 47, f 48, f 49, f 50, f 51, f 52, f 53, f 54, f 55, f 56, f 57, f 58, f 59, f 60, f 61, f 62, f 63, f 64, f 65, f 66], []⟩ := rfl
      replace hK : ∀ v W', (fun W W' => World.grownBy W W' (some g)) W W' → ph2 g w2.heap.size 4 v W' → BxS 9 0 w g w2.heap.size E0L E1L (.slice none 0 0) [] (fun j => if j = 4 then true else L j) W' → K ((mono.lit 67 f []).put (some 14) v) W' := hK
      rw [eL] at hK ⊢
      simp only [Act.put, List.setIfInBounds_toArray, List.set_cons_succ, List.set_cons_zero] at hK
      have q1 := hD 1 11 (by kernel_rfl) (by kernel_rfl)
      replace q1 : f 11 = (.agg #[.int .i64 1, .int .i64 1, .string ⟨#[]⟩]) := q1
      have q2 := hD 2 12 (by kernel_rfl) (by kernel_rfl)
      replace q2 : f 12 = (.agg #[.int .i64 2, .int .i64 0, .string ⟨#[49]⟩]) := q2
      have q3 := hD 3 13 (by kernel_rfl) (by kernel_rfl)
      replace q3 : f 13 = (.agg #[.int .i64 1, .int .i64 2, .string ⟨#[]⟩]) := q3
      rw [q1, q2, q3] at hK ⊢
      go_simp
      exact hK _ _ (gb_below (alloc_b _ _)) ⟨_, rfl, heap_alloc_new _ _, Nat.ne_of_gt hX.lt⟩ (hX.step (by decide) (alloc_b _ _))
    · refine mono.dutyS_of rfl ?_
      intro f W L hR hO hD hL hi hX K hK
      have eL : mono.lit 67 f [] = ⟨#[f 0, f 1, f 2, f 3, f 4, f 5, f 6, f 7, f 8, f 9, f 10, f 11, f 12, f 13, f 14, f 15, f 16, f 17, f 18, f 19, f 20, f 21, f 22, f 23, f 24, f 25, f 26, f 27, f 28, f 29, f 30, f 31, f 32, f 33, f 34, f 35, f 36, f 37, f 38, f 39, f 40, f 41, f 42, f 43, f 44, f 45, f 46, f 47, f 48, f 49, f 50, f 51, f 52, f 53, f 54, f 55, f 56, f 57, f 58, f 59, f 60, f 61, f 62, f 63, f 64, f 65, f 66], []⟩ := rfl
      replace hK : ∀ v W', (fun W W' => World.grownBy W W' (some g)) W W' → ph2 g w2.heap.size 5 v W' → BxS 9 0 w g w2.heap.size E0L E1L (.slice none 0 0) [] (fun j => if j = 5 then true else L j) W' → K ((mono.lit 67 f []).put (some 15) v) W' := hK
      rw [eL] at hK ⊢
      simp only [Act.put, List.setIfInBounds_toArray, List.set_cons_succ, List.set_cons_zero] at hK
      have q0 := hD 0 10 (by kernel_rfl) (by kernel_rfl)
      replace q0 : f 10 = (.agg #[.int .i64 1, .int .i64 1, .int .i64 0, .string ⟨#[97, 98, 99]⟩, .int .i64 0, .slice none 0 0]) := q0
      have q4 := hD 4 14 (by kernel_rfl) (by kernel_rfl)
      obtain ⟨k4, e4, h4, n4⟩ := q4
      rw [q0, e4] at hK ⊢
      have cX := edit_liveW W (hV.below hX.bel) (.slice (some ⟨k4, 0, none⟩) 3 3) (rdd_lit (ds := d1L) h4)
      go_simp
      refine cX.mono ?_
      rintro e w9 ⟨a, k, us, rfl, ho, hb⟩
      exact hK _ _ (gb_below hb) ⟨a, k, us, rfl, ho.lower hR.size⟩ (hX.step (by decide) hb)
    · refine mono.dutyS_of rfl ?_
      intro f W L hR hO hD hL hi hX K hK
      have eL : mono.lit 67 f [] = ⟨#[f 0, f 1, f 2, f 3, f 4, f 5, f 6, f 7, f 8, f 9, f 10, f 11, f 12, f 13, f 14, f 15, f 16, f 17, f 18, f 19, f 20, f 21, f 22, f 23, f 24, f 25, f 26, f 27, f 28, f 29, f 30, f 31, f 32, f 33, f 34, f 35, f 36, f 37, f 38, f 39, f 40, f 41, f 42, f 43, f 44, f 45, f 46, f 47, f 48, f 49, f 50, f 51, f 52, f 53, f 54, f 55, f 56, f 57, f 58, f 59, f 60, f 61, f 62, f 63, f 64, f 65, f 66], []⟩ := rfl
      replace hK : ∀ v W', (fun W W' => World.grownBy W W' (some g)) W W' → ph2 g w2.heap.size 6 v W' → BxS 9 0 w g w2.heap.size E0L E1L (.slice none 0 0) [] (fun j => if j = 6 then true else L j) W' → K ((mono.lit 67 f []).put (some 9) v) W' := hK
      rw [eL] at hK ⊢
      simp only [Act.put, List.setIfInBounds_toArray, List.set_cons_succ, List.set_cons_zero] at hK
      have q5 := hD 5 15 (by kernel_rfl) (by kernel_rfl)
      obtain ⟨a5, k5, us5, e5, o5⟩ := q5
      rw [e5] at hK ⊢
      go_simp
      exact hK _ _ (gb_refl _ _) ⟨_, _, us5, rfl, o5⟩ (hX.step (by decide) (Below.refl _ _))
    · refine mono.dutyS_of rfl ?_
      intro f W L hR hO hD hL hi hX K hK
      have eL : mono.lit 67 f [] = ⟨#[f 0, f 1, f 2, f 3, f 4, f 5, f 6, f 7, f 8, f 9, f 10, f 11, f 12, f 13, f 14, f 15, f 16, f 17, f 18, f 19, f 20, f 21, f 22, f 23, f 24, f 25, f 26, f 27, f 28, f 29, f 30, f 31, f 32, f 33, f 34, f 35, f 36, f 37, f 38, f 39, f 40, f 41, f 42, f 43, f 44, f 45, f 46, f 47, f 48, f 49, f 50, f 51, f 52, f 53, f 54, f 55, f 56, f 57, f 58, f 59, f 60, f 61, f 62, f 63, f 64, f 65, f 66], []⟩ := rfl
      replace hK : ∀ v W', (fun W W' => World.grownBy W W' (some g)) W W' → ph2 g w2.heap.size 7 v W' → BxS 9 0 w g w2.heap.size E0L E1L (.slice none 0 0) [] (fun j => if j = 7 then true else L j) W' → K ((mono.lit 67 f []).put (some 16) v) W' := hK
      rw [eL] at hK ⊢
      simp only [Act.put, List.setIfInBounds_toArray, List.set_cons_succ, List.set_cons_zero] at hK
      have q6 := hD 6 9 (by kernel_rfl) (by kernel_rfl)
      obtain ⟨a6, k6, us6, e6, o6⟩ := q6
      rw [e6] at hK ⊢
      go_simp
      exact hK _ _ (gb_refl _ _) ⟨_, _, us6, rfl, o6⟩ (hX.step (by decide) (Below.refl _ _))
    · refine mono.dutyS_of rfl ?_
      intro f W L hR hO hD hL hi hX K hK
      have eL : mono.lit 67 f [] = ⟨#[f 0, f 1, f 2, f 3, f 4, f 5, f 6, f 7, f 8, f 9, f 10, f 11, f 12, f 13, f 14, f 15, f 16, f 17, f 18, f 19, f 20, f 21, f 22, f 23, f 24, f 25, f 26, f 27, f 28, f 29, f 30, f 31, f 32, f 33, f 34, f 35, f 36, f 37, f 38, f 39, f 40, f 41, f 42, f 43, f 44, f 45, f 46, f 47, f 48, f 49, f 50, f 51, f 52, f 53, f 54, f 55, f 56, f 57, f 58, f 59, f 60, f 61, f 62, f 63, f 64, f 65, f 66], []⟩ := rfl
      replace hK : ∀ v W', (fun W W' => World.grownBy W W' (some g)) W W' → ph2 g w2.heap.size 8 v W' → BxS 9 0 w g w2.heap.size E0L E1L (.slice none 0 0) [] (fun j => if j = 8 then true else L j) W' → K ((mono.lit 67 f []).put (some 17) v) W' := hK
      rw [eL] at hK ⊢
      simp only [Act.put, List.setIfInBounds_toArray, List.set_cons_succ, List.set_cons_zero] at hK
      have q6 := hD 6 9 (by kernel_rfl) (by kernel_rfl)
      obtain ⟨a6, k6, us6, e6, o6⟩ := q6
      rw [e6] at hK ⊢
      go_simp
      exact hK _ _ (gb_refl _ _) rfl (hX.step (by decide) (Below.refl _ _))
    · refine mono.dutyS_of rfl ?_
      intro f W L hR hO hD hL hi hX K hK
      have eL : mono.lit 67 f [] = ⟨#[f 0, f 1, f 2, f 3, f 4, f 5, f 6, f 7, f 8, f 9, f 10, f 11, f 12, f 13, f 14, f 15, f 16, f 17, f 18, f 19, f 20, f 21, f 22, f 23, f 24, f 25, f 26, f 27, f 28, f 29, f 30, f 31, f 32, f 33, f 34, f 35, f 36, f 37, f 38, f 39, f 40, f 41, f 42, f 43, f 44, f 45, f 46, f 47, f 48, f 49, f 50, f 51, f 52, f 53, f 54, f 55, f 56, f 57, f 58, f 59, f 60, f 61, f 62, f 63, f 64, f 65, f 66], []⟩ := rfl
      replace hK : ∀ v W', (fun W W' => World.grownBy W W' (some g)) W W' → ph2 g w2.heap.size 9 v W' → BxS 9 0 w g w2.heap.size E0L E1L (.slice none 0 0) [] (fun j => if j = 9 then true else L j) W' → K ((mono.lit 67 f []).put none v) W' := hK
      rw [eL] at hK ⊢
      simp only [Act.put] at hK
      have o1 : f 1 = .pointer (some ⟨g, 0, none⟩) := hO 1 (by kernel_rfl)
      have q7 := hD 7 16 (by kernel_rfl) (by kernel_rfl)
      obtain ⟨a7, k7, us7, e7, o7⟩ := q7
      rw [o1, e7] at hK ⊢
      have hEB := hX.old hi
      obtain ⟨x0, x1, x2, x3, x4, x5⟩ := cellsEB hEB
      obtain ⟨f0, f1, f2, f3, f4, f5⟩ := EB.frz hEB
      go_simp
      exact hK undef _ (gb_put g W E1L _) trivial (hX.sto (hL 0 (by kernel_rfl)) hi o7 hgl hwg)
    · refine mono.dutyS_of rfl ?_
      intro f W L hR hO hD hL hi hX K hK
      have eL : mono.lit 67 f [] = ⟨#[f 0, f 1, f 2, f 3, f 4, f 5, f 6, f 7, f 8, f 9, f 10, f 11, f 12, f 13, f 14, f 15, f 16, f 17, f 18, f 19, f 20, f 21, f 22, f 23, f 24, f 25, f 26, f 27, f 28, f 29, f 30, f 31, f 32, f 33, f 34, f 35, f 36, f 37, f 38, f 39, f 40, f 41, f 42, f 43, f 44, f 45, f 46, f 47, f 48, f 49, f 50, f 51, f 52, f 53, f 54, f 55, f 56, f 57, f 58, f 59, f 60, f 61, f 62, f 63, f 64, f 65, f 66], []⟩ := rfl
      replace hK : ∀ v W', (fun W W' => World.grownBy W W' (some g)) W W' → ph2 g w2.heap.size 10 v W' → BxS 9 0 w g w2.heap.size E0L E1L (.slice none 0 0) [] (fun j => if j = 10 then true else L j) W' → K ((mono.lit 67 f []).put (some 3) v) W' := hK
      rw [eL] at hK ⊢
      simp only [Act.put, List.setIfInBounds_toArray, List.set_cons_succ, List.set_cons_zero] at hK
      have q8 := hD 8 17 (by kernel_rfl) (by kernel_rfl)
      replace q8 : f 17 = .int .i64 0 := q8
      rw [q8] at hK ⊢
      go_simp
      exact hK _ _ (gb_refl _ _) rfl (hX.step (by decide) (Below.refl _ _))
    · intro f W L hR hO hD hL hX
      have r0 := hO 0 (by kernel_rfl)
      have r1 := hO 1 (by kernel_rfl)
      have r2 := hO 2 (by kernel_rfl)
      have r3 := hD 10 3 (by kernel_rfl)
      replace r3 : f 3 = .int .i64 0 := r3
      have r4 := hO 4 (by kernel_rfl)
      have r5 := hO 5 (by kernel_rfl)
      have r6 := hO 6 (by kernel_rfl)
      have r7 := hO 7 (by kernel_rfl)
      have r8 := hO 8 (by kernel_rfl)
      have r18 := hO 18 (by kernel_rfl)
      have r19 := hO 19 (by kernel_rfl)
      have r20 := hO 20 (by kernel_rfl)
      have r21 := hO 21 (by kernel_rfl)
      have r22 := hO 22 (by kernel_rfl)
      have r23 := hO 23 (by kernel_rfl)
      have r24 := hO 24 (by kernel_rfl)
      have r25 := hO 25 (by kernel_rfl)
      have r26 := hO 26 (by kernel_rfl)
      have r27 := hO 27 (by kernel_rfl)
      have r28 := hO 28 (by kernel_rfl)
      have r29 := hO 29 (by kernel_rfl)
      have r30 := hO 30 (by kernel_rfl)
      have r31 := hO 31 (by kernel_rfl)
      have r32 := hO 32 (by kernel_rfl)
      have r33 := hO 33 (by kernel_rfl)
      have r34 := hO 34 (by kernel_rfl)
      have r35 := hO 35 (by kernel_rfl)
      have r36 := hO 36 (by kernel_rfl)
      have r37 := hO 37 (by kernel_rfl)
      have r38 := hO 38 (by kernel_rfl)
      have r39 := hO 39 (by kernel_rfl)
      have r40 := hO 40 (by kernel_rfl)
      have r41 := hO 41 (by kernel_rfl)
      have r42 := hO 42 (by kernel_rfl)
      have r43 := hO 43 (by kernel_rfl)
      have r44 := hO 44 (by kernel_rfl)
      have r45 := hO 45 (by kernel_rfl)
      have r46 := hO 46 (by kernel_rfl)
      have r47 := hO 47 (by kernel_rfl)
      have r48 := hO 48 (by kernel_rfl)
      have r49 := hO 49 (by kernel_rfl)
      have r50 := hO 50 (by kernel_rfl)
      have r51 := hO 51 (by kernel_rfl)
      have r52 := hO 52 (by kernel_rfl)
      have r53 := hO 53 (by kernel_rfl)
      have r54 := hO 54 (by kernel_rfl)
      have r55 := hO 55 (by kernel_rfl)
      have r56 := hO 56 (by kernel_rfl)
      have r57 := hO 57 (by kernel_rfl)
      have r58 := hO 58 (by kernel_rfl)
      have r59 := hO 59 (by kernel_rfl)
      have r60 := hO 60 (by kernel_rfl)
      have r61 := hO 61 (by kernel_rfl)
      have r62 := hO 62 (by kernel_rfl)
      have r63 := hO 63 (by kernel_rfl)
      have r64 := hO 64 (by kernel_rfl)
      have r65 := hO 65 (by kernel_rfl)
      have r66 := hO 66 (by kernel_rfl)
      have eL : mono.lit 67 f [] = ⟨#[f 0, f 1, f 2, f 3, f 4, f 5, f 6, f 7, f 8, f 9, f 10, f 11, f 12, f 13, f 14, f 15, f 16, f 17, f 18, f 19, f 20, f 21, f 22, f 23, f 24, f 25, f 26, f 27, f 28, f 29, f 30, f 31, f 32, f 33, f 34, f 35, f 36, f 37, f 38, f 39, f 40, f 41, f 42, f 43, f 44, f 45, f 46, f 47, f 48, f 49, f 50, f 51, f 52, f 53, f 54, f 55, f 56, f 57, f 58, f 59, f 60, f 61, f 62, f 63, f 64, f 65, f 66], []⟩ := rfl
      rw [eL, r0, r1, r2, r3, r4, r5, r6, r7, r8, r18, r19, r20, r21, r22, r23, r24, r25, r26, r27, r28, r29, r30, r31, r32, r33, r34, r35, r36, r37, r38, r39, r40, r41, r42, r43, r44, r45, r46, r47, r48, r49, r50, r51, r52, r53, r54, r55, r56, r57, r58, r59, r60, r61, r62, r63, r64, r65, r66]
      obtain ⟨-, a, k, us, h1, h2⟩ := hX.new (hL 9 (by decide))
      go_wp2_with fail
      go_meet
      exact ⟨rfl, ⟨a, k, us, h1, h2⟩, hR.size, hX.bel⟩
  case rest =>
    obtain ⟨rfl, ⟨a1, k1, us1, hE2, ho2⟩, hs2, hB3⟩ := hcut
    clear hE1 hB2
    go_upto_region 3 with fail
    go_cut [4] (fun x wx => x = .int .i64 0 ∧ (∃ a k us, EB wx g E2L (.slice a 1 k) ∧ OwEd wx w2.heap.size (.slice a 1 k) E2L.p us) ∧ Below w.heap.size w wx)
    case first =>
      refine mono.region_monoS (fun W W' => World.grownBy W W' (some g)) (gb_refl g) (fun _ _ _ => gb_trans) (ph3 g w2.heap.size a1 k1) (BxS 10 0 w g w2.heap.size E1L E2L (.slice a1 1 k1) us1) 67 [] [0, 1, 2, 3, 4, 5, 6, 7, 8, 9, 10, 11] (by kernel_rfl) rfl rfl (by kernel_rfl) [] (by kernel_rfl) (by simp) (ph3_stays hgl) (⟨hB3.drew, hE2.lt, ho2.below (Below.refl _ _).drew, fun _ => hE2, fun e => by cases e⟩) (.cons ?_ (.cons ?_ (.cons ?_ (.cons ?_ (.cons ?_ (.cons ?_ (.cons ?_ (.cons ?_ (.cons ?_ (.cons ?_ (.cons ?_ (.cons ?_ (.nil))))))))))))) ?_
      · refine mono.dutyS_of rfl ?_
        intro f W L hR hO hD hL hi hX K hK
        have eL : mono.lit 67 f [] = ⟨#[f 0, f 1, f 2, f 3, f 4, f 5, f 6, f 7, f 8, f 9, f 10, f 11, f 12, f 13, f 14, f 15, f 16, f 17, f 18, f 19, f 20, f 21, f 22, f 23, f 24, f 25, f 26, f 27, f 28, f 29, f 30, f 31, f 32, f 33, f 34, f 35, f 36, f 37, f 38, f 39, f 40, f 41, f 42, f 43, f 44, f 45, f 46, f 47, f 48, f 49, f 50, f 51, f 52, f 53, f 54, f 55, f 56, f 57, f 58, f 59, f 60, f 61, f 62, f 63, f 64, f 65, f 66], []⟩ := rfl
        replace hK : ∀ v W', (fun W W' => World.grownBy W W' (some g)) W W' → ph3 g w2.heap.size a1 k1 0 v W' → BxS 10 0 w g w2.heap.size E1L E2L (.slice a1 1 k1) us1 (fun j => if j = 0 then true else L j) W' → K ((mono.lit 67 f []).put (some 19) v) W' := hK
        rw [eL] at hK ⊢
        simp only [Act.put, List.setIfInBounds_toArray, List.set_cons_succ, List.set_cons_zero] at hK
        have o1 : f 1 = .pointer (some ⟨g, 0, none⟩) := hO 1 (by kernel_rfl)
        rw [o1] at hK ⊢
        have hEB := hX.old0 hi
        obtain ⟨x0, x1, x2, x3, x4, x5⟩ := cellsEB hEB
        simp only [E1L] at x0 x1 x2 x3 x4 x5
        go_simp
        exact hK _ _ (gb_refl _ _) rfl (hX.step (by decide) (Below.refl _ _))
      · refine mono.dutyS_of rfl ?_
        intro f W L hR hO hD hL hi hX K hK
        have eL : mono.lit 67 f [] = ⟨#[f 0, f 1, f 2, f 3, f 4, f 5, f 6, f 7, f 8, f 9, f 10, f 11, f 12, f 13, f 14, f 15, f 16, f 17, f 18, f 19, f 20, f 21, f 22, f 23, f 24, f 25, f 26, f 27, f 28, f 29, f 30, f 31, f 32, f 33, f 34, f 35, f 36, f 37, f 38, f 39, f 40, f 41, f 42, f 43, f 44, f 45, f 46, f 47, f 48, f 49, f 50, f 51, f 52, f 53, f 54, f 55, f 56, f 57, f 58, f 59, f 60, f 61, f 62, f 63, f 64, f 65, f 66], []⟩ := rfl
        replace hK : ∀ v W', (fun W W' => World.grownBy W W' (some g)) W W' → ph3 g w2.heap.size a1 k1 1 v W' → BxS 10 0 w g w2.heap.size E1L E2L (.slice a1 1 k1) us1 (fun j => if j = 1 then true else L j) W' → K ((mono.lit 67 f []).put (some 20) v) W' := hK
        rw [eL] at hK ⊢
        simp only [Act.put, List.setIfInBounds_toArray, List.set_cons_succ, List.set_cons_zero] at hK
        have cX := lkeep20 1 W
        go_simp
        refine cX.mono ?_
        rintro e w9 ⟨rfl, hb⟩
        exact hK _ _ (gb_below hb) rfl (hX.step (by decide) hb)
      · refine mono.dutyS_of rfl ?_
        intro f W L hR hO hD hL hi hX K hK
        have eL : mono.lit 67 f [] = ⟨#[f 0, f 1, f 2, f 3, f 4, f 5, f 6, f 7, f 8, f 9, f 10, f 11, f 12, f 13, f 14, f 15, f 16, f 17, f 18, f 19, f 20, f 21, f 22, f 23, f 24, f 25, f 26, f 27, f 28, f 29, f 30, f 31, f 32, f 33, f 34, f 35, f 36, f 37, f 38, f 39, f 40, f 41, f 42, f 43, f 44, f 45, f 46, f 47, f 48, f 49, f 50, f 51, f 52, f 53, f 54, f 55, f 56, f 57, f 58, f 59, f 60, f 61, f 62, f 63, f 64, f 65, f 66], []⟩ := rfl
        replace hK : ∀ v W', (fun W W' => World.grownBy W W' (some g)) W W' → ph3 g w2.heap.size a1 k1 2 v W' → BxS 10 0 w g w2.heap.size E1L E2L (.slice a1 1 k1) us1 (fun j => if j = 2 then true else L j) W' → K ((mono.lit 67 f []).put (some 21) v) W' := hK
        rw [eL] at hK ⊢
        simp only [Act.put, List.setIfInBounds_toArray, List.set_cons_succ, List.set_cons_zero] at hK
        have cX := lins20 ⟨#[50]⟩ W
        go_simp
        refine cX.mono ?_
        rintro e w9 ⟨rfl, hb⟩
        exact hK _ _ (gb_below hb) rfl (hX.step (by decide) hb)
      · refine mono.dutyS_of rfl ?_
        intro f W L hR hO hD hL hi hX K hK
        have eL : mono.lit 67 f [] = ⟨#[f 0, f 1, f 2, f 3, f 4, f 5, f 6, f 7, f 8, f 9, f 10, f 11, f 12, f 13, f 14, f 15, f 16, f 17, f 18, f 19, f 20, f 21, f 22, f 23, f 24, f 25, f 26, f 27, f 28, f 29, f 30, f 31, f 32, f 33, f 34, f 35, f 36, f 37, f 38, f 39, f 40, f 41, f 42, f 43, f 44, f 45, f 46, f 47, f 48, f 49, f 50, f 51, f 52, f 53, f 54, f 55, f 56, f 57, f 58, f 59, f 60, f 61, f 62, f 63, f 64, f 65, f 66], []⟩ := rfl
        replace hK : ∀ v W', (fun W W' => World.grownBy W W' (some g)) W W' → ph3 g w2.heap.size a1 k1 3 v W' → BxS 10 0 w g w2.heap.size E1L E2L (.slice a1 1 k1) us1 (fun j => if j = 3 then true else L j) W' → K ((mono.lit 67 f []).put (some 22) v) W' := hK
        rw [eL] at hK ⊢
        simp only [Act.put, List.setIfInBounds_toArray, List.set_cons_succ, List.set_cons_zero] at hK
        have cX := lkeep20 2 W
        go_simp
        refine cX.mono ?_
        rintro e w9 ⟨rfl, hb⟩
        exact hK _ _ (gb_below hb) rfl (hX.step (by decide) hb)
      · refine mono.dutyS_of rfl ?_
        intro f W L hR hO hD hL hi hX K hK
        have eL : mono.lit 67 f [] = ⟨#[f 0, f 1, f 2, f 3, f 4, f 5, f 6, f 7, f 8, f 9, f 10, f 11, f 12, f 13, f 14, f 15, f 16, f 17, f 18, f 19, f 20, f 21, f 22, f 23, f 24, f 25, f 26, f 27, f 28, f 29, f 30, f 31, f 32, f 33, f 34, f 35, f 36, f 37, f 38, f 39, f 40, f 41, f 42, f 43, f 44, f 45, f 46, f 47, f 48, f 49, f 50, f 51, f 52, f 53, f 54, f 55, f 56, f 57, f 58, f 59, f 60, f 61, f 62, f 63, f 64, f 65, f 66], []⟩ := rfl
        replace hK : ∀ v W', (fun W W' => World.grownBy W W' (some g)) W W' → ph3 g w2.heap.size a1 k1 4 v W' → BxS 10 0 w g w2.heap.size E1L E2L (.slice a1 1 k1) us1 (fun j => if j = 4 then true else L j) W' → K ((mono.lit 67 f []).put (some 23) v) W' := hK
        rw [eL] at hK ⊢
        simp only [Act.put, List.setIfInBounds_toArray, List.set_cons_succ, List.set_cons_zero] at hK
        have q1 := hD 1 20 (by kernel_rfl) (by kernel_rfl)
        replace q1 : f 20 = (.agg #[.int .i64 1, .int .i64 1, .string ⟨#[]⟩]) := q1
        have q2 := hD 2 21 (by kernel_rfl) (by kernel_rfl)
        replace q2 : f 21 = (.agg #[.int .i64 2, .int .i64 0, .string ⟨#[50]⟩]) := q2
        have q3 := hD 3 22 (by kernel_rfl) (by kernel_rfl)
        replace q3 : f 22 = (.agg #[.int .i64 1, .int .i64 2, .string ⟨#[]⟩]) := q3
        rw [q1, q2, q3] at hK ⊢
        go_simp
        exact hK _ _ (gb_below (alloc_b _ _)) ⟨_, rfl, heap_alloc_new _ _, Nat.ne_of_gt hX.lt⟩ (hX.step (by decide) (alloc_b _ _))
      · refine mono.dutyS_of rfl ?_
        intro f W L hR hO hD hL hi hX K hK
        have eL : mono.lit 67 f [] = ⟨#[f 0, f 1, f 2, f 3, f 4, f 5, f 6, f 7, f 8, f 9, f 10, f 11, f 12, f 13, f 14, f 15, f 16, f 17, f 18, f 19, f 20, f 21, f 22, f 23, f 24, f 25, f 26, f 27, f 28, f 29, f 30, f 31, f 32, f 33, f 34, f 35, f 36, f 37, f 38, f 39, f 40, f 41, f 42, f 43, f 44, f 45, f 46, f 47, f 48, f 49, f 50, f 51, f 52, f 53, f 54, f 55, f 56, f 57, f 58, f 59, f 60, f 61, f 62, f 63, f 64, f 65, f 66], []⟩ := rfl
        replace hK : ∀ v W', (fun W W' => World.grownBy W W' (some g)) W W' → ph3 g w2.heap.size a1 k1 5 v W' → BxS 10 0 w g w2.heap.size E1L E2L (.slice a1 1 k1) us1 (fun j => if j = 5 then true else L j) W' → K ((mono.lit 67 f []).put (some 24) v) W' := hK
        rw [eL] at hK ⊢
        simp only [Act.put, List.setIfInBounds_toArray, List.set_cons_succ, List.set_cons_zero] at hK
        have q4 := hD 4 23 (by kernel_rfl) (by kernel_rfl)
        obtain ⟨k4, e4, h4, n4⟩ := q4
        rw [e4] at hK ⊢
        go_simp
        exact hK _ _ (gb_refl _ _) ⟨_, rfl, h4, n4⟩ (hX.step (by decide) (Below.refl _ _))
      · refine mono.dutyS_of rfl ?_
        intro f W L hR hO hD hL hi hX K hK
        have eL : mono.lit 67 f [] = ⟨#[f 0, f 1, f 2, f 3, f 4, f 5, f 6, f 7, f 8, f 9, f 10, f 11, f 12, f 13, f 14, f 15, f 16, f 17, f 18, f 19, f 20, f 21, f 22, f 23, f 24, f 25, f 26, f 27, f 28, f 29, f 30, f 31, f 32, f 33, f 34, f 35, f 36, f 37, f 38, f 39, f 40, f 41, f 42, f 43, f 44, f 45, f 46, f 47, f 48, f 49, f 50, f 51, f 52, f 53, f 54, f 55, f 56, f 57, f 58, f 59, f 60, f 61, f 62, f 63, f 64, f 65, f 66], []⟩ := rfl
        replace hK : ∀ v W', (fun W W' => World.grownBy W W' (some g)) W W' → ph3 g w2.heap.size a1 k1 6 v W' → BxS 10 0 w g w2.heap.size E1L E2L (.slice a1 1 k1) us1 (fun j => if j = 6 then true else L j) W' → K ((mono.lit 67 f []).put (some 25) v) W' := hK
        rw [eL] at hK ⊢
        simp only [Act.put, List.setIfInBounds_toArray, List.set_cons_succ, List.set_cons_zero] at hK
        have q0 := hD 0 19 (by kernel_rfl) (by kernel_rfl)
        replace q0 : f 19 = (.agg #[.int .i64 1, .int .i64 1, .int .i64 0, .string ⟨#[97, 49, 98, 99]⟩, .int .i64 1, .slice a1 1 k1]) := q0
        have q5 := hD 5 24 (by kernel_rfl) (by kernel_rfl)
        obtain ⟨k5, e5, h5, n5⟩ := q5
        rw [q0, e5] at hK ⊢
        have cX := next_liveW W (hV.below hX.bel) (.slice (some ⟨k5, 0, none⟩) 3 3) (rdd_lit (ds := d2L) h5) a1 k1 hX.own.rd
        go_simp
        refine cX.mono ?_
        rintro e w9 ⟨a, k, us, rfl, ho, hb⟩
        exact hK _ _ (gb_below hb) ⟨a, k, us, rfl, ho.lower (Nat.le_trans hs2 hR.size)⟩ (hX.step (by decide) hb)
      · refine mono.dutyS_of rfl ?_
        intro f W L hR hO hD hL hi hX K hK
        have eL : mono.lit 67 f [] = ⟨#[f 0, f 1, f 2, f 3, f 4, f 5, f 6, f 7, f 8, f 9, f 10, f 11, f 12, f 13, f 14, f 15, f 16, f 17, f 18, f 19, f 20, f 21, f 22, f 23, f 24, f 25, f 26, f 27, f 28, f 29, f 30, f 31, f 32, f 33, f 34, f 35, f 36, f 37, f 38, f 39, f 40, f 41, f 42, f 43, f 44, f 45, f 46, f 47, f 48, f 49, f 50, f 51, f 52, f 53, f 54, f 55, f 56, f 57, f 58, f 59, f 60, f 61, f 62, f 63, f 64, f 65, f 66], []⟩ := rfl
        replace hK : ∀ v W', (fun W W' => World.grownBy W W' (some g)) W W' → ph3 g w2.heap.size a1 k1 7 v W' → BxS 10 0 w g w2.heap.size E1L E2L (.slice a1 1 k1) us1 (fun j => if j = 7 then true else L j) W' → K ((mono.lit 67 f []).put (some 18) v) W' := hK
        rw [eL] at hK ⊢
        simp only [Act.put, List.setIfInBounds_toArray, List.set_cons_succ, List.set_cons_zero] at hK
        have q6 := hD 6 25 (by kernel_rfl) (by kernel_rfl)
        obtain ⟨a6, k6, us6, e6, o6⟩ := q6
        rw [e6] at hK ⊢
        go_simp
        exact hK _ _ (gb_refl _ _) ⟨_, _, us6, rfl, o6⟩ (hX.step (by decide) (Below.refl _ _))
      · refine mono.dutyS_of rfl ?_
        intro f W L hR hO hD hL hi hX K hK
        have eL : mono.lit 67 f [] = ⟨#[f 0, f 1, f 2, f 3, f 4, f 5, f 6, f 7, f 8, f 9, f 10, f 11, f 12, f 13, f 14, f 15, f 16, f 17, f 18, f 19, f 20, f 21, f 22, f 23, f 24, f 25, f 26, f 27, f 28, f 29, f 30, f 31, f 32, f 33, f 34, f 35, f 36, f 37, f 38, f 39, f 40, f 41, f 42, f 43, f 44, f 45, f 46, f 47, f 48, f 49, f 50, f 51, f 52, f 53, f 54, f 55, f 56, f 57, f 58, f 59, f 60, f 61, f 62, f 63, f 64, f 65, f 66], []⟩ := rfl
        replace hK : ∀ v W', (fun W W' => World.grownBy W W' (some g)) W W' → ph3 g w2.heap.size a1 k1 8 v W' → BxS 10 0 w g w2.heap.size E1L E2L (.slice a1 1 k1) us1 (fun j => if j = 8 then true else L j) W' → K ((mono.lit 67 f []).put (some 26) v) W' := hK
        rw [eL] at hK ⊢
        simp only [Act.put, List.setIfInBounds_toArray, List.set_cons_succ, List.set_cons_zero] at hK
        have q7 := hD 7 18 (by kernel_rfl) (by kernel_rfl)
        obtain ⟨a7, k7, us7, e7, o7⟩ := q7
        rw [e7] at hK ⊢
        go_simp
        exact hK _ _ (gb_refl _ _) ⟨_, _, us7, rfl, o7⟩ (hX.step (by decide) (Below.refl _ _))
      · refine mono.dutyS_of rfl ?_
        intro f W L hR hO hD hL hi hX K hK
        have eL : mono.lit 67 f [] = ⟨#[f 0, f 1, f 2, f 3, f 4, f 5, f 6, f 7, f 8, f 9, f 10, f 11, f 12, f 13, f 14, f 15, f 16, f 17, f 18, f 19, f 20, f 21, f 22, f 23, f 24, f 25, f 26, f 27, f 28, f 29, f 30, f 31, f 32, f 33, f 34, f 35, f 36, f 37, f 38, f 39, f 40, f 41, f 42, f 43, f 44, f 45, f 46, f 47, f 48, f 49, f 50, f 51, f 52, f 53, f 54, f 55, f 56, f 57, f 58, f 59, f 60, f 61, f 62, f 63, f 64, f 65, f 66], []⟩ := rfl
        replace hK : ∀ v W', (fun W W' => World.grownBy W W' (some g)) W W' → ph3 g w2.heap.size a1 k1 9 v W' → BxS 10 0 w g w2.heap.size E1L E2L (.slice a1 1 k1) us1 (fun j => if j = 9 then true else L j) W' → K ((mono.lit 67 f []).put (some 27) v) W' := hK
        rw [eL] at hK ⊢
        simp only [Act.put, List.setIfInBounds_toArray, List.set_cons_succ, List.set_cons_zero] at hK
        have q7 := hD 7 18 (by kernel_rfl) (by kernel_rfl)
        obtain ⟨a7, k7, us7, e7, o7⟩ := q7
        rw [e7] at hK ⊢
        go_simp
        exact hK _ _ (gb_refl _ _) rfl (hX.step (by decide) (Below.refl _ _))
      · refine mono.dutyS_of rfl ?_
        intro f W L hR hO hD hL hi hX K hK
        have eL : mono.lit 67 f [] = ⟨#[f 0, f 1, f 2, f 3, f 4, f 5, f 6, f 7, f 8, f 9, f 10, f 11, f 12, f 13, f 14, f 15, f 16, f 17, f 18, f 19, f 20, f 21, f 22, f 23, f 24, f 25, f 26, f 27, f 28, f 29, f 30, f 31, f 32, f 33, f 34, f 35, f 36, f 37, f 38, f 39, f 40, f 41, f 42, f 43, f 44, f 45, f 46, f 47, f 48, f 49, f 50, f 51, f 52, f 53, f 54, f 55, f 56, f 57, f 58, f 59, f 60, f 61, f 62, f 63, f 64, f 65, f 66], []⟩ := rfl
        replace hK : ∀ v W', (fun W W' => World.grownBy W W' (some g)) W W' → ph3 g w2.heap.size a1 k1 10 v W' → BxS 10 0 w g w2.heap.size E1L E2L (.slice a1 1 k1) us1 (fun j => if j = 10 then true else L j) W' → K ((mono.lit 67 f []).put none v) W' := hK
        rw [eL] at hK ⊢
        simp only [Act.put] at hK
        have o1 : f 1 = .pointer (some ⟨g, 0, none⟩) := hO 1 (by kernel_rfl)
        have q8 := hD 8 26 (by kernel_rfl) (by kernel_rfl)
        obtain ⟨a8, k8, us8, e8, o8⟩ := q8
        rw [o1, e8] at hK ⊢
        have hEB := hX.old hi
        obtain ⟨x0, x1, x2, x3, x4, x5⟩ := cellsEB hEB
        obtain ⟨f0, f1, f2, f3, f4, f5⟩ := EB.frz hEB
        go_simp
        exact hK undef _ (gb_put g W E2L _) trivial (hX.sto (hL 0 (by kernel_rfl)) hi o8 hgl hwg)
      · refine mono.dutyS_of rfl ?_
        intro f W L hR hO hD hL hi hX K hK
        have eL : mono.lit 67 f [] = ⟨#[f 0, f 1, f 2, f 3, f 4, f 5, f 6, f 7, f 8, f 9, f 10, f 11, f 12, f 13, f 14, f 15, f 16, f 17, f 18, f 19, f 20, f 21, f 22, f 23, f 24, f 25, f 26, f 27, f 28, f 29, f 30, f 31, f 32, f 33, f 34, f 35, f 36, f 37, f 38, f 39, f 40, f 41, f 42, f 43, f 44, f 45, f 46, f 47, f 48, f 49, f 50, f 51, f 52, f 53, f 54, f 55, f 56, f 57, f 58, f 59, f 60, f 61, f 62, f 63, f 64, f 65, f 66], []⟩ := rfl
        replace hK : ∀ v W', (fun W W' => World.grownBy W W' (some g)) W W' → ph3 g w2.heap.size a1 k1 11 v W' → BxS 10 0 w g w2.heap.size E1L E2L (.slice a1 1 k1) us1 (fun j => if j = 11 then true else L j) W' → K ((mono.lit 67 f []).put (some 4) v) W' := hK
        rw [eL] at hK ⊢
        simp only [Act.put, List.setIfInBounds_toArray, List.set_cons_succ, List.set_cons_zero] at hK
        have q9 := hD 9 27 (by kernel_rfl) (by kernel_rfl)
        replace q9 : f 27 = .int .i64 0 := q9
        rw [q9] at hK ⊢
        go_simp
        exact hK _ _ (gb_refl _ _) rfl (hX.step (by decide) (Below.refl _ _))
      · intro f W L hR hO hD hL hX
        have r0 := hO 0 (by kernel_rfl)
        have r1 := hO 1 (by kernel_rfl)
        have r2 := hO 2 (by kernel_rfl)
        have r3 := hO 3 (by kernel_rfl)
        have r4 := hD 11 4 (by kernel_rfl)
        replace r4 : f 4 = .int .i64 0 := r4
        have r5 := hO 5 (by kernel_rfl)
        have r6 := hO 6 (by kernel_rfl)
        have r7 := hO 7 (by kernel_rfl)
        have r8 := hO 8 (by kernel_rfl)
        have r9 := hO 9 (by kernel_rfl)
        have r10 := hO 10 (by kernel_rfl)
        have r11 := hO 11 (by kernel_rfl)
        have r12 := hO 12 (by kernel_rfl)
        have r13 := hO 13 (by kernel_rfl)
        have r14 := hO 14 (by kernel_rfl)
        have r15 := hO 15 (by kernel_rfl)
        have r16 := hO 16 (by kernel_rfl)
        have r17 := hO 17 (by kernel_rfl)
        have r28 := hO 28 (by kernel_rfl)
        have r29 := hO 29 (by kernel_rfl)
        have r30 := hO 30 (by kernel_rfl)
        have r31 := hO 31 (by kernel_rfl)
        have r32 := hO 32 (by kernel_rfl)
        have r33 := hO 33 (by kernel_rfl)
        have r34 := hO 34 (by kernel_rfl)
        have r35 := hO 35 (by kernel_rfl)
        have r36 := hO 36 (by kernel_rfl)
        have r37 := hO 37 (by kernel_rfl)
        have r38 := hO 38 (by kernel_rfl)
        have r39 := hO 39 (by kernel_rfl)
        have r40 := hO 40 (by kernel_rfl)
        have r41 := hO 41 (by kernel_rfl)
        have r42 := hO 42 (by kernel_rfl)
        have r43 := hO 43 (by kernel_rfl)
        have r44 := hO 44 (by kernel_rfl)
        have r45 := hO 45 (by kernel_rfl)
        have r46 := hO 46 (by kernel_rfl)
        have r47 := hO 47 (by kernel_rfl)
        have r48 := hO 48 (by kernel_rfl)
        have r49 := hO 49 (by kernel_rfl)
        have r50 := hO 50 (by kernel_rfl)
        have r51 := hO 51 (by kernel_rfl)
        have r52 := hO 52 (by kernel_rfl)
        have r53 := hO 53 (by kernel_rfl)
        have r54 := hO 54 (by kernel_rfl)
        have r55 := hO 55 (by kernel_rfl)
        have r56 := hO 56 (by kernel_rfl)
        have r57 := hO 57 (by kernel_rfl)
        have r58 := hO 58 (by kernel_rfl)
        have r59 := hO 59 (by kernel_rfl)
        have r60 := hO 60 (by kernel_rfl)
        have r61 := hO 61 (by kernel_rfl)
        have r62 := hO 62 (by kernel_rfl)
        have r63 := hO 63 (by kernel_rfl)
        have r64 := hO 64 (by kernel_rfl)
        have r65 := hO 65 (by kernel_rfl)
        have r66 := hO 66 (by kernel_rfl)
        have eL : mono.lit 67 f [] = ⟨#[f 0, f 1, f 2, f 3, f 4, f 5, f 6, f 7, f 8, f 9, f 10, f 11, f 12, f 13, f 14, f 15, f 16, f 17, f 18, f 19, f 20, f 21, f 22, f 23, f 24, f 25, f 26, f 27, f 28, f 29, f 30, f 31, f 32, f 33, f 34, f 35, f 36, f 37, f 38, f 39, f 40, f 41, f 42, f 43, f 44, f 45, f 46, f 47, f 48, f 49, f 50, f 51, f 52, f 53, f 54, f 55, f 56, f 57, f 58, f 59, f 60, f 61, f 62, f 63, f 64, f 65, f 66], []⟩ := rfl
        rw [eL, r0, r1, r2, r3, r4, r5, r6, r7, r8, r9, r10, r11, r12, r13, r14, r15, r16, r17, r28, r29, r30, r31, r32, r33, r34, r35, r36, r37, r38, r39, r40, r41, r42, r43, r44, r45, r46, r47, r48, r49, r50, r51, r52, r53, r54, r55, r56, r57, r58, r59, r60, r61, r62, r63, r64, r65, r66]
        obtain ⟨-, a, k, us, h1, h2⟩ := hX.new (hL 10 (by decide))
        go_wp2_with fail
        go_meet
        exact ⟨rfl, ⟨a, k, us, h1, h2⟩, hX.bel⟩
    case rest =>
      obtain ⟨rfl, ⟨a2, k, us2, hE3, ho3⟩, hB4⟩ := hcut
      clear hE2 ho2 hB3
      have hrE0 := ho3.rd
      obtain ⟨ao, cp, hv, -, hc⟩ := id hrE0
      simp only [Value.slice.injEq] at hv
      obtain ⟨rfl, -, rfl⟩ := hv
      obtain ⟨q, o, u0, rfl, hq, c0, cu, hdu⟩ := hc 0 ⟨1, d3L⟩ rfl
      obtain ⟨au, ku, rfl⟩ := rdd_len hdu
      simp only [Nat.zero_mul, Nat.add_zero] at c0 cu
      clear hc ho3
      have hB3d : Below w.heap.size w wc.drew := hB4.drew
      have hrE : RdEd wc.drew (.slice (some ⟨q, o, none⟩) 1 k) E2L.p := hrE0.below (Below.refl _ _).drew
      go_upto_region 4 with fail
      refine mono.region_monoS (fun W W' => Below W.heap.size W W') (fun _ => Below.refl _ _) (fun _ _ _ => chain) (ph4 g q o k ku au) ((fun _ _ => True) ) 67 [] [0, 1, 2, 3, 4, 5, 6, 7, 8, 9, 10, 11, 12, 13, 14, 15, 16, 17, 18, 19, 20, 21, 22, 23, 24, 25, 26, 27, 28, 29, 30, 31, 32, 33, 34, 35, 36, 37, 38, 39] (by kernel_rfl) rfl rfl (by kernel_rfl) [(2, true), (6, true), (10, true), (15, true), (21, true), (33, true)] (by kernel_rfl) (fun j b hj v w h => by simp only [List.mem_cons, Prod.mk.injEq, List.not_mem_nil, or_false] at hj; rcases hj with ⟨rfl, rfl⟩ | ⟨rfl, rfl⟩ | ⟨rfl, rfl⟩ | ⟨rfl, rfl⟩ | ⟨rfl, rfl⟩ | ⟨rfl, rfl⟩ <;> exact h) (ph4_stays) (trivial) (.cons ?_ (.cons ?_ (.cons ?_ (.cons ?_ (.cons ?_ (.cons ?_ (.cons ?_ (.cons ?_ (.cons ?_ (.cons ?_ (.cons ?_ (.cons ?_ (.cons ?_ (.cons ?_ (.cons ?_ (.cons ?_ (.cons ?_ (.cons ?_ (.cons ?_ (.cons ?_ (.cons ?_ (.cons ?_ (.cons ?_ (.cons ?_ (.cons ?_ (.cons ?_ (.cons ?_ (.cons ?_ (.cons ?_ (.cons ?_ (.cons ?_ (.cons ?_ (.cons ?_ (.cons ?_ (.cons ?_ (.cons ?_ (.cons ?_ (.cons ?_ (.cons ?_ (.cons ?_ (.nil))))))))))))))))))))))))))))))))))))))))) ?_
      · refine mono.dutyS_of rfl ?_
        intro f W L hR hO hD hL hi hX K hK
        have eL : mono.lit 67 f [] = ⟨#[f 0, f 1, f 2, f 3, f 4, f 5, f 6, f 7, f 8, f 9, f 10, f 11, f 12, f 13, f 14, f 15, f 16, f 17, f 18, f 19, f 20, f 21, f 22, f 23, f 24, f 25, f 26, f 27, f 28, f 29, f 30, f 31, f 32, f 33, f 34, f 35, f 36, f 37, f 38, f 39, f 40, f 41, f 42, f 43, f 44, f 45, f 46, f 47, f 48, f 49, f 50, f 51, f 52, f 53, f 54, f 55, f 56, f 57, f 58, f 59, f 60, f 61, f 62, f 63, f 64, f 65, f 66], []⟩ := rfl
        replace hK : ∀ v W', (fun W W' => Below W.heap.size W W') W W' → ph4 g q o k ku au 0 v W' → (fun _ _ => True) (fun j => if j = 0 then true else L j) W' → K ((mono.lit 67 f []).put (some 28) v) W' := hK
        rw [eL] at hK ⊢
        simp only [Act.put, List.setIfInBounds_toArray, List.set_cons_succ, List.set_cons_zero] at hK
        have o2 : f 2 = (.int .i64 0) := hO 2 (by kernel_rfl)
        rw [o2] at hK ⊢
        go_simp
        exact hK _ _ (Below.refl _ _) rfl trivial
      · refine mono.dutyS_of rfl ?_
        intro f W L hR hO hD hL hi hX K hK
        have eL : mono.lit 67 f [] = ⟨#[f 0, f 1, f 2, f 3, f 4, f 5, f 6, f 7, f 8, f 9, f 10, f 11, f 12, f 13, f 14, f 15, f 16, f 17, f 18, f 19, f 20, f 21, f 22, f 23, f 24, f 25, f 26, f 27, f 28, f 29, f 30, f 31, f 32, f 33, f 34, f 35, f 36, f 37, f 38, f 39, f 40, f 41, f 42, f 43, f 44, f 45, f 46, f 47, f 48, f 49, f 50, f 51, f 52, f 53, f 54, f 55, f 56, f 57, f 58, f 59, f 60, f 61, f 62, f 63, f 64, f 65, f 66], []⟩ := rfl
        replace hK : ∀ v W', (fun W W' => Below W.heap.size W W') W W' → ph4 g q o k ku au 1 v W' → (fun _ _ => True) (fun j => if j = 1 then true else L j) W' → K ((mono.lit 67 f []).put (some 29) v) W' := hK
        rw [eL] at hK ⊢
        simp only [Act.put, List.setIfInBounds_toArray, List.set_cons_succ, List.set_cons_zero] at hK
        have q0 := hD 0 28 (by kernel_rfl) (by kernel_rfl)
        replace q0 : f 28 = (.int .i64 0) := q0
        rw [q0] at hK ⊢
        go_simp
        exact hK _ _ (Below.refl _ _) rfl trivial
      · refine mono.dutyS_of rfl ?_
        intro f W L hR hO hD hL hi hX K hK
        have eL : mono.lit 67 f [] = ⟨#[f 0, f 1, f 2, f 3, f 4, f 5, f 6, f 7, f 8, f 9, f 10, f 11, f 12, f 13, f 14, f 15, f 16, f 17, f 18, f 19, f 20, f 21, f 22, f 23, f 24, f 25, f 26, f 27, f 28, f 29, f 30, f 31, f 32, f 33, f 34, f 35, f 36, f 37, f 38, f 39, f 40, f 41, f 42, f 43, f 44, f 45, f 46, f 47, f 48, f 49, f 50, f 51, f 52, f 53, f 54, f 55, f 56, f 57, f 58, f 59, f 60, f 61, f 62, f 63, f 64, f 65, f 66], []⟩ := rfl
        replace hK : ∀ v W', (fun W W' => Below W.heap.size W W') W W' → ph4 g q o k ku au 2 v W' → (fun _ _ => True) (fun j => if j = 2 then true else L j) W' → K ((mono.lit 67 f []).put (some 30) v) W' := hK
        rw [eL] at hK ⊢
        simp only [Act.put, List.setIfInBounds_toArray, List.set_cons_succ, List.set_cons_zero] at hK
        have q1 := hD 1 29 (by kernel_rfl) (by kernel_rfl)
        replace q1 : f 29 = (.bool true) := q1
        rw [q1] at hK ⊢
        go_simp
        exact hK _ _ (Below.refl _ _) rfl trivial
      · refine mono.dutyS_of rfl ?_
        intro f W L hR hO hD hL hi hX K hK
        have eL : mono.lit 67 f [] = ⟨#[f 0, f 1, f 2, f 3, f 4, f 5, f 6, f 7, f 8, f 9, f 10, f 11, f 12, f 13, f 14, f 15, f 16, f 17, f 18, f 19, f 20, f 21, f 22, f 23, f 24, f 25, f 26, f 27, f 28, f 29, f 30, f 31, f 32, f 33, f 34, f 35, f 36, f 37, f 38, f 39, f 40, f 41, f 42, f 43, f 44, f 45, f 46, f 47, f 48, f 49, f 50, f 51, f 52, f 53, f 54, f 55, f 56, f 57, f 58, f 59, f 60, f 61, f 62, f 63, f 64, f 65, f 66], []⟩ := rfl
        replace hK : ∀ v W', (fun W W' => Below W.heap.size W W') W W' → ph4 g q o k ku au 3 v W' → (fun _ _ => True) (fun j => if j = 3 then true else L j) W' → K ((mono.lit 67 f []).put (some 31) v) W' := hK
        rw [eL] at hK ⊢
        simp only [Act.put, List.setIfInBounds_toArray, List.set_cons_succ, List.set_cons_zero] at hK
        have o3 : f 3 = (.int .i64 0) := hO 3 (by kernel_rfl)
        rw [o3] at hK ⊢
        go_simp
        exact hK _ _ (Below.refl _ _) rfl trivial
      · refine mono.dutyS_of rfl ?_
        intro f W L hR hO hD hL hi hX K hK
        have eL : mono.lit 67 f [] = ⟨#[f 0, f 1, f 2, f 3, f 4, f 5, f 6, f 7, f 8, f 9, f 10, f 11, f 12, f 13, f 14, f 15, f 16, f 17, f 18, f 19, f 20, f 21, f 22, f 23, f 24, f 25, f 26, f 27, f 28, f 29, f 30, f 31, f 32, f 33, f 34, f 35, f 36, f 37, f 38, f 39, f 40, f 41, f 42, f 43, f 44, f 45, f 46, f 47, f 48, f 49, f 50, f 51, f 52, f 53, f 54, f 55, f 56, f 57, f 58, f 59, f 60, f 61, f 62, f 63, f 64, f 65, f 66], []⟩ := rfl
        replace hK : ∀ v W', (fun W W' => Below W.heap.size W W') W W' → ph4 g q o k ku au 4 v W' → (fun _ _ => True) (fun j => if j = 4 then true else L j) W' → K ((mono.lit 67 f []).put (some 32) v) W' := hK
        rw [eL] at hK ⊢
        simp only [Act.put, List.setIfInBounds_toArray, List.set_cons_succ, List.set_cons_zero] at hK
        have q3 := hD 3 31 (by kernel_rfl) (by kernel_rfl)
        replace q3 : f 31 = (.int .i64 0) := q3
        rw [q3] at hK ⊢
        go_simp
        exact hK _ _ (Below.refl _ _) rfl trivial
      · refine mono.dutyS_of rfl ?_
        intro f W L hR hO hD hL hi hX K hK
        have eL : mono.lit 67 f [] = ⟨#[f 0, f 1, f 2, f 3, f 4, f 5, f 6, f 7, f 8, f 9, f 10, f 11, f 12, f 13, f 14, f 15, f 16, f 17, f 18, f 19, f 20, f 21, f 22, f 23, f 24, f 25, f 26, f 27, f 28, f 29, f 30, f 31, f 32, f 33, f 34, f 35, f 36, f 37, f 38, f 39, f 40, f 41, f 42, f 43, f 44, f 45, f 46, f 47, f 48, f 49, f 50, f 51, f 52, f 53, f 54, f 55, f 56, f 57, f 58, f 59, f 60, f 61, f 62, f 63, f 64, f 65, f 66], []⟩ := rfl
        replace hK : ∀ v W', (fun W W' => Below W.heap.size W W') W W' → ph4 g q o k ku au 5 v W' → (fun _ _ => True) (fun j => if j = 5 then true else L j) W' → K ((mono.lit 67 f []).put (some 33) v) W' := hK
        rw [eL] at hK ⊢
        simp only [Act.put, List.setIfInBounds_toArray, List.set_cons_succ, List.set_cons_zero] at hK
        have q2 := hD 2 30 (by kernel_rfl) (by kernel_rfl)
        replace q2 : f 30 = (.bool true) := q2
        have q4 := hD 4 32 (by kernel_rfl) (by kernel_rfl)
        replace q4 : f 32 = (.bool true) := q4
        rw [q2, q4] at hK ⊢
        go_simp
        exact hK _ _ (Below.refl _ _) rfl trivial
      · refine mono.dutyS_of rfl ?_
        intro f W L hR hO hD hL hi hX K hK
        have eL : mono.lit 67 f [] = ⟨#[f 0, f 1, f 2, f 3, f 4, f 5, f 6, f 7, f 8, f 9, f 10, f 11, f 12, f 13, f 14, f 15, f 16, f 17, f 18, f 19, f 20, f 21, f 22, f 23, f 24, f 25, f 26, f 27, f 28, f 29, f 30, f 31, f 32, f 33, f 34, f 35, f 36, f 37, f 38, f 39, f 40, f 41, f 42, f 43, f 44, f 45, f 46, f 47, f 48, f 49, f 50, f 51, f 52, f 53, f 54, f 55, f 56, f 57, f 58, f 59, f 60, f 61, f 62, f 63, f 64, f 65, f 66], []⟩ := rfl
        replace hK : ∀ v W', (fun W W' => Below W.heap.size W W') W W' → ph4 g q o k ku au 6 v W' → (fun _ _ => True) (fun j => if j = 6 then true else L j) W' → K ((mono.lit 67 f []).put (some 34) v) W' := hK
        rw [eL] at hK ⊢
        simp only [Act.put, List.setIfInBounds_toArray, List.set_cons_succ, List.set_cons_zero] at hK
        have q5 := hD 5 33 (by kernel_rfl) (by kernel_rfl)
        replace q5 : f 33 = (.bool true) := q5
        rw [q5] at hK ⊢
        go_simp
        exact hK _ _ (Below.refl _ _) rfl trivial
      · refine mono.dutyS_of rfl ?_
        intro f W L hR hO hD hL hi hX K hK
        have eL : mono.lit 67 f [] = ⟨#[f 0, f 1, f 2, f 3, f 4, f 5, f 6, f 7, f 8, f 9, f 10, f 11, f 12, f 13, f 14, f 15, f 16, f 17, f 18, f 19, f 20, f 21, f 22, f 23, f 24, f 25, f 26, f 27, f 28, f 29, f 30, f 31, f 32, f 33, f 34, f 35, f 36, f 37, f 38, f 39, f 40, f 41, f 42, f 43, f 44, f 45, f 46, f 47, f 48, f 49, f 50, f 51, f 52, f 53, f 54, f 55, f 56, f 57, f 58, f 59, f 60, f 61, f 62, f 63, f 64, f 65, f 66], []⟩ := rfl
        replace hK : ∀ v W', (fun W W' => Below W.heap.size W W') W W' → ph4 g q o k ku au 7 v W' → (fun _ _ => True) (fun j => if j = 7 then true else L j) W' → K ((mono.lit 67 f []).put (some 35) v) W' := hK
        rw [eL] at hK ⊢
        simp only [Act.put, List.setIfInBounds_toArray, List.set_cons_succ, List.set_cons_zero] at hK
        have o4 : f 4 = (.int .i64 0) := hO 4 (by kernel_rfl)
        rw [o4] at hK ⊢
        go_simp
        exact hK _ _ (Below.refl _ _) rfl trivial
      · refine mono.dutyS_of rfl ?_
        intro f W L hR hO hD hL hi hX K hK
        have eL : mono.lit 67 f [] = ⟨#[f 0, f 1, f 2, f 3, f 4, f 5, f 6, f 7, f 8, f 9, f 10, f 11, f 12, f 13, f 14, f 15, f 16, f 17, f 18, f 19, f 20, f 21, f 22, f 23, f 24, f 25, f 26, f 27, f 28, f 29, f 30, f 31, f 32, f 33, f 34, f 35, f 36, f 37, f 38, f 39, f 40, f 41, f 42, f 43, f 44, f 45, f 46, f 47, f 48, f 49, f 50, f 51, f 52, f 53, f 54, f 55, f 56, f 57, f 58, f 59, f 60, f 61, f 62, f 63, f 64, f 65, f 66], []⟩ := rfl
        replace hK : ∀ v W', (fun W W' => Below W.heap.size W W') W W' → ph4 g q o k ku au 8 v W' → (fun _ _ => True) (fun j => if j = 8 then true else L j) W' → K ((mono.lit 67 f []).put (some 36) v) W' := hK
        rw [eL] at hK ⊢
        simp only [Act.put, List.setIfInBounds_toArray, List.set_cons_succ, List.set_cons_zero] at hK
        have q7 := hD 7 35 (by kernel_rfl) (by kernel_rfl)
        replace q7 : f 35 = (.int .i64 0) := q7
        rw [q7] at hK ⊢
        go_simp
        exact hK _ _ (Below.refl _ _) rfl trivial
      · refine mono.dutyS_of rfl ?_
        intro f W L hR hO hD hL hi hX K hK
        have eL : mono.lit 67 f [] = ⟨#[f 0, f 1, f 2, f 3, f 4, f 5, f 6, f 7, f 8, f 9, f 10, f 11, f 12, f 13, f 14, f 15, f 16, f 17, f 18, f 19, f 20, f 21, f 22, f 23, f 24, f 25, f 26, f 27, f 28, f 29, f 30, f 31, f 32, f 33, f 34, f 35, f 36, f 37, f 38, f 39, f 40, f 41, f 42, f 43, f 44, f 45, f 46, f 47, f 48, f 49, f 50, f 51, f 52, f 53, f 54, f 55, f 56, f 57, f 58, f 59, f 60, f 61, f 62, f 63, f 64, f 65, f 66], []⟩ := rfl
        replace hK : ∀ v W', (fun W W' => Below W.heap.size W W') W W' → ph4 g q o k ku au 9 v W' → (fun _ _ => True) (fun j => if j = 9 then true else L j) W' → K ((mono.lit 67 f []).put (some 37) v) W' := hK
        rw [eL] at hK ⊢
        simp only [Act.put, List.setIfInBounds_toArray, List.set_cons_succ, List.set_cons_zero] at hK
        have q6 := hD 6 34 (by kernel_rfl) (by kernel_rfl)
        replace q6 : f 34 = (.bool true) := q6
        have q8 := hD 8 36 (by kernel_rfl) (by kernel_rfl)
        replace q8 : f 36 = (.bool true) := q8
        rw [q6, q8] at hK ⊢
        go_simp
        exact hK _ _ (Below.refl _ _) rfl trivial
      · refine mono.dutyS_of rfl ?_
        intro f W L hR hO hD hL hi hX K hK
        have eL : mono.lit 67 f [] = ⟨#[f 0, f 1, f 2, f 3, f 4, f 5, f 6, f 7, f 8, f 9, f 10, f 11, f 12, f 13, f 14, f 15, f 16, f 17, f 18, f 19, f 20, f 21, f 22, f 23, f 24, f 25, f 26, f 27, f 28, f 29, f 30, f 31, f 32, f 33, f 34, f 35, f 36, f 37, f 38, f 39, f 40, f 41, f 42, f 43, f 44, f 45, f 46, f 47, f 48, f 49, f 50, f 51, f 52, f 53, f 54, f 55, f 56, f 57, f 58, f 59, f 60, f 61, f 62, f 63, f 64, f 65, f 66], []⟩ := rfl
        replace hK : ∀ v W', (fun W W' => Below W.heap.size W W') W W' → ph4 g q o k ku au 10 v W' → (fun _ _ => True) (fun j => if j = 10 then true else L j) W' → K ((mono.lit 67 f []).put (some 38) v) W' := hK
        rw [eL] at hK ⊢
        simp only [Act.put, List.setIfInBounds_toArray, List.set_cons_succ, List.set_cons_zero] at hK
        have q9 := hD 9 37 (by kernel_rfl) (by kernel_rfl)
        replace q9 : f 37 = (.bool true) := q9
        rw [q9] at hK ⊢
        go_simp
        exact hK _ _ (Below.refl _ _) rfl trivial
      · refine mono.dutyS_of rfl ?_
        intro f W L hR hO hD hL hi hX K hK
        have eL : mono.lit 67 f [] = ⟨#[f 0, f 1, f 2, f 3, f 4, f 5, f 6, f 7, f 8, f 9, f 10, f 11, f 12, f 13, f 14, f 15, f 16, f 17, f 18, f 19, f 20, f 21, f 22, f 23, f 24, f 25, f 26, f 27, f 28, f 29, f 30, f 31, f 32, f 33, f 34, f 35, f 36, f 37, f 38, f 39, f 40, f 41, f 42, f 43, f 44, f 45, f 46, f 47, f 48, f 49, f 50, f 51, f 52, f 53, f 54, f 55, f 56, f 57, f 58, f 59, f 60, f 61, f 62, f 63, f 64, f 65, f 66], []⟩ := rfl
        replace hK : ∀ v W', (fun W W' => Below W.heap.size W W') W W' → ph4 g q o k ku au 11 v W' → (fun _ _ => True) (fun j => if j = 11 then true else L j) W' → K ((mono.lit 67 f []).put (some 39) v) W' := hK
        rw [eL] at hK ⊢
        simp only [Act.put, List.setIfInBounds_toArray, List.set_cons_succ, List.set_cons_zero] at hK
        have o1 : f 1 = (.pointer (some ⟨g, 0, none⟩)) := hO 1 (by kernel_rfl)
        rw [o1] at hK ⊢
        go_simp
        exact hK _ _ (Below.refl _ _) rfl trivial
      · refine mono.dutyS_of rfl ?_
        intro f W L hR hO hD hL hi hX K hK
        have eL : mono.lit 67 f [] = ⟨#[f 0, f 1, f 2, f 3, f 4, f 5, f 6, f 7, f 8, f 9, f 10, f 11, f 12, f 13, f 14, f 15, f 16, f 17, f 18, f 19, f 20, f 21, f 22, f 23, f 24, f 25, f 26, f 27, f 28, f 29, f 30, f 31, f 32, f 33, f 34, f 35, f 36, f 37, f 38, f 39, f 40, f 41, f 42, f 43, f 44, f 45, f 46, f 47, f 48, f 49, f 50, f 51, f 52, f 53, f 54, f 55, f 56, f 57, f 58, f 59, f 60, f 61, f 62, f 63, f 64, f 65, f 66], []⟩ := rfl
        replace hK : ∀ v W', (fun W W' => Below W.heap.size W W') W W' → ph4 g q o k ku au 12 v W' → (fun _ _ => True) (fun j => if j = 12 then true else L j) W' → K ((mono.lit 67 f []).put (some 40) v) W' := hK
        rw [eL] at hK ⊢
        simp only [Act.put, List.setIfInBounds_toArray, List.set_cons_succ, List.set_cons_zero] at hK
        have q11 := hD 11 39 (by kernel_rfl) (by kernel_rfl)
        replace q11 : f 39 = (.pointer (some ⟨g, 3, none⟩)) := q11
        rw [q11] at hK ⊢
        obtain ⟨x0, x1, x2, x3, x4, x5⟩ := cellsEB (EB.below (W := wc.drew) hE3 hR)
        simp only [E2L] at x0 x1 x2 x3 x4 x5
        go_simp
        exact hK _ _ (Below.refl _ _) rfl trivial
      · refine mono.dutyS_of rfl ?_
        intro f W L hR hO hD hL hi hX K hK
        have eL : mono.lit 67 f [] = ⟨#[f 0, f 1, f 2, f 3, f 4, f 5, f 6, f 7, f 8, f 9, f 10, f 11, f 12, f 13, f 14, f 15, f 16, f 17, f 18, f 19, f 20, f 21, f 22, f 23, f 24, f 25, f 26, f 27, f 28, f 29, f 30, f 31, f 32, f 33, f 34, f 35, f 36, f 37, f 38, f 39, f 40, f 41, f 42, f 43, f 44, f 45, f 46, f 47, f 48, f 49, f 50, f 51, f 52, f 53, f 54, f 55, f 56, f 57, f 58, f 59, f 60, f 61, f 62, f 63, f 64, f 65, f 66], []⟩ := rfl
        replace hK : ∀ v W', (fun W W' => Below W.heap.size W W') W W' → ph4 g q o k ku au 13 v W' → (fun _ _ => True) (fun j => if j = 13 then true else L j) W' → K ((mono.lit 67 f []).put (some 41) v) W' := hK
        rw [eL] at hK ⊢
        simp only [Act.put, List.setIfInBounds_toArray, List.set_cons_succ, List.set_cons_zero] at hK
        have q12 := hD 12 40 (by kernel_rfl) (by kernel_rfl)
        replace q12 : f 40 = (.string ⟨#[97, 50, 49, 98, 99]⟩) := q12
        rw [q12] at hK ⊢
        go_simp
        exact hK _ _ (Below.refl _ _) rfl trivial
      · refine mono.dutyS_of rfl ?_
        intro f W L hR hO hD hL hi hX K hK
        have eL : mono.lit 67 f [] = ⟨#[f 0, f 1, f 2, f 3, f 4, f 5, f 6, f 7, f 8, f 9, f 10, f 11, f 12, f 13, f 14, f 15, f 16, f 17, f 18, f 19, f 20, f 21, f 22, f 23, f 24, f 25, f 26, f 27, f 28, f 29, f 30, f 31, f 32, f 33, f 34, f 35, f 36, f 37, f 38, f 39, f 40, f 41, f 42, f 43, f 44, f 45, f 46, f 47, f 48, f 49, f 50, f 51, f 52, f 53, f 54, f 55, f 56, f 57, f 58, f 59, f 60, f 61, f 62, f 63, f 64, f 65, f 66], []⟩ := rfl
        replace hK : ∀ v W', (fun W W' => Below W.heap.size W W') W W' → ph4 g q o k ku au 14 v W' → (fun _ _ => True) (fun j => if j = 14 then true else L j) W' → K ((mono.lit 67 f []).put (some 42) v) W' := hK
        rw [eL] at hK ⊢
        simp only [Act.put, List.setIfInBounds_toArray, List.set_cons_succ, List.set_cons_zero] at hK
        have q10 := hD 10 38 (by kernel_rfl) (by kernel_rfl)
        replace q10 : f 38 = (.bool true) := q10
        have q13 := hD 13 41 (by kernel_rfl) (by kernel_rfl)
        replace q13 : f 41 = (.bool true) := q13
        rw [q10, q13] at hK ⊢
        go_simp
        exact hK _ _ (Below.refl _ _) rfl trivial
      · refine mono.dutyS_of rfl ?_
        intro f W L hR hO hD hL hi hX K hK
        have eL : mono.lit 67 f [] = ⟨#[f 0, f 1, f 2, f 3, f 4, f 5, f 6, f 7, f 8, f 9, f 10, f 11, f 12, f 13, f 14, f 15, f 16, f 17, f 18, f 19, f 20, f 21, f 22, f 23, f 24, f 25, f 26, f 27, f 28, f 29, f 30, f 31, f 32, f 33, f 34, f 35, f 36, f 37, f 38, f 39, f 40, f 41, f 42, f 43, f 44, f 45, f 46, f 47, f 48, f 49, f 50, f 51, f 52, f 53, f 54, f 55, f 56, f 57, f 58, f 59, f 60, f 61, f 62, f 63, f 64, f 65, f 66], []⟩ := rfl
        replace hK : ∀ v W', (fun W W' => Below W.heap.size W W') W W' → ph4 g q o k ku au 15 v W' → (fun _ _ => True) (fun j => if j = 15 then true else L j) W' → K ((mono.lit 67 f []).put (some 43) v) W' := hK
        rw [eL] at hK ⊢
        simp only [Act.put, List.setIfInBounds_toArray, List.set_cons_succ, List.set_cons_zero] at hK
        have q14 := hD 14 42 (by kernel_rfl) (by kernel_rfl)
        replace q14 : f 42 = (.bool true) := q14
        rw [q14] at hK ⊢
        go_simp
        exact hK _ _ (Below.refl _ _) rfl trivial
      · refine mono.dutyS_of rfl ?_
        intro f W L hR hO hD hL hi hX K hK
        have eL : mono.lit 67 f [] = ⟨#[f 0, f 1, f 2, f 3, f 4, f 5, f 6, f 7, f 8, f 9, f 10, f 11, f 12, f 13, f 14, f 15, f 16, f 17, f 18, f 19, f 20, f 21, f 22, f 23, f 24, f 25, f 26, f 27, f 28, f 29, f 30, f 31, f 32, f 33, f 34, f 35, f 36, f 37, f 38, f 39, f 40, f 41, f 42, f 43, f 44, f 45, f 46, f 47, f 48, f 49, f 50, f 51, f 52, f 53, f 54, f 55, f 56, f 57, f 58, f 59, f 60, f 61, f 62, f 63, f 64, f 65, f 66], []⟩ := rfl
        replace hK : ∀ v W', (fun W W' => Below W.heap.size W W') W W' → ph4 g q o k ku au 16 v W' → (fun _ _ => True) (fun j => if j = 16 then true else L j) W' → K ((mono.lit 67 f []).put (some 44) v) W' := hK
        rw [eL] at hK ⊢
        simp only [Act.put, List.setIfInBounds_toArray, List.set_cons_succ, List.set_cons_zero] at hK
        have o1 : f 1 = (.pointer (some ⟨g, 0, none⟩)) := hO 1 (by kernel_rfl)
        rw [o1] at hK ⊢
        go_simp
        exact hK _ _ (Below.refl _ _) rfl trivial
      · refine mono.dutyS_of rfl ?_
        intro f W L hR hO hD hL hi hX K hK
        have eL : mono.lit 67 f [] = ⟨#[f 0, f 1, f 2, f 3, f 4, f 5, f 6, f 7, f 8, f 9, f 10, f 11, f 12, f 13, f 14, f 15, f 16, f 17, f 18, f 19, f 20, f 21, f 22, f 23, f 24, f 25, f 26, f 27, f 28, f 29, f 30, f 31, f 32, f 33, f 34, f 35, f 36, f 37, f 38, f 39, f 40, f 41, f 42, f 43, f 44, f 45, f 46, f 47, f 48, f 49, f 50, f 51, f 52, f 53, f 54, f 55, f 56, f 57, f 58, f 59, f 60, f 61, f 62, f 63, f 64, f 65, f 66], []⟩ := rfl
        replace hK : ∀ v W', (fun W W' => Below W.heap.size W W') W W' → ph4 g q o k ku au 17 v W' → (fun _ _ => True) (fun j => if j = 17 then true else L j) W' → K ((mono.lit 67 f []).put (some 45) v) W' := hK
        rw [eL] at hK ⊢
        simp only [Act.put, List.setIfInBounds_toArray, List.set_cons_succ, List.set_cons_zero] at hK
        have q16 := hD 16 44 (by kernel_rfl) (by kernel_rfl)
        replace q16 : f 44 = (.pointer (some ⟨g, 5, none⟩)) := q16
        rw [q16] at hK ⊢
        obtain ⟨x0, x1, x2, x3, x4, x5⟩ := cellsEB (EB.below (W := wc.drew) hE3 hR)
        simp only [E2L] at x0 x1 x2 x3 x4 x5
        go_simp
        exact hK _ _ (Below.refl _ _) rfl trivial
      · refine mono.dutyS_of rfl ?_
        intro f W L hR hO hD hL hi hX K hK
        have eL : mono.lit 67 f [] = ⟨#[f 0, f 1, f 2, f 3, f 4, f 5, f 6, f 7, f 8, f 9, f 10, f 11, f 12, f 13, f 14, f 15, f 16, f 17, f 18, f 19, f 20, f 21, f 22, f 23, f 24, f 25, f 26, f 27, f 28, f 29, f 30, f 31, f 32, f 33, f 34, f 35, f 36, f 37, f 38, f 39, f 40, f 41, f 42, f 43, f 44, f 45, f 46, f 47, f 48, f 49, f 50, f 51, f 52, f 53, f 54, f 55, f 56, f 57, f 58, f 59, f 60, f 61, f 62, f 63, f 64, f 65, f 66], []⟩ := rfl
        replace hK : ∀ v W', (fun W W' => Below W.heap.size W W') W W' → ph4 g q o k ku au 18 v W' → (fun _ _ => True) (fun j => if j = 18 then true else L j) W' → K ((mono.lit 67 f []).put (some 46) v) W' := hK
        rw [eL] at hK ⊢
        simp only [Act.put, List.setIfInBounds_toArray, List.set_cons_succ, List.set_cons_zero] at hK
        have q17 := hD 17 45 (by kernel_rfl) (by kernel_rfl)
        replace q17 : f 45 = (.slice (some ⟨q, o, none⟩) 1 k) := q17
        rw [q17] at hK ⊢
        go_simp
        exact hK _ _ (Below.refl _ _) rfl trivial
      · refine mono.dutyS_of rfl ?_
        intro f W L hR hO hD hL hi hX K hK
        have eL : mono.lit 67 f [] = ⟨#[f 0, f 1, f 2, f 3, f 4, f 5, f 6, f 7, f 8, f 9, f 10, f 11, f 12, f 13, f 14, f 15, f 16, f 17, f 18, f 19, f 20, f 21, f 22, f 23, f 24, f 25, f 26, f 27, f 28, f 29, f 30, f 31, f 32, f 33, f 34, f 35, f 36, f 37, f 38, f 39, f 40, f 41, f 42, f 43, f 44, f 45, f 46, f 47, f 48, f 49, f 50, f 51, f 52, f 53, f 54, f 55, f 56, f 57, f 58, f 59, f 60, f 61, f 62, f 63, f 64, f 65, f 66], []⟩ := rfl
        replace hK : ∀ v W', (fun W W' => Below W.heap.size W W') W W' → ph4 g q o k ku au 19 v W' → (fun _ _ => True) (fun j => if j = 19 then true else L j) W' → K ((mono.lit 67 f []).put (some 47) v) W' := hK
        rw [eL] at hK ⊢
        simp only [Act.put, List.setIfInBounds_toArray, List.set_cons_succ, List.set_cons_zero] at hK
        have q18 := hD 18 46 (by kernel_rfl) (by kernel_rfl)
        replace q18 : f 46 = (.int .i64 1) := q18
        rw [q18] at hK ⊢
        go_simp
        exact hK _ _ (Below.refl _ _) rfl trivial
      · refine mono.dutyS_of rfl ?_
        intro f W L hR hO hD hL hi hX K hK
        have eL : mono.lit 67 f [] = ⟨#[f 0, f 1, f 2, f 3, f 4, f 5, f 6, f 7, f 8, f 9, f 10, f 11, f 12, f 13, f 14, f 15, f 16, f 17, f 18, f 19, f 20, f 21, f 22, f 23, f 24, f 25, f 26, f 27, f 28, f 29, f 30, f 31, f 32, f 33, f 34, f 35, f 36, f 37, f 38, f 39, f 40, f 41, f 42, f 43, f 44, f 45, f 46, f 47, f 48, f 49, f 50, f 51, f 52, f 53, f 54, f 55, f 56, f 57, f 58, f 59, f 60, f 61, f 62, f 63, f 64, f 65, f 66], []⟩ := rfl
        replace hK : ∀ v W', (fun W W' => Below W.heap.size W W') W W' → ph4 g q o k ku au 20 v W' → (fun _ _ => True) (fun j => if j = 20 then true else L j) W' → K ((mono.lit 67 f []).put (some 48) v) W' := hK
        rw [eL] at hK ⊢
        simp only [Act.put, List.setIfInBounds_toArray, List.set_cons_succ, List.set_cons_zero] at hK
        have q15 := hD 15 43 (by kernel_rfl) (by kernel_rfl)
        replace q15 : f 43 = (.bool true) := q15
        have q19 := hD 19 47 (by kernel_rfl) (by kernel_rfl)
        replace q19 : f 47 = (.bool true) := q19
        rw [q15, q19] at hK ⊢
        go_simp
        exact hK _ _ (Below.refl _ _) rfl trivial
      · refine mono.dutyS_of rfl ?_
        intro f W L hR hO hD hL hi hX K hK
        have eL : mono.lit 67 f [] = ⟨#[f 0, f 1, f 2, f 3, f 4, f 5, f 6, f 7, f 8, f 9, f 10, f 11, f 12, f 13, f 14, f 15, f 16, f 17, f 18, f 19, f 20, f 21, f 22, f 23, f 24, f 25, f 26, f 27, f 28, f 29, f 30, f 31, f 32, f 33, f 34, f 35, f 36, f 37, f 38, f 39, f 40, f 41, f 42, f 43, f 44, f 45, f 46, f 47, f 48, f 49, f 50, f 51, f 52, f 53, f 54, f 55, f 56, f 57, f 58, f 59, f 60, f 61, f 62, f 63, f 64, f 65, f 66], []⟩ := rfl
        replace hK : ∀ v W', (fun W W' => Below W.heap.size W W') W W' → ph4 g q o k ku au 21 v W' → (fun _ _ => True) (fun j => if j = 21 then true else L j) W' → K ((mono.lit 67 f []).put (some 49) v) W' := hK
        rw [eL] at hK ⊢
        simp only [Act.put, List.setIfInBounds_toArray, List.set_cons_succ, List.set_cons_zero] at hK
        have q20 := hD 20 48 (by kernel_rfl) (by kernel_rfl)
        replace q20 : f 48 = (.bool true) := q20
        rw [q20] at hK ⊢
        go_simp
        exact hK _ _ (Below.refl _ _) rfl trivial
      · refine mono.dutyS_of rfl ?_
        intro f W L hR hO hD hL hi hX K hK
        have eL : mono.lit 67 f [] = ⟨#[f 0, f 1, f 2, f 3, f 4, f 5, f 6, f 7, f 8, f 9, f 10, f 11, f 12, f 13, f 14, f 15, f 16, f 17, f 18, f 19, f 20, f 21, f 22, f 23, f 24, f 25, f 26, f 27, f 28, f 29, f 30, f 31, f 32, f 33, f 34, f 35, f 36, f 37, f 38, f 39, f 40, f 41, f 42, f 43, f 44, f 45, f 46, f 47, f 48, f 49, f 50, f 51, f 52, f 53, f 54, f 55, f 56, f 57, f 58, f 59, f 60, f 61, f 62, f 63, f 64, f 65, f 66], []⟩ := rfl
        replace hK : ∀ v W', (fun W W' => Below W.heap.size W W') W W' → ph4 g q o k ku au 22 v W' → (fun _ _ => True) (fun j => if j = 22 then true else L j) W' → K ((mono.lit 67 f []).put (some 50) v) W' := hK
        rw [eL] at hK ⊢
        simp only [Act.put, List.setIfInBounds_toArray, List.set_cons_succ, List.set_cons_zero] at hK
        have o1 : f 1 = (.pointer (some ⟨g, 0, none⟩)) := hO 1 (by kernel_rfl)
        rw [o1] at hK ⊢
        go_simp
        exact hK _ _ (Below.refl _ _) rfl trivial
      · refine mono.dutyS_of rfl ?_
        intro f W L hR hO hD hL hi hX K hK
        have eL : mono.lit 67 f [] = ⟨#[f 0, f 1, f 2, f 3, f 4, f 5, f 6, f 7, f 8, f 9, f 10, f 11, f 12, f 13, f 14, f 15, f 16, f 17, f 18, f 19, f 20, f 21, f 22, f 23, f 24, f 25, f 26, f 27, f 28, f 29, f 30, f 31, f 32, f 33, f 34, f 35, f 36, f 37, f 38, f 39, f 40, f 41, f 42, f 43, f 44, f 45, f 46, f 47, f 48, f 49, f 50, f 51, f 52, f 53, f 54, f 55, f 56, f 57, f 58, f 59, f 60, f 61, f 62, f 63, f 64, f 65, f 66], []⟩ := rfl
        replace hK : ∀ v W', (fun W W' => Below W.heap.size W W') W W' → ph4 g q o k ku au 23 v W' → (fun _ _ => True) (fun j => if j = 23 then true else L j) W' → K ((mono.lit 67 f []).put (some 51) v) W' := hK
        rw [eL] at hK ⊢
        simp only [Act.put, List.setIfInBounds_toArray, List.set_cons_succ, List.set_cons_zero] at hK
        have q22 := hD 22 50 (by kernel_rfl) (by kernel_rfl)
        replace q22 : f 50 = (.pointer (some ⟨g, 5, none⟩)) := q22
        rw [q22] at hK ⊢
        obtain ⟨x0, x1, x2, x3, x4, x5⟩ := cellsEB (EB.below (W := wc.drew) hE3 hR)
        simp only [E2L] at x0 x1 x2 x3 x4 x5
        go_simp
        exact hK _ _ (Below.refl _ _) rfl trivial
      · refine mono.dutyS_of rfl ?_
        intro f W L hR hO hD hL hi hX K hK
        have eL : mono.lit 67 f [] = ⟨#[f 0, f 1, f 2, f 3, f 4, f 5, f 6, f 7, f 8, f 9, f 10, f 11, f 12, f 13, f 14, f 15, f 16, f 17, f 18, f 19, f 20, f 21, f 22, f 23, f 24, f 25, f 26, f 27, f 28, f 29, f 30, f 31, f 32, f 33, f 34, f 35, f 36, f 37, f 38, f 39, f 40, f 41, f 42, f 43, f 44, f 45, f 46, f 47, f 48, f 49, f 50, f 51, f 52, f 53, f 54, f 55, f 56, f 57, f 58, f 59, f 60, f 61, f 62, f 63, f 64, f 65, f 66], []⟩ := rfl
        replace hK : ∀ v W', (fun W W' => Below W.heap.size W W') W W' → ph4 g q o k ku au 24 v W' → (fun _ _ => True) (fun j => if j = 24 then true else L j) W' → K ((mono.lit 67 f []).put (some 52) v) W' := hK
        rw [eL] at hK ⊢
        simp only [Act.put, List.setIfInBounds_toArray, List.set_cons_succ, List.set_cons_zero] at hK
        have q23 := hD 23 51 (by kernel_rfl) (by kernel_rfl)
        replace q23 : f 51 = (.slice (some ⟨q, o, none⟩) 1 k) := q23
        rw [q23] at hK ⊢
        go_simp
        exact hK _ _ (Below.refl _ _) rfl trivial
      · refine mono.dutyS_of rfl ?_
        intro f W L hR hO hD hL hi hX K hK
        have eL : mono.lit 67 f [] = ⟨#[f 0, f 1, f 2, f 3, f 4, f 5, f 6, f 7, f 8, f 9, f 10, f 11, f 12, f 13, f 14, f 15, f 16, f 17, f 18, f 19, f 20, f 21, f 22, f 23, f 24, f 25, f 26, f 27, f 28, f 29, f 30, f 31, f 32, f 33, f 34, f 35, f 36, f 37, f 38, f 39, f 40, f 41, f 42, f 43, f 44, f 45, f 46, f 47, f 48, f 49, f 50, f 51, f 52, f 53, f 54, f 55, f 56, f 57, f 58, f 59, f 60, f 61, f 62, f 63, f 64, f 65, f 66], []⟩ := rfl
        replace hK : ∀ v W', (fun W W' => Below W.heap.size W W') W W' → ph4 g q o k ku au 25 v W' → (fun _ _ => True) (fun j => if j = 25 then true else L j) W' → K ((mono.lit 67 f []).put (some 53) v) W' := hK
        rw [eL] at hK ⊢
        simp only [Act.put, List.setIfInBounds_toArray, List.set_cons_succ, List.set_cons_zero] at hK
        have q24 := hD 24 52 (by kernel_rfl) (by kernel_rfl)
        replace q24 : f 52 = (.pointer (some ⟨q, o, none⟩)) := q24
        rw [q24] at hK ⊢
        go_simp
        exact hK _ _ (Below.refl _ _) rfl trivial
      · refine mono.dutyS_of rfl ?_
        intro f W L hR hO hD hL hi hX K hK
        have eL : mono.lit 67 f [] = ⟨#[f 0, f 1, f 2, f 3, f 4, f 5, f 6, f 7, f 8, f 9, f 10, f 11, f 12, f 13, f 14, f 15, f 16, f 17, f 18, f 19, f 20, f 21, f 22, f 23, f 24, f 25, f 26, f 27, f 28, f 29, f 30, f 31, f 32, f 33, f 34, f 35, f 36, f 37, f 38, f 39, f 40, f 41, f 42, f 43, f 44, f 45, f 46, f 47, f 48, f 49, f 50, f 51, f 52, f 53, f 54, f 55, f 56, f 57, f 58, f 59, f 60, f 61, f 62, f 63, f 64, f 65, f 66], []⟩ := rfl
        replace hK : ∀ v W', (fun W W' => Below W.heap.size W W') W W' → ph4 g q o k ku au 26 v W' → (fun _ _ => True) (fun j => if j = 26 then true else L j) W' → K ((mono.lit 67 f []).put (some 54) v) W' := hK
        rw [eL] at hK ⊢
        simp only [Act.put, List.setIfInBounds_toArray, List.set_cons_succ, List.set_cons_zero] at hK
        have q25 := hD 25 53 (by kernel_rfl) (by kernel_rfl)
        replace q25 : f 53 = (.pointer (some ⟨q, o + 1, none⟩)) := q25
        rw [q25] at hK ⊢
        have x1 := (hR.cell (p := ⟨q, o + 1, none⟩) hq).trans cu
        go_simp
        exact hK _ _ (Below.refl _ _) rfl trivial
      · refine mono.dutyS_of rfl ?_
        intro f W L hR hO hD hL hi hX K hK
        have eL : mono.lit 67 f [] = ⟨#[f 0, f 1, f 2, f 3, f 4, f 5, f 6, f 7, f 8, f 9, f 10, f 11, f 12, f 13, f 14, f 15, f 16, f 17, f 18, f 19, f 20, f 21, f 22, f 23, f 24, f 25, f 26, f 27, f 28, f 29, f 30, f 31, f 32, f 33, f 34, f 35, f 36, f 37, f 38, f 39, f 40, f 41, f 42, f 43, f 44, f 45, f 46, f 47, f 48, f 49, f 50, f 51, f 52, f 53, f 54, f 55, f 56, f 57, f 58, f 59, f 60, f 61, f 62, f 63, f 64, f 65, f 66], []⟩ := rfl
        replace hK : ∀ v W', (fun W W' => Below W.heap.size W W') W W' → ph4 g q o k ku au 27 v W' → (fun _ _ => True) (fun j => if j = 27 then true else L j) W' → K ((mono.lit 67 f []).put (some 55) v) W' := hK
        rw [eL] at hK ⊢
        simp only [Act.put, List.setIfInBounds_toArray, List.set_cons_succ, List.set_cons_zero] at hK
        have cX := lkeep20 2 W
        go_simp
        refine cX.mono ?_
        rintro e w9 ⟨rfl, hb⟩
        exact hK _ _ hb rfl trivial
      · refine mono.dutyS_of rfl ?_
        intro f W L hR hO hD hL hi hX K hK
        have eL : mono.lit 67 f [] = ⟨#[f 0, f 1, f 2, f 3, f 4, f 5, f 6, f 7, f 8, f 9, f 10, f 11, f 12, f 13, f 14, f 15, f 16, f 17, f 18, f 19, f 20, f 21, f 22, f 23, f 24, f 25, f 26, f 27, f 28, f 29, f 30, f 31, f 32, f 33, f 34, f 35, f 36, f 37, f 38, f 39, f 40, f 41, f 42, f 43, f 44, f 45, f 46, f 47, f 48, f 49, f 50, f 51, f 52, f 53, f 54, f 55, f 56, f 57, f 58, f 59, f 60, f 61, f 62, f 63, f 64, f 65, f 66], []⟩ := rfl
        replace hK : ∀ v W', (fun W W' => Below W.heap.size W W') W W' → ph4 g q o k ku au 28 v W' → (fun _ _ => True) (fun j => if j = 28 then true else L j) W' → K ((mono.lit 67 f []).put (some 56) v) W' := hK
        rw [eL] at hK ⊢
        simp only [Act.put, List.setIfInBounds_toArray, List.set_cons_succ, List.set_cons_zero] at hK
        have cX := lins20 ⟨#[49]⟩ W
        go_simp
        refine cX.mono ?_
        rintro e w9 ⟨rfl, hb⟩
        exact hK _ _ hb rfl trivial
      · refine mono.dutyS_of rfl ?_
        intro f W L hR hO hD hL hi hX K hK
        have eL : mono.lit 67 f [] = ⟨#[f 0, f 1, f 2, f 3, f 4, f 5, f 6, f 7, f 8, f 9, f 10, f 11, f 12, f 13, f 14, f 15, f 16, f 17, f 18, f 19, f 20, f 21, f 22, f 23, f 24, f 25, f 26, f 27, f 28, f 29, f 30, f 31, f 32, f 33, f 34, f 35, f 36, f 37, f 38, f 39, f 40, f 41, f 42, f 43, f 44, f 45, f 46, f 47, f 48, f 49, f 50, f 51, f 52, f 53, f 54, f 55, f 56, f 57, f 58, f 59, f 60, f 61, f 62, f 63, f 64, f 65, f 66], []⟩ := rfl
        replace hK : ∀ v W', (fun W W' => Below W.heap.size W W') W W' → ph4 g q o k ku au 29 v W' → (fun _ _ => True) (fun j => if j = 29 then true else L j) W' → K ((mono.lit 67 f []).put (some 57) v) W' := hK
        rw [eL] at hK ⊢
        simp only [Act.put, List.setIfInBounds_toArray, List.set_cons_succ, List.set_cons_zero] at hK
        have cX := lkeep20 2 W
        go_simp
        refine cX.mono ?_
        rintro e w9 ⟨rfl, hb⟩
        exact hK _ _ hb rfl trivial
      · refine mono.dutyS_of rfl ?_
        intro f W L hR hO hD hL hi hX K hK
        have eL : mono.lit 67 f [] = ⟨#[f 0, f 1, f 2, f 3, f 4, f 5, f 6, f 7, f 8, f 9, f 10, f 11, f 12, f 13, f 14, f 15, f 16, f 17, f 18, f 19, f 20, f 21, f 22, f 23, f 24, f 25, f 26, f 27, f 28, f 29, f 30, f 31, f 32, f 33, f 34, f 35, f 36, f 37, f 38, f 39, f 40, f 41, f 42, f 43, f 44, f 45, f 46, f 47, f 48, f 49, f 50, f 51, f 52, f 53, f 54, f 55, f 56, f 57, f 58, f 59, f 60, f 61, f 62, f 63, f 64, f 65, f 66], []⟩ := rfl
        replace hK : ∀ v W', (fun W W' => Below W.heap.size W W') W W' → ph4 g q o k ku au 30 v W' → (fun _ _ => True) (fun j => if j = 30 then true else L j) W' → K ((mono.lit 67 f []).put (some 58) v) W' := hK
        rw [eL] at hK ⊢
        simp only [Act.put, List.setIfInBounds_toArray, List.set_cons_succ, List.set_cons_zero] at hK
        have q27 := hD 27 55 (by kernel_rfl) (by kernel_rfl)
        replace q27 : f 55 = (.agg #[.int .i64 1, .int .i64 2, .string ⟨#[]⟩]) := q27
        have q28 := hD 28 56 (by kernel_rfl) (by kernel_rfl)
        replace q28 : f 56 = (.agg #[.int .i64 2, .int .i64 0, .string ⟨#[49]⟩]) := q28
        have q29 := hD 29 57 (by kernel_rfl) (by kernel_rfl)
        replace q29 : f 57 = (.agg #[.int .i64 1, .int .i64 2, .string ⟨#[]⟩]) := q29
        rw [q27, q28, q29] at hK ⊢
        go_simp
        exact hK _ _ (alloc_b _ _) ⟨_, rfl, heap_alloc_new _ _⟩ trivial
      · refine mono.dutyS_of rfl ?_
        intro f W L hR hO hD hL hi hX K hK
        have eL : mono.lit 67 f [] = ⟨#[f 0, f 1, f 2, f 3, f 4, f 5, f 6, f 7, f 8, f 9, f 10, f 11, f 12, f 13, f 14, f 15, f 16, f 17, f 18, f 19, f 20, f 21, f 22, f 23, f 24, f 25, f 26, f 27, f 28, f 29, f 30, f 31, f 32, f 33, f 34, f 35, f 36, f 37, f 38, f 39, f 40, f 41, f 42, f 43, f 44, f 45, f 46, f 47, f 48, f 49, f 50, f 51, f 52, f 53, f 54, f 55, f 56, f 57, f 58, f 59, f 60, f 61, f 62, f 63, f 64, f 65, f 66], []⟩ := rfl
        replace hK : ∀ v W', (fun W W' => Below W.heap.size W W') W W' → ph4 g q o k ku au 31 v W' → (fun _ _ => True) (fun j => if j = 31 then true else L j) W' → K ((mono.lit 67 f []).put (some 59) v) W' := hK
        rw [eL] at hK ⊢
        simp only [Act.put, List.setIfInBounds_toArray, List.set_cons_succ, List.set_cons_zero] at hK
        have q26 := hD 26 54 (by kernel_rfl) (by kernel_rfl)
        replace q26 : f 54 = (.slice au 3 ku) := q26
        have q30 := hD 30 58 (by kernel_rfl) (by kernel_rfl)
        obtain ⟨k30, e30, h30⟩ := q30
        rw [q26, e30] at hK ⊢
        have cX := same_true (.slice au 3 ku) (.slice (some ⟨k30, 0, none⟩) 3 3) d3L W (by decide) (RdD.below (w := wc.drew) hdu hR) (rdd_lit (ds := d3L) h30)
        go_simp
        refine cX.mono ?_
        rintro e w9 ⟨rfl, hb⟩
        exact hK _ _ hb rfl trivial
      · refine mono.dutyS_of rfl ?_
        intro f W L hR hO hD hL hi hX K hK
        have eL : mono.lit 67 f [] = ⟨#[f 0, f 1, f 2, f 3, f 4, f 5, f 6, f 7, f 8, f 9, f 10, f 11, f 12, f 13, f 14, f 15, f 16, f 17, f 18, f 19, f 20, f 21, f 22, f 23, f 24, f 25, f 26, f 27, f 28, f 29, f 30, f 31, f 32, f 33, f 34, f 35, f 36, f 37, f 38, f 39, f 40, f 41, f 42, f 43, f 44, f 45, f 46, f 47, f 48, f 49, f 50, f 51, f 52, f 53, f 54, f 55, f 56, f 57, f 58, f 59, f 60, f 61, f 62, f 63, f 64, f 65, f 66], []⟩ := rfl
        replace hK : ∀ v W', (fun W W' => Below W.heap.size W W') W W' → ph4 g q o k ku au 32 v W' → (fun _ _ => True) (fun j => if j = 32 then true else L j) W' → K ((mono.lit 67 f []).put (some 60) v) W' := hK
        rw [eL] at hK ⊢
        simp only [Act.put, List.setIfInBounds_toArray, List.set_cons_succ, List.set_cons_zero] at hK
        have q21 := hD 21 49 (by kernel_rfl) (by kernel_rfl)
        replace q21 : f 49 = (.bool true) := q21
        have q31 := hD 31 59 (by kernel_rfl) (by kernel_rfl)
        replace q31 : f 59 = (.bool true) := q31
        rw [q21, q31] at hK ⊢
        go_simp
        exact hK _ _ (Below.refl _ _) rfl trivial
      · refine mono.dutyS_of rfl ?_
        intro f W L hR hO hD hL hi hX K hK
        have eL : mono.lit 67 f [] = ⟨#[f 0, f 1, f 2, f 3, f 4, f 5, f 6, f 7, f 8, f 9, f 10, f 11, f 12, f 13, f 14, f 15, f 16, f 17, f 18, f 19, f 20, f 21, f 22, f 23, f 24, f 25, f 26, f 27, f 28, f 29, f 30, f 31, f 32, f 33, f 34, f 35, f 36, f 37, f 38, f 39, f 40, f 41, f 42, f 43, f 44, f 45, f 46, f 47, f 48, f 49, f 50, f 51, f 52, f 53, f 54, f 55, f 56, f 57, f 58, f 59, f 60, f 61, f 62, f 63, f 64, f 65, f 66], []⟩ := rfl
        replace hK : ∀ v W', (fun W W' => Below W.heap.size W W') W W' → ph4 g q o k ku au 33 v W' → (fun _ _ => True) (fun j => if j = 33 then true else L j) W' → K ((mono.lit 67 f []).put (some 61) v) W' := hK
        rw [eL] at hK ⊢
        simp only [Act.put, List.setIfInBounds_toArray, List.set_cons_succ, List.set_cons_zero] at hK
        have q32 := hD 32 60 (by kernel_rfl) (by kernel_rfl)
        replace q32 : f 60 = (.bool true) := q32
        rw [q32] at hK ⊢
        go_simp
        exact hK _ _ (Below.refl _ _) rfl trivial
      · refine mono.dutyS_of rfl ?_
        intro f W L hR hO hD hL hi hX K hK
        have eL : mono.lit 67 f [] = ⟨#[f 0, f 1, f 2, f 3, f 4, f 5, f 6, f 7, f 8, f 9, f 10, f 11, f 12, f 13, f 14, f 15, f 16, f 17, f 18, f 19, f 20, f 21, f 22, f 23, f 24, f 25, f 26, f 27, f 28, f 29, f 30, f 31, f 32, f 33, f 34, f 35, f 36, f 37, f 38, f 39, f 40, f 41, f 42, f 43, f 44, f 45, f 46, f 47, f 48, f 49, f 50, f 51, f 52, f 53, f 54, f 55, f 56, f 57, f 58, f 59, f 60, f 61, f 62, f 63, f 64, f 65, f 66], []⟩ := rfl
        replace hK : ∀ v W', (fun W W' => Below W.heap.size W W') W W' → ph4 g q o k ku au 34 v W' → (fun _ _ => True) (fun j => if j = 34 then true else L j) W' → K ((mono.lit 67 f []).put (some 62) v) W' := hK
        rw [eL] at hK ⊢
        simp only [Act.put, List.setIfInBounds_toArray, List.set_cons_succ, List.set_cons_zero] at hK
        have o1 : f 1 = (.pointer (some ⟨g, 0, none⟩)) := hO 1 (by kernel_rfl)
        rw [o1] at hK ⊢
        obtain ⟨x0, x1, x2, x3, x4, x5⟩ := cellsEB (EB.below (W := wc.drew) hE3 hR)
        simp only [E2L] at x0 x1 x2 x3 x4 x5
        go_simp
        exact hK _ _ (Below.refl _ _) rfl trivial
      · refine mono.dutyS_of rfl ?_
        intro f W L hR hO hD hL hi hX K hK
        have eL : mono.lit 67 f [] = ⟨#[f 0, f 1, f 2, f 3, f 4, f 5, f 6, f 7, f 8, f 9, f 10, f 11, f 12, f 13, f 14, f 15, f 16, f 17, f 18, f 19, f 20, f 21, f 22, f 23, f 24, f 25, f 26, f 27, f 28, f 29, f 30, f 31, f 32, f 33, f 34, f 35, f 36, f 37, f 38, f 39, f 40, f 41, f 42, f 43, f 44, f 45, f 46, f 47, f 48, f 49, f 50, f 51, f 52, f 53, f 54, f 55, f 56, f 57, f 58, f 59, f 60, f 61, f 62, f 63, f 64, f 65, f 66], []⟩ := rfl
        replace hK : ∀ v W', (fun W W' => Below W.heap.size W W') W W' → ph4 g q o k ku au 35 v W' → (fun _ _ => True) (fun j => if j = 35 then true else L j) W' → K ((mono.lit 67 f []).put (some 63) v) W' := hK
        rw [eL] at hK ⊢
        simp only [Act.put, List.setIfInBounds_toArray, List.set_cons_succ, List.set_cons_zero] at hK
        have q34 := hD 34 62 (by kernel_rfl) (by kernel_rfl)
        replace q34 : f 62 = (.agg #[.int .i64 1, .int .i64 1, .int .i64 1, .string ⟨#[97, 50, 49, 98, 99]⟩, .int .i64 1, (.slice (some ⟨q, o, none⟩) 1 k)]) := q34
        rw [q34] at hK ⊢
        have cX := says_liveW W (hV.below (chain hB3d hR)) (some ⟨q, o, none⟩) k (RdEd.below (w := wc.drew) hrE hR)
        go_simp
        refine cX.mono ?_
        rintro e w9 ⟨a, k, rfl, hb⟩
        exact hK _ _ hb ⟨a, k, rfl⟩ trivial
      · refine mono.dutyS_of rfl ?_
        intro f W L hR hO hD hL hi hX K hK
        have eL : mono.lit 67 f [] = ⟨#[f 0, f 1, f 2, f 3, f 4, f 5, f 6, f 7, f 8, f 9, f 10, f 11, f 12, f 13, f 14, f 15, f 16, f 17, f 18, f 19, f 20, f 21, f 22, f 23, f 24, f 25, f 26, f 27, f 28, f 29, f 30, f 31, f 32, f 33, f 34, f 35, f 36, f 37, f 38, f 39, f 40, f 41, f 42, f 43, f 44, f 45, f 46, f 47, f 48, f 49, f 50, f 51, f 52, f 53, f 54, f 55, f 56, f 57, f 58, f 59, f 60, f 61, f 62, f 63, f 64, f 65, f 66], []⟩ := rfl
        replace hK : ∀ v W', (fun W W' => Below W.heap.size W W') W W' → ph4 g q o k ku au 36 v W' → (fun _ _ => True) (fun j => if j = 36 then true else L j) W' → K ((mono.lit 67 f []).put (some 64) v) W' := hK
        rw [eL] at hK ⊢
        simp only [Act.put, List.setIfInBounds_toArray, List.set_cons_succ, List.set_cons_zero] at hK
        have q35 := hD 35 63 (by kernel_rfl) (by kernel_rfl)
        obtain ⟨a35, k35, e35⟩ := q35
        rw [e35] at hK ⊢
        go_simp
        exact hK _ _ (Below.refl _ _) rfl trivial
      · refine mono.dutyS_of rfl ?_
        intro f W L hR hO hD hL hi hX K hK
        have eL : mono.lit 67 f [] = ⟨#[f 0, f 1, f 2, f 3, f 4, f 5, f 6, f 7, f 8, f 9, f 10, f 11, f 12, f 13, f 14, f 15, f 16, f 17, f 18, f 19, f 20, f 21, f 22, f 23, f 24, f 25, f 26, f 27, f 28, f 29, f 30, f 31, f 32, f 33, f 34, f 35, f 36, f 37, f 38, f 39, f 40, f 41, f 42, f 43, f 44, f 45, f 46, f 47, f 48, f 49, f 50, f 51, f 52, f 53, f 54, f 55, f 56, f 57, f 58, f 59, f 60, f 61, f 62, f 63, f 64, f 65, f 66], []⟩ := rfl
        replace hK : ∀ v W', (fun W W' => Below W.heap.size W W') W W' → ph4 g q o k ku au 37 v W' → (fun _ _ => True) (fun j => if j = 37 then true else L j) W' → K ((mono.lit 67 f []).put (some 65) v) W' := hK
        rw [eL] at hK ⊢
        simp only [Act.put, List.setIfInBounds_toArray, List.set_cons_succ, List.set_cons_zero] at hK
        have q36 := hD 36 64 (by kernel_rfl) (by kernel_rfl)
        replace q36 : f 64 = (.int .i64 2) := q36
        rw [q36] at hK ⊢
        go_simp
        exact hK _ _ (Below.refl _ _) rfl trivial
      · refine mono.dutyS_of rfl ?_
        intro f W L hR hO hD hL hi hX K hK
        have eL : mono.lit 67 f [] = ⟨#[f 0, f 1, f 2, f 3, f 4, f 5, f 6, f 7, f 8, f 9, f 10, f 11, f 12, f 13, f 14, f 15, f 16, f 17, f 18, f 19, f 20, f 21, f 22, f 23, f 24, f 25, f 26, f 27, f 28, f 29, f 30, f 31, f 32, f 33, f 34, f 35, f 36, f 37, f 38, f 39, f 40, f 41, f 42, f 43, f 44, f 45, f 46, f 47, f 48, f 49, f 50, f 51, f 52, f 53, f 54, f 55, f 56, f 57, f 58, f 59, f 60, f 61, f 62, f 63, f 64, f 65, f 66], []⟩ := rfl
        replace hK : ∀ v W', (fun W W' => Below W.heap.size W W') W W' → ph4 g q o k ku au 38 v W' → (fun _ _ => True) (fun j => if j = 38 then true else L j) W' → K ((mono.lit 67 f []).put (some 66) v) W' := hK
        rw [eL] at hK ⊢
        simp only [Act.put, List.setIfInBounds_toArray, List.set_cons_succ, List.set_cons_zero] at hK
        have q33 := hD 33 61 (by kernel_rfl) (by kernel_rfl)
        replace q33 : f 61 = (.bool true) := q33
        have q37 := hD 37 65 (by kernel_rfl) (by kernel_rfl)
        replace q37 : f 65 = (.bool true) := q37
        rw [q33, q37] at hK ⊢
        go_simp
        exact hK _ _ (Below.refl _ _) rfl trivial
      · refine mono.dutyS_of rfl ?_
        intro f W L hR hO hD hL hi hX K hK
        have eL : mono.lit 67 f [] = ⟨#[f 0, f 1, f 2, f 3, f 4, f 5, f 6, f 7, f 8, f 9, f 10, f 11, f 12, f 13, f 14, f 15, f 16, f 17, f 18, f 19, f 20, f 21, f 22, f 23, f 24, f 25, f 26, f 27, f 28, f 29, f 30, f 31, f 32, f 33, f 34, f 35, f 36, f 37, f 38, f 39, f 40, f 41, f 42, f 43, f 44, f 45, f 46, f 47, f 48, f 49, f 50, f 51, f 52, f 53, f 54, f 55, f 56, f 57, f 58, f 59, f 60, f 61, f 62, f 63, f 64, f 65, f 66], []⟩ := rfl
        replace hK : ∀ v W', (fun W W' => Below W.heap.size W W') W W' → ph4 g q o k ku au 39 v W' → (fun _ _ => True) (fun j => if j = 39 then true else L j) W' → K ((mono.lit 67 f []).put (some 0) v) W' := hK
        rw [eL] at hK ⊢
        simp only [Act.put, List.setIfInBounds_toArray, List.set_cons_zero] at hK
        have q38 := hD 38 66 (by kernel_rfl) (by kernel_rfl)
        replace q38 : f 66 = (.bool true) := q38
        rw [q38] at hK ⊢
        go_simp
        exact hK _ _ (Below.refl _ _) rfl trivial
      · intro f W L hR hO hD hL hX
        have r0 := hD 39 0 (by kernel_rfl)
        replace r0 : f 0 = .bool true := r0
        have r1 := hO 1 (by kernel_rfl)
        have r2 := hO 2 (by kernel_rfl)
        have r3 := hO 3 (by kernel_rfl)
        have r4 := hO 4 (by kernel_rfl)
        have r5 := hO 5 (by kernel_rfl)
        have r6 := hO 6 (by kernel_rfl)
        have r7 := hO 7 (by kernel_rfl)
        have r8 := hO 8 (by kernel_rfl)
        have r9 := hO 9 (by kernel_rfl)
        have r10 := hO 10 (by kernel_rfl)
        have r11 := hO 11 (by kernel_rfl)
        have r12 := hO 12 (by kernel_rfl)
        have r13 := hO 13 (by kernel_rfl)
        have r14 := hO 14 (by kernel_rfl)
        have r15 := hO 15 (by kernel_rfl)
        have r16 := hO 16 (by kernel_rfl)
        have r17 := hO 17 (by kernel_rfl)
        have r18 := hO 18 (by kernel_rfl)
        have r19 := hO 19 (by kernel_rfl)
        have r20 := hO 20 (by kernel_rfl)
        have r21 := hO 21 (by kernel_rfl)
        have r22 := hO 22 (by kernel_rfl)
        have r23 := hO 23 (by kernel_rfl)
        have r24 := hO 24 (by kernel_rfl)
        have r25 := hO 25 (by kernel_rfl)
        have r26 := hO 26 (by kernel_rfl)
        have r27 := hO 27 (by kernel_rfl)
        have eL : mono.lit 67 f [] = ⟨#[f 0, f 1, f 2, f 3, f 4, f 5, f 6, f 7, f 8, f 9, f 10, f 11, f 12, f 13, f 14, f 15, f 16, f 17, f 18, f 19, f 20, f 21, f 22, f 23, f 24, f 25, f 26, f 27, f 28, f 29, f 30, f 31, f 32, f 33, f 34, f 35, f 36, f 37, f 38, f 39, f 40, f 41, f 42, f 43, f 44, f 45, f 46, f 47, f 48, f 49, f 50, f 51, f 52, f 53, f 54, f 55, f 56, f 57, f 58, f 59, f 60, f 61, f 62, f 63, f 64, f 65, f 66], []⟩ := rfl
        rw [eL, r0, r1, r2, r3, r4, r5, r6, r7, r8, r9, r10, r11, r12, r13, r14, r15, r16, r17, r18, r19, r20, r21, r22, r23, r24, r25, r26, r27]
        go_wp2_with fail
        go_ret
        exact ⟨rfl, chain hB3d hR⟩
end Go.Proofs.YtcdnlkhjlgaaoaaGreatDoor
