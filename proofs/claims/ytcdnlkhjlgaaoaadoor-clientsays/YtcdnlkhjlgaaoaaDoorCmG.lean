/-
  The reference: Says, SameMessages.
-/
import Derived.Test.YtcdnlkhjlgaaoaaDoorCmD
namespace Go.Proofs.YtcdnlkhjlgaaoaaDoor
open Go.ChangeShapes Go.WideShapes Go.ChangeAt Go.RowKit Go.PlainAid

/-- Says' box of a message, on its way. -/
structure BxM (x g B : Nat) (E : EdD) (v : Value) (sa : Addr) (u : Value) (m : MsD) (L : Nat → Bool) (W : World) : Prop where
  box : EB W x E v
  src : W.cell? sa = some u
  rd : RdD W u m.d
  bsz : B ≤ W.heap.size
  lt : g < W.heap.size
  nx : x ≠ g
  ns : sa.block < g
  ro : ∀ W' : World, W.grownBy W' (some g) → RdD W' u m.d
  old : L 9 = false → MB W g m (.slice none 0 0)
  new : L 9 = true → L 1 = true ∧ ∃ a k, MB W g m (.slice a m.d.length k) ∧ W.ownsRow B 43 3 (.slice a m.d.length k) m.d.length (ocs m.d)
theorem BxM.old0 {x g B : Nat} {E : EdD} {v : Value} {sa : Addr} {u : Value} {m : MsD} {L : Nat → Bool} {W : World} (h : BxM x g B E v sa u m L W) (hl : L 1 = false) : MB W g m (.slice none 0 0) := by
  cases hs : L 9 with
  | false => exact h.old hs
  | true => have := (h.new hs).1; rw [hl] at this; cases this
theorem BxM.any {x g B : Nat} {E : EdD} {v : Value} {sa : Addr} {u : Value} {m : MsD} {L : Nat → Bool} {W : World} (h : BxM x g B E v sa u m L W) : ∃ cs, W.heap[g]? = some (.cells cs 38) := by
  cases hs : L 9 with
  | false => exact ⟨_, h.old hs⟩
  | true => obtain ⟨-, a, k, h2, -⟩ := h.new hs; exact ⟨_, h2⟩
theorem BxM.step {x g B : Nat} {E : EdD} {v : Value} {sa : Addr} {u : Value} {m : MsD} {L : Nat → Bool} {W W' : World} {i : Nat} (h : BxM x g B E v sa u m L W) (hi : 9 ≠ i) (hb : Below W.heap.size W W') : BxM x g B E v sa u m (fun j => if j = i then true else L j) W' := by
  refine ⟨h.box.below hb, (hb.cell (p := sa) (Nat.lt_trans h.ns h.lt)).trans h.src, h.rd.below hb, Nat.le_trans h.bsz hb.size, Nat.lt_of_lt_of_le h.lt hb.size, h.nx, h.ns, fun W2 hg => h.ro W2 (gb_trans (gb_below hb) hg), fun hs => ?_, fun hs => ?_⟩
  · rw [if_neg hi] at hs
    exact (h.old hs).below hb
  · rw [if_neg hi] at hs
    obtain ⟨h1, a, k, h2, h3⟩ := h.new hs
    exact ⟨by split <;> first | rfl | exact h1, a, k, h2.below hb, own_belowG h3 hb⟩
theorem BxM.sto {x g B : Nat} {E : EdD} {v : Value} {sa : Addr} {u : Value} {m : MsD} {L : Nat → Bool} {W : World} {a : Option Addr} {k : Nat} (h : BxM x g B E v sa u m L W) (hl : L 1 = true) (hs : L 9 = false) (ho : W.ownsRow B 43 3 (.slice a m.d.length k) m.d.length (ocs m.d)) :
    BxM x g B E v sa u m (fun j => if j = 9 then true else L j) (W.setCell ⟨g, 6, none⟩ (.slice a m.d.length k)) := by
  have hg := grown_set W g 6 (.slice a m.d.length k)
  have hne : some sa.block ≠ some g := fun e => by have := h.ns; simp at e; omega
  refine ⟨(hg.block x h.box.lt (fun e => h.nx (Option.some.inj e))).trans h.box, hg.cell h.src hne, h.ro _ hg, Nat.le_trans h.bsz hg.size, Nat.lt_of_lt_of_le h.lt hg.size, h.nx, h.ns, fun W2 h2 => h.ro W2 (gb_trans hg h2), fun e => ?_, fun _ => ⟨?_, a, k, heap_setCell (h.old hs) 6 _, own_set ho (h.old hs) (by decide)⟩⟩
  · rw [if_pos rfl] at e; cases e
  · split
    · rfl
    · exact hl
def phSy (x g B ga oa ca n ku : Nat) (au : Option Addr) (ds : List OpD) : Nat → Value → World → Prop
  | 0, v, _ => v = (.pointer (some ⟨g, 6, none⟩))
  | 1, v, _ => v = (.slice none 0 0)
  | 2, v, _ => v = (.pointer (some ⟨x, 5, none⟩))
  | 3, v, _ => v = (.slice (some ⟨ga, oa, none⟩) n ca)
  | 4, v, _ => v = (.pointer (some ⟨ga, oa, none⟩))
  | 5, v, _ => v = (.pointer (some ⟨ga, oa + 1, none⟩))
  | 6, v, _ => v = (.slice au ds.length ku)
  | 7, v, W => ∃ a k', v = .slice a ds.length k' ∧ W.ownsRow B 43 3 (.slice a ds.length k') ds.length (ocs ds) ∧ (Value.slice a ds.length k').ownBlock ≠ some g
  | 8, v, _ => v = (.pointer (some ⟨g, 6, none⟩))
  | 9, _, _ => True
  | _, _, _ => True
theorem phSy_stays {x g B ga oa ca n ku : Nat} {au : Option Addr} {ds : List OpD} (i : Nat) (v : Value) (w w' : World) (h : phSy x g B ga oa ca n ku au ds i v w) (hg : w.grownBy w' (some g)) : phSy x g B ga oa ca n ku au ds i v w' := by
  unfold phSy at h ⊢
  split at h
  all_goals first
    | exact h
    | (obtain ⟨a, k', e, ho, hn⟩ := h; exact ⟨a, k', e, ho.kept hg (.inr hn), hn⟩)
    | trivial
theorem bel_gb1 {w1 w2 W : World} (h : Below w1.heap.size w1 w2) (hR : w2.drew.grownBy W (some w1.heap.size)) : Below w1.heap.size w1 W :=
  ⟨hR.os.trans h.os, hR.tape.trans h.tape, hR.output.trans h.output, Nat.le_trans h.size hR.size, fun k hk => (hR.block k (Nat.lt_of_lt_of_le hk h.size) (fun e => by simp at e; omega)).trans (h.block k hk)⟩
set_option maxRecDepth 20000 in
set_option maxHeartbeats 1500000 in
theorem rsays_no (E : EdD) (v : Value) (w : World) (hr : RdEd w v E.p) (hF : E.Fit) (ht : E.t.size ≤ 1048576) (hS : ∀ e ∈ E.p, ∀ o ∈ e.d, o.Sm) (hm : mayE E = false) :
    Calls Tryd.prog 18 #[.agg (E.fs v)] w fun e w' => e = .returned (.slice none 0 0) ∧ Below w.heap.size w w' := by
  have hA := alloc_b w (.cells (E.fs v) 26)
  have cM := rmay_any E v _ (hr.below hA) hF ht hS
  obtain ⟨av, kv, rfl⟩ := rded_len hr
  rw [hm] at cM
  unfold EdD.fs at hA cM ⊢
  go_enter Tryd.func18, Tryd.ntmps18
  go_wp2_with fail
  refine cM.mono ?_
  rintro e w1 ⟨rfl, hb1⟩
  go_wp2_with fail
  go_ret
  exact ⟨rfl, chain hA hb1⟩
set_option maxRecDepth 20000 in
set_option maxHeartbeats 1500000 in
theorem rsays_pull (c b r s : Int) (t : ByteArray) (v : Value) (w : World) (hr : RdEd w v []) (hF : EdD.Fit ⟨c, b, r, t, s, []⟩) (ht : t.size ≤ 1048576) (hm : mayE ⟨c, b, r, t, s, []⟩ = true) :
    Calls Tryd.prog 18 #[.agg (EdD.fs ⟨c, b, r, t, s, []⟩ v)] w fun e w' => ∃ v', e = .returned v' ∧ w'.ownsRow w.heap.size 38 7 v' 1 (mcs7 [pullE ⟨c, b, r, t, s, []⟩] [.slice none 0 0]) ∧ Below w.heap.size w w' := by
  obtain ⟨i0, hin, hz0, hz1, hz2⟩ := info_parts Tryd.infoMs
  have hx := eb_new w ⟨c, b, r, t, s, []⟩ v
  have hA := alloc_b w (.cells (EdD.fs ⟨c, b, r, t, s, []⟩ v) 26)
  have cM := rmay_any ⟨c, b, r, t, s, []⟩ v _ (hr.below hA) hF ht (fun e he => by cases he)
  obtain ⟨av, kv, rfl⟩ := rded_len hr
  rw [hm] at cM
  unfold EdD.fs at hA cM ⊢
  simp only [List.length_nil] at *
  go_enter Tryd.func18, Tryd.ntmps18
  go_wp2_with fail
  refine cM.mono ?_
  rintro e w1 ⟨rfl, hb1⟩
  have hB1 := chain hA hb1
  have hx1 := hx.below hb1
  obtain ⟨x0, x1, x2, x3, x4, x5⟩ := cellsEB hx1
  have hs1 := hB1.size
  have hal := alloc_b w1 (.cells #[.int .i64 2, .int .i64 b, .int .i64 c, .int .i64 0, .int .i64 r, .int .i64 0, .slice none 0 0] 38)
  go_wp2_with (at_builtin; refine wpList_append_own _ rfl (.tmp 37) (.tmp 45) 45 rfl w.heap.size 38 i0 (.agg #[.int .i64 0, .int .i64 0, .int .i64 0, .int .i64 0, .int .i64 0, .int .i64 0, .slice none 0 0]) 7 72 Tryd.underlying45 hin hz0 hz1 hz2 rfl (by decide) _ 0 [] rfl (World.ownsRow_nil _ _ _ _) ⟨_, 0, none⟩ 1 1 [.int .i64 2, .int .i64 b, .int .i64 c, .int .i64 0, .int .i64 r, .int .i64 0, .slice none 0 0] rfl rfl (many_new _ _ _) (seven_one _ _ _ _ _ _ _ _ _) (by unfold maxLen; omega) (by omega) (by simp; omega) ?_; intro v4 w4 ho4 hg4 _)
  obtain ⟨a4, k4, rfl⟩ := own_form ho4
  go_ret
  exact ⟨_, rfl, ho4, (chain hB1 hal).grown hg4 (by simp; omega) (fun j hj => by cases hj)⟩
set_option maxRecDepth 20000 in
set_option maxHeartbeats 3000000 in
theorem rsays_edit (c b r s : Int) (t : ByteArray) (x : EdW) (q : List EdW) (v : Value) (w : World) (hr : RdEd w v (x :: q)) (hF : EdD.Fit ⟨c, b, r, t, s, x :: q⟩) (ht : t.size ≤ 1048576) (hS : ∀ e ∈ x :: q, ∀ o ∈ e.d, o.Sm) (hdl : x.d.length ≤ 1048576) (hm : mayE ⟨c, b, r, t, s, x :: q⟩ = true) :
    Calls Tryd.prog 18 #[.agg (EdD.fs ⟨c, b, r, t, s, x :: q⟩ v)] w fun e w' => ∃ v' u, e = .returned v' ∧ w'.ownsRow w.heap.size 38 7 v' 2 (mcs7 [⟨1, b, c, x.q, r, 0, x.d⟩, pullE ⟨c, b, r, t, s, x :: q⟩] [u, .slice none 0 0]) ∧ w'.ownsRow w.heap.size 43 3 u x.d.length (ocs x.d) ∧ Below w.heap.size w w' := by
  obtain ⟨i0, hin, hz0, hz1, hz2⟩ := info_parts Tryd.infoMs
  have hx := eb_new w ⟨c, b, r, t, s, x :: q⟩ v
  have hA := alloc_b w (.cells (EdD.fs ⟨c, b, r, t, s, x :: q⟩ v) 26)
  have cM := rmay_any ⟨c, b, r, t, s, x :: q⟩ v _ (hr.below hA) hF ht hS
  obtain ⟨ao, cp, rfl, ⟨hcp, -⟩, hc⟩ := id hr
  obtain ⟨ga, oa, u0, rfl, hg, c0, c1, c2⟩ := hc 0 x rfl
  simp only [Nat.zero_mul, Nat.add_zero] at c0 c1
  rw [hm] at cM
  obtain ⟨au, ku, rfl⟩ := rdd_len c2
  have hql : q.length + 1 ≤ maxLen := hF.pl
  unfold maxLen at hql
  unfold EdD.fs at hA cM ⊢
  simp only [List.length_cons] at *
  generalize hn : q.length = n at *
  clear hc hr hF hS
  go_enter Tryd.func18, Tryd.ntmps18
  go_wp2_with fail
  refine cM.mono ?_
  rintro e w1 ⟨rfl, hb1⟩
  have hB1 := chain hA hb1
  have hx1 := hx.below hb1
  have hs1 := hB1.size
  have hxl := hx1.lt
  replace c0 := (hB1.cell (p := ⟨ga, oa, none⟩) hg).trans c0
  replace c1 := (hB1.cell (p := ⟨ga, oa + 1, none⟩) hg).trans c1
  replace c2 := c2.below hB1
  replace hg := Nat.lt_of_lt_of_le hg hB1.size
  obtain ⟨x0, x1, x2, x3, x4, x5⟩ := cellsEB hx1
  have hn1 : ((n : Int) + 1 > 0) := by omega
  have hn2 : ((0 : Int) < (n : Int) + 1) := by omega
  clear cM hA hx hb1
  go_upto_region 5 with fail
  go_region
  have hm2 : MB (w1.alloc (.cells #[.int .i64 1, .int .i64 b, .int .i64 c, .int .i64 x.q, .int .i64 r, .int .i64 0, .slice none 0 0] 38)).drew w1.heap.size ⟨1, b, c, x.q, r, 0, x.d⟩ (.slice none 0 0) := mb_new w1 ⟨1, b, c, x.q, r, 0, x.d⟩ (.slice none 0 0)
  have hW2 : Below w1.heap.size w1 (w1.alloc (.cells #[.int .i64 1, .int .i64 b, .int .i64 c, .int .i64 x.q, .int .i64 r, .int .i64 0, .slice none 0 0] 38)).drew := (alloc_b w1 (.cells #[.int .i64 1, .int .i64 b, .int .i64 c, .int .i64 x.q, .int .i64 r, .int .i64 0, .slice none 0 0] 38)).drew
  clear x0 x1 x2 x3 x4 x5 c0
  generalize (w1.alloc (.cells #[.int .i64 1, .int .i64 b, .int .i64 c, .int .i64 x.q, .int .i64 r, .int .i64 0, .slice none 0 0] 38)).drew = w2 at *
  have hm2l : w1.heap.size < w2.heap.size := EB.lt' hm2
  have hBx : BxM w.heap.size w1.heap.size w.heap.size ⟨c, b, r, t, s, x :: q⟩ (.slice (some ⟨ga, oa, none⟩) (n + 1) cp) ⟨ga, oa + 1, none⟩ (.slice au x.d.length ku) ⟨1, b, c, x.q, r, 0, x.d⟩ (fun _ => false) w2.drew :=
    ⟨(hx1.below hW2.drew), (hW2.drew.cell (p := ⟨ga, oa + 1, none⟩) hg).trans c1, c2.below hW2.drew, by show _ ≤ w2.heap.size; omega, hm2l, by omega, hg, fun W' h => c2.below (bel_gb1 hW2 (gb_trans (gb_refl _ _) h)), fun _ => hm2, fun e => by cases e⟩
  go_upto_region 6 with fail
  refine mono.region_monoS (fun W W' => World.grownBy W W' (some w1.heap.size)) (gb_refl w1.heap.size) (fun _ _ _ => gb_trans) (phSy w.heap.size w1.heap.size w.heap.size ga oa cp (n + 1) ku au x.d) (BxM w.heap.size w1.heap.size w.heap.size ⟨c, b, r, t, s, x :: q⟩ (.slice (some ⟨ga, oa, none⟩) (n + 1) cp) ⟨ga, oa + 1, none⟩ (.slice au x.d.length ku) ⟨1, b, c, x.q, r, 0, x.d⟩) 47 [] [0, 1, 2, 3, 4, 5, 6, 7, 8, 9] (by kernel_rfl) rfl rfl (by kernel_rfl) [] (by kernel_rfl) (by simp) (phSy_stays) (hBx) (.cons ?_ (.cons ?_ (.cons ?_ (.cons ?_ (.cons ?_ (.cons ?_ (.cons ?_ (.cons ?_ (.cons ?_ (.cons ?_ (.nil))))))))))) ?_
  · refine mono.dutyS_of rfl ?_
    intro f W L hR hO hD hL hi hX K hK
    have eL : mono.lit 47 f [] = ⟨#[f 0, f 1, f 2, f 3, f 4, f 5, f 6, f 7, f 8, f 9, f 10, f 11, f 12, f 13, f 14, f 15, f 16, f 17, f 18, f 19, f 20, f 21, f 22, f 23, f 24, f 25, f 26, f 27, f 28, f 29, f 30, f 31, f 32, f 33, f 34, f 35, f 36, f 37, f 38, f 39, f 40, f 41, f 42, f 43, f 44, f 45, f 46], []⟩ := rfl
    replace hK : ∀ v W', (fun W W' => World.grownBy W W' (some w1.heap.size)) W W' → phSy w.heap.size w1.heap.size w.heap.size ga oa cp (n + 1) ku au x.d 0 v W' → BxM w.heap.size w1.heap.size w.heap.size ⟨c, b, r, t, s, x :: q⟩ (.slice (some ⟨ga, oa, none⟩) (n + 1) cp) ⟨ga, oa + 1, none⟩ (.slice au x.d.length ku) ⟨1, b, c, x.q, r, 0, x.d⟩ (fun j => if j = 0 then true else L j) W' → K ((mono.lit 47 f []).put (some 24) v) W' := hK
    rw [eL] at hK ⊢
    simp only [Act.put, List.setIfInBounds_toArray, List.set_cons_succ, List.set_cons_zero] at hK
    have o4 : f 4 = (.pointer (some ⟨w1.heap.size, 0, none⟩)) := hO 4 (by kernel_rfl)
    rw [o4] at hK ⊢
    go_simp
    exact hK _ _ (gb_refl _ _) rfl (hX.step (by decide) (Below.refl _ _))
  · refine mono.dutyS_of rfl ?_
    intro f W L hR hO hD hL hi hX K hK
    have eL : mono.lit 47 f [] = ⟨#[f 0, f 1, f 2, f 3, f 4, f 5, f 6, f 7, f 8, f 9, f 10, f 11, f 12, f 13, f 14, f 15, f 16, f 17, f 18, f 19, f 20, f 21, f 22, f 23, f 24, f 25, f 26, f 27, f 28, f 29, f 30, f 31, f 32, f 33, f 34, f 35, f 36, f 37, f 38, f 39, f 40, f 41, f 42, f 43, f 44, f 45, f 46], []⟩ := rfl
    replace hK : ∀ v W', (fun W W' => World.grownBy W W' (some w1.heap.size)) W W' → phSy w.heap.size w1.heap.size w.heap.size ga oa cp (n + 1) ku au x.d 1 v W' → BxM w.heap.size w1.heap.size w.heap.size ⟨c, b, r, t, s, x :: q⟩ (.slice (some ⟨ga, oa, none⟩) (n + 1) cp) ⟨ga, oa + 1, none⟩ (.slice au x.d.length ku) ⟨1, b, c, x.q, r, 0, x.d⟩ (fun j => if j = 1 then true else L j) W' → K ((mono.lit 47 f []).put (some 25) v) W' := hK
    rw [eL] at hK ⊢
    simp only [Act.put, List.setIfInBounds_toArray, List.set_cons_succ, List.set_cons_zero] at hK
    have q0 := hD 0 24 (by kernel_rfl) (by kernel_rfl)
    replace q0 : f 24 = (.pointer (some ⟨w1.heap.size, 6, none⟩)) := q0
    rw [q0] at hK ⊢
    have hEB := hX.old0 hi
    have y6 := (cellsMB hEB).2.2.2.2.2.2
    go_simp
    exact hK _ _ (gb_refl _ _) rfl (hX.step (by decide) (Below.refl _ _))
  · refine mono.dutyS_of rfl ?_
    intro f W L hR hO hD hL hi hX K hK
    have eL : mono.lit 47 f [] = ⟨#[f 0, f 1, f 2, f 3, f 4, f 5, f 6, f 7, f 8, f 9, f 10, f 11, f 12, f 13, f 14, f 15, f 16, f 17, f 18, f 19, f 20, f 21, f 22, f 23, f 24, f 25, f 26, f 27, f 28, f 29, f 30, f 31, f 32, f 33, f 34, f 35, f 36, f 37, f 38, f 39, f 40, f 41, f 42, f 43, f 44, f 45, f 46], []⟩ := rfl
    replace hK : ∀ v W', (fun W W' => World.grownBy W W' (some w1.heap.size)) W W' → phSy w.heap.size w1.heap.size w.heap.size ga oa cp (n + 1) ku au x.d 2 v W' → BxM w.heap.size w1.heap.size w.heap.size ⟨c, b, r, t, s, x :: q⟩ (.slice (some ⟨ga, oa, none⟩) (n + 1) cp) ⟨ga, oa + 1, none⟩ (.slice au x.d.length ku) ⟨1, b, c, x.q, r, 0, x.d⟩ (fun j => if j = 2 then true else L j) W' → K ((mono.lit 47 f []).put (some 26) v) W' := hK
    rw [eL] at hK ⊢
    simp only [Act.put, List.setIfInBounds_toArray, List.set_cons_succ, List.set_cons_zero] at hK
    have o1 : f 1 = (.pointer (some ⟨w.heap.size, 0, none⟩)) := hO 1 (by kernel_rfl)
    rw [o1] at hK ⊢
    go_simp
    exact hK _ _ (gb_refl _ _) rfl (hX.step (by decide) (Below.refl _ _))
  · refine mono.dutyS_of rfl ?_
    intro f W L hR hO hD hL hi hX K hK
    have eL : mono.lit 47 f [] = ⟨#[f 0, f 1, f 2, f 3, f 4, f 5, f 6, f 7, f 8, f 9, f 10, f 11, f 12, f 13, f 14, f 15, f 16, f 17, f 18, f 19, f 20, f 21, f 22, f 23, f 24, f 25, f 26, f 27, f 28, f 29, f 30, f 31, f 32, f 33, f 34, f 35, f 36, f 37, f 38, f 39, f 40, f 41, f 42, f 43, f 44, f 45, f 46], []⟩ := rfl
    replace hK : ∀ v W', (fun W W' => World.grownBy W W' (some w1.heap.size)) W W' → phSy w.heap.size w1.heap.size w.heap.size ga oa cp (n + 1) ku au x.d 3 v W' → BxM w.heap.size w1.heap.size w.heap.size ⟨c, b, r, t, s, x :: q⟩ (.slice (some ⟨ga, oa, none⟩) (n + 1) cp) ⟨ga, oa + 1, none⟩ (.slice au x.d.length ku) ⟨1, b, c, x.q, r, 0, x.d⟩ (fun j => if j = 3 then true else L j) W' → K ((mono.lit 47 f []).put (some 27) v) W' := hK
    rw [eL] at hK ⊢
    simp only [Act.put, List.setIfInBounds_toArray, List.set_cons_succ, List.set_cons_zero] at hK
    have q2 := hD 2 26 (by kernel_rfl) (by kernel_rfl)
    replace q2 : f 26 = (.pointer (some ⟨w.heap.size, 5, none⟩)) := q2
    rw [q2] at hK ⊢
    have x5 := (cellsEB (hX.box)).2.2.2.2.2
    go_simp
    exact hK _ _ (gb_refl _ _) rfl (hX.step (by decide) (Below.refl _ _))
  · refine mono.dutyS_of rfl ?_
    intro f W L hR hO hD hL hi hX K hK
    have eL : mono.lit 47 f [] = ⟨#[f 0, f 1, f 2, f 3, f 4, f 5, f 6, f 7, f 8, f 9, f 10, f 11, f 12, f 13, f 14, f 15, f 16, f 17, f 18, f 19, f 20, f 21, f 22, f 23, f 24, f 25, f 26, f 27, f 28, f 29, f 30, f 31, f 32, f 33, f 34, f 35, f 36, f 37, f 38, f 39, f 40, f 41, f 42, f 43, f 44, f 45, f 46], []⟩ := rfl
    replace hK : ∀ v W', (fun W W' => World.grownBy W W' (some w1.heap.size)) W W' → phSy w.heap.size w1.heap.size w.heap.size ga oa cp (n + 1) ku au x.d 4 v W' → BxM w.heap.size w1.heap.size w.heap.size ⟨c, b, r, t, s, x :: q⟩ (.slice (some ⟨ga, oa, none⟩) (n + 1) cp) ⟨ga, oa + 1, none⟩ (.slice au x.d.length ku) ⟨1, b, c, x.q, r, 0, x.d⟩ (fun j => if j = 4 then true else L j) W' → K ((mono.lit 47 f []).put (some 28) v) W' := hK
    rw [eL] at hK ⊢
    simp only [Act.put, List.setIfInBounds_toArray, List.set_cons_succ, List.set_cons_zero] at hK
    have q3 := hD 3 27 (by kernel_rfl) (by kernel_rfl)
    replace q3 : f 27 = (.slice (some ⟨ga, oa, none⟩) (n + 1) cp) := q3
    rw [q3] at hK ⊢
    go_simp
    exact hK _ _ (gb_refl _ _) rfl (hX.step (by decide) (Below.refl _ _))
  · refine mono.dutyS_of rfl ?_
    intro f W L hR hO hD hL hi hX K hK
    have eL : mono.lit 47 f [] = ⟨#[f 0, f 1, f 2, f 3, f 4, f 5, f 6, f 7, f 8, f 9, f 10, f 11, f 12, f 13, f 14, f 15, f 16, f 17, f 18, f 19, f 20, f 21, f 22, f 23, f 24, f 25, f 26, f 27, f 28, f 29, f 30, f 31, f 32, f 33, f 34, f 35, f 36, f 37, f 38, f 39, f 40, f 41, f 42, f 43, f 44, f 45, f 46], []⟩ := rfl
    replace hK : ∀ v W', (fun W W' => World.grownBy W W' (some w1.heap.size)) W W' → phSy w.heap.size w1.heap.size w.heap.size ga oa cp (n + 1) ku au x.d 5 v W' → BxM w.heap.size w1.heap.size w.heap.size ⟨c, b, r, t, s, x :: q⟩ (.slice (some ⟨ga, oa, none⟩) (n + 1) cp) ⟨ga, oa + 1, none⟩ (.slice au x.d.length ku) ⟨1, b, c, x.q, r, 0, x.d⟩ (fun j => if j = 5 then true else L j) W' → K ((mono.lit 47 f []).put (some 29) v) W' := hK
    rw [eL] at hK ⊢
    simp only [Act.put, List.setIfInBounds_toArray, List.set_cons_succ, List.set_cons_zero] at hK
    have q4 := hD 4 28 (by kernel_rfl) (by kernel_rfl)
    replace q4 : f 28 = (.pointer (some ⟨ga, oa, none⟩)) := q4
    rw [q4] at hK ⊢
    go_simp
    exact hK _ _ (gb_refl _ _) rfl (hX.step (by decide) (Below.refl _ _))
  · refine mono.dutyS_of rfl ?_
    intro f W L hR hO hD hL hi hX K hK
    have eL : mono.lit 47 f [] = ⟨#[f 0, f 1, f 2, f 3, f 4, f 5, f 6, f 7, f 8, f 9, f 10, f 11, f 12, f 13, f 14, f 15, f 16, f 17, f 18, f 19, f 20, f 21, f 22, f 23, f 24, f 25, f 26, f 27, f 28, f 29, f 30, f 31, f 32, f 33, f 34, f 35, f 36, f 37, f 38, f 39, f 40, f 41, f 42, f 43, f 44, f 45, f 46], []⟩ := rfl
    replace hK : ∀ v W', (fun W W' => World.grownBy W W' (some w1.heap.size)) W W' → phSy w.heap.size w1.heap.size w.heap.size ga oa cp (n + 1) ku au x.d 6 v W' → BxM w.heap.size w1.heap.size w.heap.size ⟨c, b, r, t, s, x :: q⟩ (.slice (some ⟨ga, oa, none⟩) (n + 1) cp) ⟨ga, oa + 1, none⟩ (.slice au x.d.length ku) ⟨1, b, c, x.q, r, 0, x.d⟩ (fun j => if j = 6 then true else L j) W' → K ((mono.lit 47 f []).put (some 30) v) W' := hK
    rw [eL] at hK ⊢
    simp only [Act.put, List.setIfInBounds_toArray, List.set_cons_succ, List.set_cons_zero] at hK
    have q5 := hD 5 29 (by kernel_rfl) (by kernel_rfl)
    replace q5 : f 29 = (.pointer (some ⟨ga, oa + 1, none⟩)) := q5
    rw [q5] at hK ⊢
    have c0 := (hX.src)
    go_simp
    exact hK _ _ (gb_refl _ _) rfl (hX.step (by decide) (Below.refl _ _))
  · refine mono.dutyS_of rfl ?_
    intro f W L hR hO hD hL hi hX K hK
    have eL : mono.lit 47 f [] = ⟨#[f 0, f 1, f 2, f 3, f 4, f 5, f 6, f 7, f 8, f 9, f 10, f 11, f 12, f 13, f 14, f 15, f 16, f 17, f 18, f 19, f 20, f 21, f 22, f 23, f 24, f 25, f 26, f 27, f 28, f 29, f 30, f 31, f 32, f 33, f 34, f 35, f 36, f 37, f 38, f 39, f 40, f 41, f 42, f 43, f 44, f 45, f 46], []⟩ := rfl
    replace hK : ∀ v W', (fun W W' => World.grownBy W W' (some w1.heap.size)) W W' → phSy w.heap.size w1.heap.size w.heap.size ga oa cp (n + 1) ku au x.d 7 v W' → BxM w.heap.size w1.heap.size w.heap.size ⟨c, b, r, t, s, x :: q⟩ (.slice (some ⟨ga, oa, none⟩) (n + 1) cp) ⟨ga, oa + 1, none⟩ (.slice au x.d.length ku) ⟨1, b, c, x.q, r, 0, x.d⟩ (fun j => if j = 7 then true else L j) W' → K ((mono.lit 47 f []).put (some 31) v) W' := hK
    rw [eL] at hK ⊢
    simp only [Act.put, List.setIfInBounds_toArray, List.set_cons_succ, List.set_cons_zero] at hK
    have q1 := hD 1 25 (by kernel_rfl) (by kernel_rfl)
    replace q1 : f 25 = (.slice none 0 0) := q1
    have q6 := hD 6 30 (by kernel_rfl) (by kernel_rfl)
    replace q6 : f 30 = (.slice au x.d.length ku) := q6
    rw [q1, q6] at hK ⊢
    refine wp_dup (.tmp 25) (.tmp 30) rfl rfl rfl hX.rd hdl hX.bsz ?_
    intro a' k' w' ho' hb'
    obtain ⟨cs, hcs⟩ := hX.any
    exact hK _ _ (gb_below hb') ⟨a', k', rfl, ho', fun e => box_apart ho' ((hb'.block w1.heap.size hX.lt).trans hcs) (by decide) e.symm⟩ (hX.step (by decide) hb')
  · refine mono.dutyS_of rfl ?_
    intro f W L hR hO hD hL hi hX K hK
    have eL : mono.lit 47 f [] = ⟨#[f 0, f 1, f 2, f 3, f 4, f 5, f 6, f 7, f 8, f 9, f 10, f 11, f 12, f 13, f 14, f 15, f 16, f 17, f 18, f 19, f 20, f 21, f 22, f 23, f 24, f 25, f 26, f 27, f 28, f 29, f 30, f 31, f 32, f 33, f 34, f 35, f 36, f 37, f 38, f 39, f 40, f 41, f 42, f 43, f 44, f 45, f 46], []⟩ := rfl
    replace hK : ∀ v W', (fun W W' => World.grownBy W W' (some w1.heap.size)) W W' → phSy w.heap.size w1.heap.size w.heap.size ga oa cp (n + 1) ku au x.d 8 v W' → BxM w.heap.size w1.heap.size w.heap.size ⟨c, b, r, t, s, x :: q⟩ (.slice (some ⟨ga, oa, none⟩) (n + 1) cp) ⟨ga, oa + 1, none⟩ (.slice au x.d.length ku) ⟨1, b, c, x.q, r, 0, x.d⟩ (fun j => if j = 8 then true else L j) W' → K ((mono.lit 47 f []).put (some 32) v) W' := hK
    rw [eL] at hK ⊢
    simp only [Act.put, List.setIfInBounds_toArray, List.set_cons_succ, List.set_cons_zero] at hK
    have o4 : f 4 = (.pointer (some ⟨w1.heap.size, 0, none⟩)) := hO 4 (by kernel_rfl)
    rw [o4] at hK ⊢
    go_simp
    exact hK _ _ (gb_refl _ _) rfl (hX.step (by decide) (Below.refl _ _))
  · refine mono.dutyS_of rfl ?_
    intro f W L hR hO hD hL hi hX K hK
    have eL : mono.lit 47 f [] = ⟨#[f 0, f 1, f 2, f 3, f 4, f 5, f 6, f 7, f 8, f 9, f 10, f 11, f 12, f 13, f 14, f 15, f 16, f 17, f 18, f 19, f 20, f 21, f 22, f 23, f 24, f 25, f 26, f 27, f 28, f 29, f 30, f 31, f 32, f 33, f 34, f 35, f 36, f 37, f 38, f 39, f 40, f 41, f 42, f 43, f 44, f 45, f 46], []⟩ := rfl
    replace hK : ∀ v W', (fun W W' => World.grownBy W W' (some w1.heap.size)) W W' → phSy w.heap.size w1.heap.size w.heap.size ga oa cp (n + 1) ku au x.d 9 v W' → BxM w.heap.size w1.heap.size w.heap.size ⟨c, b, r, t, s, x :: q⟩ (.slice (some ⟨ga, oa, none⟩) (n + 1) cp) ⟨ga, oa + 1, none⟩ (.slice au x.d.length ku) ⟨1, b, c, x.q, r, 0, x.d⟩ (fun j => if j = 9 then true else L j) W' → K ((mono.lit 47 f []).put none v) W' := hK
    rw [eL] at hK ⊢
    simp only [Act.put] at hK
    have q7 := hD 7 31 (by kernel_rfl) (by kernel_rfl)
    obtain ⟨a7, k7, e7, o7, n7⟩ := q7
    have q8 := hD 8 32 (by kernel_rfl) (by kernel_rfl)
    replace q8 : f 32 = (.pointer (some ⟨w1.heap.size, 6, none⟩)) := q8
    rw [e7, q8] at hK ⊢
    have hEB := hX.old hi
    have y6 := (cellsMB hEB).2.2.2.2.2.2
    have f6 := frz hEB 6
    go_simp
    exact hK undef _ (grown_set _ _ _ _) trivial (hX.sto (hL 1 (by kernel_rfl)) hi o7)
  · intro f W L hR hO hD hL hX
    have r0 := hO 0 (by kernel_rfl)
    have r1 := hO 1 (by kernel_rfl)
    have r2 := hO 2 (by kernel_rfl)
    have r3 := hO 3 (by kernel_rfl)
    have r4 := hO 4 (by kernel_rfl)
    have r5 := hO 5 (by kernel_rfl)
    have r6 := hO 6 (by kernel_rfl)
    have r7 := hO 7 (by kernel_rfl)
    have r8 := hO 8 (by kernel_rfl)
    have r9 := hO 9 (by kernel_rfl)
    have r10 := hO 10 (by kernel_rfl)
    have r11 := hO 11 (by kernel_rfl)
    have r12 := hO 12 (by kernel_rfl)
    have r13 := hO 13 (by kernel_rfl)
    have r14 := hO 14 (by kernel_rfl)
    have r15 := hO 15 (by kernel_rfl)
    have r16 := hO 16 (by kernel_rfl)
    have r17 := hO 17 (by kernel_rfl)
    have r18 := hO 18 (by kernel_rfl)
    have r19 := hO 19 (by kernel_rfl)
    have r20 := hO 20 (by kernel_rfl)
    have r21 := hO 21 (by kernel_rfl)
    have r22 := hO 22 (by kernel_rfl)
    have r23 := hO 23 (by kernel_rfl)
    have r33 := hO 33 (by kernel_rfl)
    have r34 := hO 34 (by kernel_rfl)
    have r35 := hO 35 (by kernel_rfl)
    have r36 := hO 36 (by kernel_rfl)
    have r37 := hO 37 (by kernel_rfl)
    have r38 := hO 38 (by kernel_rfl)
    have r39 := hO 39 (by kernel_rfl)
    have r40 := hO 40 (by kernel_rfl)
    have r41 := hO 41 (by kernel_rfl)
    have r42 := hO 42 (by kernel_rfl)
    have r43 := hO 43 (by kernel_rfl)
    have r44 := hO 44 (by kernel_rfl)
    have r45 := hO 45 (by kernel_rfl)
    have r46 := hO 46 (by kernel_rfl)
    have eL : mono.lit 47 f [] = ⟨#[f 0, f 1, f 2, f 3, f 4, f 5, f 6, f 7, f 8, f 9, f 10, f 11, f 12, f 13, f 14, f 15, f 16, f 17, f 18, f 19, f 20, f 21, f 22, f 23, f 24, f 25, f 26, f 27, f 28, f 29, f 30, f 31, f 32, f 33, f 34, f 35, f 36, f 37, f 38, f 39, f 40, f 41, f 42, f 43, f 44, f 45, f 46], []⟩ := rfl
    rw [eL, r0, r1, r2, r3, r4, r5, r6, r7, r8, r9, r10, r11, r12, r13, r14, r15, r16, r17, r18, r19, r20, r21, r22, r23, r33, r34, r35, r36, r37, r38, r39, r40, r41, r42, r43, r44, r45, r46]
    obtain ⟨-, a6, k6, hm6, ho6⟩ := hX.new (hL 9 (by decide))
    have hbW := bel_gb1 hW2 hR
    have hxW := hx1.below hbW
    have hsW := hbW.size
    have hBW := chain hB1 hbW
    obtain ⟨y0, y1, y2, y3, y4, y5, y6⟩ := cellsMB hm6
    simp only at y0 y1 y2 y3 y4 y5 y6 ho6
    have hal := alloc_b W (.cells #[.int .i64 1, .int .i64 b, .int .i64 c, .int .i64 x.q, .int .i64 r, .int .i64 0, .slice a6 x.d.length k6] 38)
    have hoD := own_belowG ho6 hal
    have hxA := hxW.below hal
    have hBA := chain hBW hal
    clear hX hR hO hD hL hBx hm2 hW2 c1 c2
    go_wp2_with (first
      | (at_builtin; refine wpList_append_own _ rfl (.tmp 33) (.tmp 35) 45 rfl w.heap.size 38 i0 (.agg #[.int .i64 0, .int .i64 0, .int .i64 0, .int .i64 0, .int .i64 0, .int .i64 0, .slice none 0 0]) 7 72 Tryd.underlying45 hin hz0 hz1 hz2 rfl (by decide) _ 0 [] rfl (World.ownsRow_nil _ _ _ _) ⟨_, 0, none⟩ 1 1 [.int .i64 1, .int .i64 b, .int .i64 c, .int .i64 x.q, .int .i64 r, .int .i64 0, .slice a6 x.d.length k6] rfl rfl (many_new _ _ _) (seven_one _ _ _ _ _ _ _ _ _) (by unfold maxLen; omega) (by omega) (by simp; omega) ?_; intro v7 w7 ho7 hg7 _; obtain ⟨a7, k7, rfl⟩ := own_form ho7; have hb7 : Below w.heap.size w w7 := hBA.grown hg7 (by simp; omega) (fun j hj => by cases hj); have hbb7 : Below (W.alloc (.cells #[.int .i64 1, .int .i64 b, .int .i64 c, .int .i64 x.q, .int .i64 r, .int .i64 0, .slice a6 x.d.length k6] 38)).heap.size (W.alloc (.cells #[.int .i64 1, .int .i64 b, .int .i64 c, .int .i64 x.q, .int .i64 r, .int .i64 0, .slice a6 x.d.length k6] 38)) w7 := ⟨hg7.os, hg7.tape, hg7.output, hg7.size, fun j hj => hg7.block j hj (fun h => by cases h)⟩; have hx7 := hxA.below hbb7; have hoD7 := own_belowG hoD hbb7; have hs7 := hbb7.size; obtain ⟨z0, z1, z2, z3, z4, z5⟩ := cellsEB hx7; have hal8 := alloc_b w7 (.cells #[.int .i64 2, .int .i64 b, .int .i64 c, .int .i64 0, .int .i64 r, .int .i64 0, .slice none 0 0] 38); have ho8 := own_belowG ho7 hal8; have hoD8 := own_belowG hoD7 hal8; have hB8 := chain hb7 hal8; have hs8 := hb7.size; clear y0 y1 y2 y3 y4 y5 y6)
      | (at_builtin; refine wpList_append_own _ rfl (.tmp 37) (.tmp 45) 45 rfl w.heap.size 38 i0 (.agg #[.int .i64 0, .int .i64 0, .int .i64 0, .int .i64 0, .int .i64 0, .int .i64 0, .slice none 0 0]) 7 72 Tryd.underlying45 hin hz0 hz1 hz2 rfl (by decide) _ 1 _ rfl ho8 ⟨_, 0, none⟩ 1 1 [.int .i64 2, .int .i64 b, .int .i64 c, .int .i64 0, .int .i64 r, .int .i64 0, .slice none 0 0] rfl rfl (many_new _ _ _) (seven_one _ _ _ _ _ _ _ _ _) (by unfold maxLen; omega) (by omega) (by simp; omega) ?_; intro v9 w9 ho9 hg9 _))
    obtain ⟨a9, k9, rfl⟩ := own_form ho9
    go_ret
    have hap := own_apart hoD8 ho8 (by decide)
    refine ⟨_, rfl, .slice a6 x.d.length k6, ho9, hoD8.kept hg9 hap, hB8.grown hg9 (by simp; omega) (fun j hj => (ho8.lt j hj).1)⟩
end Go.Proofs.YtcdnlkhjlgaaoaaDoor
