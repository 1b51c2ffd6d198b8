/-
  The reference: Copy.
-/
import Derived.Test.YtcdnlkhjlgaaoaaDoorCmC
import Derived.Test.YtcdnlkhjlgaaoaaDoorDArU
import Derived.Laws.AppendOwnNone
namespace Go.Proofs.YtcdnlkhjlgaaoaaDoor
open Go.ChangeShapes Go.WideShapes Go.ChangeAt Go.RowKit Go.PlainAid

set_option maxRecDepth 20000 in
/-- append(nil, d...): a delta in memory of its own. -/
theorem wp_dup {W : World} {o : Oper} {a : Act} {K : Act → World → Prop} {Q : Exit → Act → World → Prop} (s x : Operand) {u : Value} {ds : List OpD} {B : Nat} (ho : o.op = .call { callee := .builtin .append, args := #[s, x], argTypes := #[33, 33] }) (hs : a.eval s = .slice none 0 0) (hx : a.eval x = u) (hr : RdD W u ds) (hl : ds.length ≤ 1048576) (hB : B ≤ W.heap.size)
    (h : ∀ a' k' w', w'.ownsRow B 43 3 (.slice a' ds.length k') ds.length (ocs ds) → Below W.heap.size W w' → K (a.put o.dst (.slice a' ds.length k')) w') : o.wp Tryd.prog a W K Q := by
  obtain ⟨i0, hin, hz0, hz1, hz2⟩ := info_parts Tryd.infoOp
  have hr' := hr
  obtain ⟨ao, cp, rfl, ⟨hc1, hc2⟩, hc⟩ := hr
  have hnil := World.ownsRow_nil W B 43 3
  cases ao with
  | none =>
    have hd : ds = [] := by
      cases ds with
      | nil => rfl
      | cons d l => obtain ⟨b, off, e, _⟩ := hc 0 d rfl; cases e
    subst hd
    have hcp := hc2 rfl
    subst hcp
    have hrun := run_append_owned_none (P := Tryd.prog) (w := W) B 33 o.type 43 i0 3 Tryd.underlying33 hin _ 0 [] hnil
    unfold Oper.wp
    simp [execOp, ho, resolve, invoke, builtin, hs, hx, hrun, Result.andThen]
    exact h none 0 W hnil (Below.refl _ _)
  | some ad =>
    have had : ∃ b off, ad = ⟨b, off, none⟩ ∨ ds = [] := by
      cases ds with
      | nil => exact ⟨0, 0, .inr rfl⟩
      | cons d l => obtain ⟨b, off, e, _⟩ := hc 0 d rfl; exact ⟨b, off, .inl (Option.some.inj e)⟩
    have hnews : ∀ j y, (ocs ds)[j]? = some y → W.cell? (ad.add j) = some y := by
      obtain ⟨b, off, rfl | rfl⟩ := had
      · exact rdd_cells hr'
      · intro j y hj; simp [ocs] at hj
    refine wp_append_own W s x 33 ho B 43 i0 (.agg #[.int .i64 0, .int .i64 0, .string ⟨#[]⟩]) 3 32 Tryd.underlying33 hin hz0 hz1 hz2 rfl (by decide) (.slice none 0 0) 0 [] hs hnil ad ds.length cp (ocs ds) hx (ocs_length ds) hnews (ocs_one' ds) (by unfold maxLen; omega) (by omega) hB ?_
    intro v' w' ho' hg _
    rw [Nat.zero_add, List.nil_append] at ho'
    obtain ⟨a', k', rfl⟩ := own_form ho'
    exact h a' k' w' ho' ⟨hg.os, hg.tape, hg.output, hg.size, fun k hk => hg.block k hk (by simp [Value.ownBlock])⟩
/-- Copy's box of an edit, on its way. -/
structure BxC (x g B : Nat) (E : EdD) (v : Value) (sa : Addr) (u : Value) (q : Int) (ds : List OpD) (L : Nat → Bool) (W : World) : Prop where
  box : EB W x E v
  src : W.cell? sa = some u
  rd : RdD W u ds
  bsz : B ≤ W.heap.size
  lt : g < W.heap.size
  nx : x ≠ g
  ns : sa.block < g
  ro : ∀ W' : World, W.grownBy W' (some g) → RdD W' u ds
  old : L 10 = false → W.heap[g]? = some (.cells #[.int .i64 q, .slice none 0 0] 41)
  new : L 10 = true → L 1 = true ∧ ∃ a k, W.heap[g]? = some (.cells #[.int .i64 q, .slice a ds.length k] 41) ∧ W.ownsRow B 43 3 (.slice a ds.length k) ds.length (ocs ds)
theorem BxC.old0 {x g B : Nat} {E : EdD} {v : Value} {src : Addr} {u : Value} {q : Int} {ds : List OpD} {L : Nat → Bool} {W : World} (h : BxC x g B E v src u q ds L W) (hl : L 1 = false) : W.heap[g]? = some (.cells #[.int .i64 q, .slice none 0 0] 41) := by
  cases hs : L 10 with
  | false => exact h.old hs
  | true => have := (h.new hs).1; rw [hl] at this; cases this
theorem BxC.any {x g B : Nat} {E : EdD} {v : Value} {src : Addr} {u : Value} {q : Int} {ds : List OpD} {L : Nat → Bool} {W : World} (h : BxC x g B E v src u q ds L W) : ∃ cs, W.heap[g]? = some (.cells cs 41) := by
  cases hs : L 10 with
  | false => exact ⟨_, h.old hs⟩
  | true => obtain ⟨-, a, k, h2, -⟩ := h.new hs; exact ⟨_, h2⟩
theorem BxC.step {x g B : Nat} {E : EdD} {v : Value} {src : Addr} {u : Value} {q : Int} {ds : List OpD} {L : Nat → Bool} {W W' : World} {i : Nat} (h : BxC x g B E v src u q ds L W) (hi : 10 ≠ i) (hb : Below W.heap.size W W') : BxC x g B E v src u q ds (fun j => if j = i then true else L j) W' := by
  refine ⟨h.box.below hb, (hb.cell (p := src) (Nat.lt_trans h.ns h.lt)).trans h.src, h.rd.below hb, Nat.le_trans h.bsz hb.size, Nat.lt_of_lt_of_le h.lt hb.size, h.nx, h.ns, fun W2 hg => h.ro W2 (gb_trans (gb_below hb) hg), fun hs => ?_, fun hs => ?_⟩
  · rw [if_neg hi] at hs
    exact (hb.block g h.lt).trans (h.old hs)
  · rw [if_neg hi] at hs
    obtain ⟨h1, a, k, h2, h3⟩ := h.new hs
    exact ⟨by split <;> first | rfl | exact h1, a, k, (hb.block g h.lt).trans h2, own_belowG h3 hb⟩
theorem BxC.sto {x g B : Nat} {E : EdD} {v : Value} {src : Addr} {u : Value} {q : Int} {ds : List OpD} {L : Nat → Bool} {W : World} {a : Option Addr} {k : Nat} (h : BxC x g B E v src u q ds L W) (hl : L 1 = true) (hs : L 10 = false) (ho : W.ownsRow B 43 3 (.slice a ds.length k) ds.length (ocs ds)) :
    BxC x g B E v src u q ds (fun j => if j = 10 then true else L j) (W.setCell ⟨g, 1, none⟩ (.slice a ds.length k)) := by
  have hg := grown_set W g 1 (.slice a ds.length k)
  have hne : some src.block ≠ some g := fun e => by have := h.ns; simp at e; omega
  refine ⟨(hg.block x h.box.lt (fun e => h.nx (Option.some.inj e))).trans h.box, hg.cell h.src hne, h.ro _ hg, Nat.le_trans h.bsz hg.size, Nat.lt_of_lt_of_le h.lt hg.size, h.nx, h.ns, fun W2 h2 => h.ro W2 (gb_trans hg h2), fun e => ?_, fun _ => ⟨?_, a, k, heap_setCell (h.old hs) 1 _, own_set ho (h.old hs) (by decide)⟩⟩
  · rw [if_pos rfl] at e; cases e
  · split
    · rfl
    · exact hl
def phCp (x g B ga oa ca n k ku : Nat) (au : Option Addr) (ds : List OpD) : Nat → Value → World → Prop
  | 0, v, _ => v = (.pointer (some ⟨g, 1, none⟩))
  | 1, v, _ => v = (.slice none 0 0)
  | 2, v, _ => v = (.pointer (some ⟨x, 5, none⟩))
  | 3, v, _ => v = (.slice (some ⟨ga, oa, none⟩) n ca)
  | 4, v, _ => v = (.int .i64 (k : Int))
  | 5, v, _ => v = (.pointer (some ⟨ga, oa + k * 2, none⟩))
  | 6, v, _ => v = (.pointer (some ⟨ga, oa + k * 2 + 1, none⟩))
  | 7, v, _ => v = (.slice au ds.length ku)
  | 8, v, W => ∃ a k', v = .slice a ds.length k' ∧ W.ownsRow B 43 3 (.slice a ds.length k') ds.length (ocs ds) ∧ (Value.slice a ds.length k').ownBlock ≠ some g
  | 9, v, _ => v = (.pointer (some ⟨g, 1, none⟩))
  | 10, _, _ => True
  | _, _, _ => True
theorem phCp_stays {x g B ga oa ca n k ku : Nat} {au : Option Addr} {ds : List OpD} (i : Nat) (v : Value) (w w' : World) (h : phCp x g B ga oa ca n k ku au ds i v w) (hg : w.grownBy w' (some g)) : phCp x g B ga oa ca n k ku au ds i v w' := by
  unfold phCp at h ⊢
  split at h
  all_goals first
    | exact h
    | (obtain ⟨a, k', e, ho, hn⟩ := h; exact ⟨a, k', e, ho.kept hg (.inr hn), hn⟩)
    | trivial
theorem bel_gb {wr W : World} {o : Obj} (hR : (wr.alloc o).drew.grownBy W (some wr.heap.size)) : Below wr.heap.size wr W := by
  refine ⟨hR.os, hR.tape, hR.output, Nat.le_trans (by show _ ≤ (World.alloc _ _).heap.size; rw [World.size_alloc]; omega) hR.size, fun k hk => ?_⟩
  have h1 := hR.block k (by show k < (wr.alloc o).heap.size; simp; omega) (fun e => by simp at e; omega)
  exact h1.trans (Below.heap_alloc wr o k hk)
set_option maxRecDepth 20000 in
set_option maxHeartbeats 3000000 in
theorem rcopy_any (E : EdD) (v : Value) (w : World) (hr : RdEd w v E.p) (hpl : E.p.length ≤ 1048576) (hF : ∀ e ∈ E.p, e.d.length ≤ 1048576) :
    Calls Tryd.prog 12 #[.agg (E.fs v)] w fun e w' => ∃ v' us, e = .returned (.agg (E.fs v')) ∧ OwEd w' w.heap.size v' E.p us ∧ Below w.heap.size w w' := by
  obtain ⟨i0, hin, hz0, hz1, hz2⟩ := info_parts Tryd.infoEd
  have hx := ((eb_new w E v).below (alloc_b _ (.cells (zeroE.fs (.slice none 0 0)) 26))).below (alloc_b _ (.cells (E.fs (.slice none 0 0)) 26))
  have hy := (eb_new (w.alloc (.cells (E.fs v) 26)) zeroE (.slice none 0 0)).below (alloc_b _ (.cells (E.fs (.slice none 0 0)) 26))
  have hz := eb_new ((w.alloc (.cells (E.fs v) 26)).alloc (.cells (zeroE.fs (.slice none 0 0)) 26)) E (.slice none 0 0)
  have hA := bel3 w (.cells (E.fs v) 26) (.cells (zeroE.fs (.slice none 0 0)) 26) (.cells (E.fs (.slice none 0 0)) 26)
  have hsz : (((w.alloc (.cells (E.fs v) 26)).alloc (.cells (zeroE.fs (.slice none 0 0)) 26)).alloc (.cells (E.fs (.slice none 0 0)) 26)).heap.size = w.heap.size + 3 := by simp
  rw [World.size_alloc] at hy
  rw [World.size_alloc, World.size_alloc] at hz
  obtain ⟨ao, ca, rfl, -, hc⟩ := hr
  simp only [EdD.fs, zeroE] at hx hy hz hA hsz ⊢
  go_enter Tryd.func12, Tryd.ntmps12
  go_wp2_with fail
  generalize ((w.alloc (.cells #[.int .i64 E.c, .int .i64 E.b, .int .i64 E.r, .string E.t, .int .i64 E.s, .slice ao E.p.length ca] 26)).alloc (.cells #[.int .i64 0, .int .i64 0, .int .i64 0, .string ⟨#[]⟩, .int .i64 0, .slice none 0 0] 26)).alloc (.cells #[.int .i64 E.c, .int .i64 E.b, .int .i64 E.r, .string E.t, .int .i64 E.s, .slice none 0 0] 26) = w3 at *
  go_loopw [4] (fun i wr => ∃ (k : Nat) (pv : Value) (us : List Value), k ≤ E.p.length ∧ i = .int .i64 (k : Int) ∧ EB wr w.heap.size E (.slice ao E.p.length ca) ∧ EB wr (w.heap.size + 1) zeroE (.slice none 0 0) ∧ EB wr (w.heap.size + 1 + 1) E pv ∧ OwEd wr (w.heap.size + 3) pv (E.p.take k) us ∧ w.heap.size + 3 ≤ wr.heap.size ∧ Below w.heap.size w wr) (fun i _ => E.p.length - (Go.RowKit.intOf i).toNat)
  case atStart => exact ⟨0, _, [], by omega, rfl, hx, hy, hz, by simpa using OwEd.nil w3 (w.heap.size + 3), by omega, hA⟩
  case round =>
    clear hx hy hz hA hsz
    obtain ⟨k, pv, us, hk, rfl, hx, hy, hz, ho, hsz, hB⟩ := hrel
    obtain ⟨x0, x1, x2, x3, x4, x5⟩ := cellsEB hx
    obtain ⟨ap, kp, rfl⟩ := own_form ho.row
    by_cases hlt : k < E.p.length
    · have hlt' : (k : Int) < (E.p.length : Int) := by omega
      obtain ⟨ga, oa, u, rfl, hg, c0, c1, c2⟩ := hc k E.p[k] (by simp [hlt])
      have hdl := hF E.p[k] (List.getElem_mem hlt)
      replace c0 := (hB.cell (p := ⟨ga, oa + k * 2, none⟩) hg).trans c0
      replace c1 := (hB.cell (p := ⟨ga, oa + k * 2 + 1, none⟩) hg).trans c1
      replace c2 := c2.below hB
      replace hg := Nat.lt_of_lt_of_le hg hB.size
      obtain ⟨au, ku, rfl⟩ := rdd_len c2
      have Htk : Hid (E.p.take (k + 1) = E.p.take k ++ [E.p[k]]) := List.take_succ_eq_append_getElem hlt
      have hlk : Hid ((E.p.take k).length = k) := by show _ = _; simp; omega
      generalize E.p.take k = L0 at *
      generalize E.p[k] = e at *
      clear hc hF
      go_upto_region 7 with fail
      have hbE := eb_newX wr e.q (.slice none 0 0)
      have hBa : Below wr.heap.size wr (wr.alloc (.cells #[.int .i64 e.q, .slice none 0 0] 41)).drew := (alloc_b wr (.cells #[.int .i64 e.q, .slice none 0 0] 41)).drew
      have hBx : BxC w.heap.size wr.heap.size (w.heap.size + 3) E (.slice (some ⟨ga, oa, none⟩) E.p.length ca) ⟨ga, oa + k * 2 + 1, none⟩ (.slice au e.d.length ku) e.q e.d (fun _ => false) (wr.alloc (.cells #[.int .i64 e.q, .slice none 0 0] 41)).drew := by
        refine ⟨hx.below hBa, (hBa.cell (p := ⟨ga, oa + k * 2 + 1, none⟩) hg).trans c1, c2.below hBa, ?_, ?_, ?_, hg, fun W' h => ?_, fun _ => hbE, fun e => by cases e⟩
        · show _ ≤ (World.alloc _ _).heap.size; simp; omega
        · show _ < (World.alloc _ _).heap.size; simp
        · omega
        · exact c2.below (bel_gb h)
      clear x0 x1 x2 x3 x4 x5 c0 c1 c2
      refine mono.region_monoS (fun W W' => World.grownBy W W' (some wr.heap.size)) (gb_refl wr.heap.size) (fun _ _ _ => gb_trans) (phCp w.heap.size wr.heap.size (w.heap.size + 3) ga oa ca E.p.length k ku au e.d) (BxC w.heap.size wr.heap.size (w.heap.size + 3) E (.slice (some ⟨ga, oa, none⟩) E.p.length ca) ⟨ga, oa + k * 2 + 1, none⟩ (.slice au e.d.length ku) e.q e.d) 39 [] [0, 1, 2, 3, 4, 5, 6, 7, 8, 9, 10] (by kernel_rfl) rfl rfl (by kernel_rfl) [] (by kernel_rfl) (by simp) (phCp_stays) (hBx) (.cons ?_ (.cons ?_ (.cons ?_ (.cons ?_ (.cons ?_ (.cons ?_ (.cons ?_ (.cons ?_ (.cons ?_ (.cons ?_ (.cons ?_ (.nil)))))))))))) ?_
      · refine mono.dutyS_of rfl ?_
        intro f W L hR hO hD hL hi hX K hK
        have eL : mono.lit 39 f [] = ⟨#[f 0, f 1, f 2, f 3, f 4, f 5, f 6, f 7, f 8, f 9, f 10, f 11, f 12, f 13, f 14, f 15, f 16, f 17, f 18, f 19, f 20, f 21, f 22, f 23, f 24, f 25, f 26, f 27, f 28, f 29, f 30, f 31, f 32, f 33, f 34, f 35, f 36, f 37, f 38], []⟩ := rfl
        replace hK : ∀ v W', (fun W W' => World.grownBy W W' (some wr.heap.size)) W W' → phCp w.heap.size wr.heap.size (w.heap.size + 3) ga oa ca E.p.length k ku au e.d 0 v W' → BxC w.heap.size wr.heap.size (w.heap.size + 3) E (.slice (some ⟨ga, oa, none⟩) E.p.length ca) ⟨ga, oa + k * 2 + 1, none⟩ (.slice au e.d.length ku) e.q e.d (fun j => if j = 0 then true else L j) W' → K ((mono.lit 39 f []).put (some 22) v) W' := hK
        rw [eL] at hK ⊢
        simp only [Act.put, List.setIfInBounds_toArray, List.set_cons_succ, List.set_cons_zero] at hK
        have o5 : f 5 = (.pointer (some ⟨wr.heap.size, 0, none⟩)) := hO 5 (by kernel_rfl)
        rw [o5] at hK ⊢
        go_simp
        exact hK _ _ (gb_refl _ _) rfl (hX.step (by decide) (Below.refl _ _))
      · refine mono.dutyS_of rfl ?_
        intro f W L hR hO hD hL hi hX K hK
        have eL : mono.lit 39 f [] = ⟨#[f 0, f 1, f 2, f 3, f 4, f 5, f 6, f 7, f 8, f 9, f 10, f 11, f 12, f 13, f 14, f 15, f 16, f 17, f 18, f 19, f 20, f 21, f 22, f 23, f 24, f 25, f 26, f 27, f 28, f 29, f 30, f 31, f 32, f 33, f 34, f 35, f 36, f 37, f 38], []⟩ := rfl
        replace hK : ∀ v W', (fun W W' => World.grownBy W W' (some wr.heap.size)) W W' → phCp w.heap.size wr.heap.size (w.heap.size + 3) ga oa ca E.p.length k ku au e.d 1 v W' → BxC w.heap.size wr.heap.size (w.heap.size + 3) E (.slice (some ⟨ga, oa, none⟩) E.p.length ca) ⟨ga, oa + k * 2 + 1, none⟩ (.slice au e.d.length ku) e.q e.d (fun j => if j = 1 then true else L j) W' → K ((mono.lit 39 f []).put (some 23) v) W' := hK
        rw [eL] at hK ⊢
        simp only [Act.put, List.setIfInBounds_toArray, List.set_cons_succ, List.set_cons_zero] at hK
        have q0 := hD 0 22 (by kernel_rfl) (by kernel_rfl)
        replace q0 : f 22 = (.pointer (some ⟨wr.heap.size, 1, none⟩)) := q0
        rw [q0] at hK ⊢
        have hEB := hX.old0 hi
        obtain ⟨y0, y1⟩ := cells2X hEB
        go_simp
        exact hK _ _ (gb_refl _ _) rfl (hX.step (by decide) (Below.refl _ _))
      · refine mono.dutyS_of rfl ?_
        intro f W L hR hO hD hL hi hX K hK
        have eL : mono.lit 39 f [] = ⟨#[f 0, f 1, f 2, f 3, f 4, f 5, f 6, f 7, f 8, f 9, f 10, f 11, f 12, f 13, f 14, f 15, f 16, f 17, f 18, f 19, f 20, f 21, f 22, f 23, f 24, f 25, f 26, f 27, f 28, f 29, f 30, f 31, f 32, f 33, f 34, f 35, f 36, f 37, f 38], []⟩ := rfl
        replace hK : ∀ v W', (fun W W' => World.grownBy W W' (some wr.heap.size)) W W' → phCp w.heap.size wr.heap.size (w.heap.size + 3) ga oa ca E.p.length k ku au e.d 2 v W' → BxC w.heap.size wr.heap.size (w.heap.size + 3) E (.slice (some ⟨ga, oa, none⟩) E.p.length ca) ⟨ga, oa + k * 2 + 1, none⟩ (.slice au e.d.length ku) e.q e.d (fun j => if j = 2 then true else L j) W' → K ((mono.lit 39 f []).put (some 24) v) W' := hK
        rw [eL] at hK ⊢
        simp only [Act.put, List.setIfInBounds_toArray, List.set_cons_succ, List.set_cons_zero] at hK
        have o1 : f 1 = (.pointer (some ⟨w.heap.size, 0, none⟩)) := hO 1 (by kernel_rfl)
        rw [o1] at hK ⊢
        go_simp
        exact hK _ _ (gb_refl _ _) rfl (hX.step (by decide) (Below.refl _ _))
      · refine mono.dutyS_of rfl ?_
        intro f W L hR hO hD hL hi hX K hK
        have eL : mono.lit 39 f [] = ⟨#[f 0, f 1, f 2, f 3, f 4, f 5, f 6, f 7, f 8, f 9, f 10, f 11, f 12, f 13, f 14, f 15, f 16, f 17, f 18, f 19, f 20, f 21, f 22, f 23, f 24, f 25, f 26, f 27, f 28, f 29, f 30, f 31, f 32, f 33, f 34, f 35, f 36, f 37, f 38], []⟩ := rfl
        replace hK : ∀ v W', (fun W W' => World.grownBy W W' (some wr.heap.size)) W W' → phCp w.heap.size wr.heap.size (w.heap.size + 3) ga oa ca E.p.length k ku au e.d 3 v W' → BxC w.heap.size wr.heap.size (w.heap.size + 3) E (.slice (some ⟨ga, oa, none⟩) E.p.length ca) ⟨ga, oa + k * 2 + 1, none⟩ (.slice au e.d.length ku) e.q e.d (fun j => if j = 3 then true else L j) W' → K ((mono.lit 39 f []).put (some 25) v) W' := hK
        rw [eL] at hK ⊢
        simp only [Act.put, List.setIfInBounds_toArray, List.set_cons_succ, List.set_cons_zero] at hK
        have q2 := hD 2 24 (by kernel_rfl) (by kernel_rfl)
        replace q2 : f 24 = (.pointer (some ⟨w.heap.size, 5, none⟩)) := q2
        rw [q2] at hK ⊢
        have x5 := (cellsEB (hX.box)).2.2.2.2.2
        go_simp
        exact hK _ _ (gb_refl _ _) rfl (hX.step (by decide) (Below.refl _ _))
      · refine mono.dutyS_of rfl ?_
        intro f W L hR hO hD hL hi hX K hK
        have eL : mono.lit 39 f [] = ⟨#[f 0, f 1, f 2, f 3, f 4, f 5, f 6, f 7, f 8, f 9, f 10, f 11, f 12, f 13, f 14, f 15, f 16, f 17, f 18, f 19, f 20, f 21, f 22, f 23, f 24, f 25, f 26, f 27, f 28, f 29, f 30, f 31, f 32, f 33, f 34, f 35, f 36, f 37, f 38], []⟩ := rfl
        replace hK : ∀ v W', (fun W W' => World.grownBy W W' (some wr.heap.size)) W W' → phCp w.heap.size wr.heap.size (w.heap.size + 3) ga oa ca E.p.length k ku au e.d 4 v W' → BxC w.heap.size wr.heap.size (w.heap.size + 3) E (.slice (some ⟨ga, oa, none⟩) E.p.length ca) ⟨ga, oa + k * 2 + 1, none⟩ (.slice au e.d.length ku) e.q e.d (fun j => if j = 4 then true else L j) W' → K ((mono.lit 39 f []).put (some 26) v) W' := hK
        rw [eL] at hK ⊢
        simp only [Act.put, List.setIfInBounds_toArray, List.set_cons_succ, List.set_cons_zero] at hK
        have o4 : f 4 = (.int .i64 (k : Int)) := hO 4 (by kernel_rfl)
        rw [o4] at hK ⊢
        go_simp
        exact hK _ _ (gb_refl _ _) rfl (hX.step (by decide) (Below.refl _ _))
      · refine mono.dutyS_of rfl ?_
        intro f W L hR hO hD hL hi hX K hK
        have eL : mono.lit 39 f [] = ⟨#[f 0, f 1, f 2, f 3, f 4, f 5, f 6, f 7, f 8, f 9, f 10, f 11, f 12, f 13, f 14, f 15, f 16, f 17, f 18, f 19, f 20, f 21, f 22, f 23, f 24, f 25, f 26, f 27, f 28, f 29, f 30, f 31, f 32, f 33, f 34, f 35, f 36, f 37, f 38], []⟩ := rfl
        replace hK : ∀ v W', (fun W W' => World.grownBy W W' (some wr.heap.size)) W W' → phCp w.heap.size wr.heap.size (w.heap.size + 3) ga oa ca E.p.length k ku au e.d 5 v W' → BxC w.heap.size wr.heap.size (w.heap.size + 3) E (.slice (some ⟨ga, oa, none⟩) E.p.length ca) ⟨ga, oa + k * 2 + 1, none⟩ (.slice au e.d.length ku) e.q e.d (fun j => if j = 5 then true else L j) W' → K ((mono.lit 39 f []).put (some 27) v) W' := hK
        rw [eL] at hK ⊢
        simp only [Act.put, List.setIfInBounds_toArray, List.set_cons_succ, List.set_cons_zero] at hK
        have q3 := hD 3 25 (by kernel_rfl) (by kernel_rfl)
        replace q3 : f 25 = (.slice (some ⟨ga, oa, none⟩) E.p.length ca) := q3
        have q4 := hD 4 26 (by kernel_rfl) (by kernel_rfl)
        replace q4 : f 26 = (.int .i64 (k : Int)) := q4
        rw [q3, q4] at hK ⊢
        go_simp
        exact hK _ _ (gb_refl _ _) rfl (hX.step (by decide) (Below.refl _ _))
      · refine mono.dutyS_of rfl ?_
        intro f W L hR hO hD hL hi hX K hK
        have eL : mono.lit 39 f [] = ⟨#[f 0, f 1, f 2, f 3, f 4, f 5, f 6, f 7, f 8, f 9, f 10, f 11, f 12, f 13, f 14, f 15, f 16, f 17, f 18, f 19, f 20, f 21, f 22, f 23, f 24, f 25, f 26, f 27, f 28, f 29, f 30, f 31, f 32, f 33, f 34, f 35, f 36, f 37, f 38], []⟩ := rfl
        replace hK : ∀ v W', (fun W W' => World.grownBy W W' (some wr.heap.size)) W W' → phCp w.heap.size wr.heap.size (w.heap.size + 3) ga oa ca E.p.length k ku au e.d 6 v W' → BxC w.heap.size wr.heap.size (w.heap.size + 3) E (.slice (some ⟨ga, oa, none⟩) E.p.length ca) ⟨ga, oa + k * 2 + 1, none⟩ (.slice au e.d.length ku) e.q e.d (fun j => if j = 6 then true else L j) W' → K ((mono.lit 39 f []).put (some 28) v) W' := hK
        rw [eL] at hK ⊢
        simp only [Act.put, List.setIfInBounds_toArray, List.set_cons_succ, List.set_cons_zero] at hK
        have q5 := hD 5 27 (by kernel_rfl) (by kernel_rfl)
        replace q5 : f 27 = (.pointer (some ⟨ga, oa + k * 2, none⟩)) := q5
        rw [q5] at hK ⊢
        go_simp
        exact hK _ _ (gb_refl _ _) rfl (hX.step (by decide) (Below.refl _ _))
      · refine mono.dutyS_of rfl ?_
        intro f W L hR hO hD hL hi hX K hK
        have eL : mono.lit 39 f [] = ⟨#[f 0, f 1, f 2, f 3, f 4, f 5, f 6, f 7, f 8, f 9, f 10, f 11, f 12, f 13, f 14, f 15, f 16, f 17, f 18, f 19, f 20, f 21, f 22, f 23, f 24, f 25, f 26, f 27, f 28, f 29, f 30, f 31, f 32, f 33, f 34, f 35, f 36, f 37, f 38], []⟩ := rfl
        replace hK : ∀ v W', (fun W W' => World.grownBy W W' (some wr.heap.size)) W W' → phCp w.heap.size wr.heap.size (w.heap.size + 3) ga oa ca E.p.length k ku au e.d 7 v W' → BxC w.heap.size wr.heap.size (w.heap.size + 3) E (.slice (some ⟨ga, oa, none⟩) E.p.length ca) ⟨ga, oa + k * 2 + 1, none⟩ (.slice au e.d.length ku) e.q e.d (fun j => if j = 7 then true else L j) W' → K ((mono.lit 39 f []).put (some 29) v) W' := hK
        rw [eL] at hK ⊢
        simp only [Act.put, List.setIfInBounds_toArray, List.set_cons_succ, List.set_cons_zero] at hK
        have q6 := hD 6 28 (by kernel_rfl) (by kernel_rfl)
        replace q6 : f 28 = (.pointer (some ⟨ga, oa + k * 2 + 1, none⟩)) := q6
        rw [q6] at hK ⊢
        have c0 := (hX.src)
        go_simp
        exact hK _ _ (gb_refl _ _) rfl (hX.step (by decide) (Below.refl _ _))
      · refine mono.dutyS_of rfl ?_
        intro f W L hR hO hD hL hi hX K hK
        have eL : mono.lit 39 f [] = ⟨#[f 0, f 1, f 2, f 3, f 4, f 5, f 6, f 7, f 8, f 9, f 10, f 11, f 12, f 13, f 14, f 15, f 16, f 17, f 18, f 19, f 20, f 21, f 22, f 23, f 24, f 25, f 26, f 27, f 28, f 29, f 30, f 31, f 32, f 33, f 34, f 35, f 36, f 37, f 38], []⟩ := rfl
        replace hK : ∀ v W', (fun W W' => World.grownBy W W' (some wr.heap.size)) W W' → phCp w.heap.size wr.heap.size (w.heap.size + 3) ga oa ca E.p.length k ku au e.d 8 v W' → BxC w.heap.size wr.heap.size (w.heap.size + 3) E (.slice (some ⟨ga, oa, none⟩) E.p.length ca) ⟨ga, oa + k * 2 + 1, none⟩ (.slice au e.d.length ku) e.q e.d (fun j => if j = 8 then true else L j) W' → K ((mono.lit 39 f []).put (some 30) v) W' := hK
        rw [eL] at hK ⊢
        simp only [Act.put, List.setIfInBounds_toArray, List.set_cons_succ, List.set_cons_zero] at hK
        have q1 := hD 1 23 (by kernel_rfl) (by kernel_rfl)
        replace q1 : f 23 = (.slice none 0 0) := q1
        have q7 := hD 7 29 (by kernel_rfl) (by kernel_rfl)
        replace q7 : f 29 = (.slice au e.d.length ku) := q7
        rw [q1, q7] at hK ⊢
        refine wp_dup (.tmp 23) (.tmp 29) rfl rfl rfl hX.rd hdl hX.bsz ?_
        intro a' k' w' ho' hb'
        obtain ⟨cs, hcs⟩ := hX.any
        exact hK _ _ (gb_below hb') ⟨a', k', rfl, ho', fun e => box_apart ho' ((hb'.block wr.heap.size hX.lt).trans hcs) (by decide) e.symm⟩ (hX.step (by decide) hb')
      · refine mono.dutyS_of rfl ?_
        intro f W L hR hO hD hL hi hX K hK
        have eL : mono.lit 39 f [] = ⟨#[f 0, f 1, f 2, f 3, f 4, f 5, f 6, f 7, f 8, f 9, f 10, f 11, f 12, f 13, f 14, f 15, f 16, f 17, f 18, f 19, f 20, f 21, f 22, f 23, f 24, f 25, f 26, f 27, f 28, f 29, f 30, f 31, f 32, f 33, f 34, f 35, f 36, f 37, f 38], []⟩ := rfl
        replace hK : ∀ v W', (fun W W' => World.grownBy W W' (some wr.heap.size)) W W' → phCp w.heap.size wr.heap.size (w.heap.size + 3) ga oa ca E.p.length k ku au e.d 9 v W' → BxC w.heap.size wr.heap.size (w.heap.size + 3) E (.slice (some ⟨ga, oa, none⟩) E.p.length ca) ⟨ga, oa + k * 2 + 1, none⟩ (.slice au e.d.length ku) e.q e.d (fun j => if j = 9 then true else L j) W' → K ((mono.lit 39 f []).put (some 31) v) W' := hK
        rw [eL] at hK ⊢
        simp only [Act.put, List.setIfInBounds_toArray, List.set_cons_succ, List.set_cons_zero] at hK
        have o5 : f 5 = (.pointer (some ⟨wr.heap.size, 0, none⟩)) := hO 5 (by kernel_rfl)
        rw [o5] at hK ⊢
        go_simp
        exact hK _ _ (gb_refl _ _) rfl (hX.step (by decide) (Below.refl _ _))
      · refine mono.dutyS_of rfl ?_
        intro f W L hR hO hD hL hi hX K hK
        have eL : mono.lit 39 f [] = ⟨#[f 0, f 1, f 2, f 3, f 4, f 5, f 6, f 7, f 8, f 9, f 10, f 11, f 12, f 13, f 14, f 15, f 16, f 17, f 18, f 19, f 20, f 21, f 22, f 23, f 24, f 25, f 26, f 27, f 28, f 29, f 30, f 31, f 32, f 33, f 34, f 35, f 36, f 37, f 38], []⟩ := rfl
        replace hK : ∀ v W', (fun W W' => World.grownBy W W' (some wr.heap.size)) W W' → phCp w.heap.size wr.heap.size (w.heap.size + 3) ga oa ca E.p.length k ku au e.d 10 v W' → BxC w.heap.size wr.heap.size (w.heap.size + 3) E (.slice (some ⟨ga, oa, none⟩) E.p.length ca) ⟨ga, oa + k * 2 + 1, none⟩ (.slice au e.d.length ku) e.q e.d (fun j => if j = 10 then true else L j) W' → K ((mono.lit 39 f []).put none v) W' := hK
        rw [eL] at hK ⊢
        simp only [Act.put] at hK
        have q8 := hD 8 30 (by kernel_rfl) (by kernel_rfl)
        obtain ⟨a8, k8, e8, o8, n8⟩ := q8
        have q9 := hD 9 31 (by kernel_rfl) (by kernel_rfl)
        replace q9 : f 31 = (.pointer (some ⟨wr.heap.size, 1, none⟩)) := q9
        rw [e8, q9] at hK ⊢
        have hEB := hX.old hi
        obtain ⟨y0, y1⟩ := cells2X hEB
        have y2 := frz hEB 1
        go_simp
        exact hK undef _ (grown_set _ _ _ _) trivial (hX.sto (hL 1 (by kernel_rfl)) hi o8)
      · intro f W L hR hO hD hL hX
        have r0 := hO 0 (by kernel_rfl)
        have r1 := hO 1 (by kernel_rfl)
        have r2 := hO 2 (by kernel_rfl)
        have r3 := hO 3 (by kernel_rfl)
        have r4 := hO 4 (by kernel_rfl)
        have r5 := hO 5 (by kernel_rfl)
        have r6 := hO 6 (by kernel_rfl)
        have r7 := hO 7 (by kernel_rfl)
        have r8 := hO 8 (by kernel_rfl)
        have r9 := hO 9 (by kernel_rfl)
        have r10 := hO 10 (by kernel_rfl)
        have r11 := hO 11 (by kernel_rfl)
        have r12 := hO 12 (by kernel_rfl)
        have r13 := hO 13 (by kernel_rfl)
        have r14 := hO 14 (by kernel_rfl)
        have r15 := hO 15 (by kernel_rfl)
        have r16 := hO 16 (by kernel_rfl)
        have r17 := hO 17 (by kernel_rfl)
        have r18 := hO 18 (by kernel_rfl)
        have r19 := hO 19 (by kernel_rfl)
        have r20 := hO 20 (by kernel_rfl)
        have r21 := hO 21 (by kernel_rfl)
        have r32 := hO 32 (by kernel_rfl)
        have r33 := hO 33 (by kernel_rfl)
        have r34 := hO 34 (by kernel_rfl)
        have r35 := hO 35 (by kernel_rfl)
        have r36 := hO 36 (by kernel_rfl)
        have r37 := hO 37 (by kernel_rfl)
        have r38 := hO 38 (by kernel_rfl)
        have eL : mono.lit 39 f [] = ⟨#[f 0, f 1, f 2, f 3, f 4, f 5, f 6, f 7, f 8, f 9, f 10, f 11, f 12, f 13, f 14, f 15, f 16, f 17, f 18, f 19, f 20, f 21, f 22, f 23, f 24, f 25, f 26, f 27, f 28, f 29, f 30, f 31, f 32, f 33, f 34, f 35, f 36, f 37, f 38], []⟩ := rfl
        rw [eL, r0, r1, r2, r3, r4, r5, r6, r7, r8, r9, r10, r11, r12, r13, r14, r15, r16, r17, r18, r19, r20, r21, r32, r33, r34, r35, r36, r37, r38]
        obtain ⟨-, a6, k6, hg6, ho6⟩ := hX.new (hL 10 (by decide))
        have hbW := bel_gb hR
        have hzW := hz.below hbW
        have hsW := hbW.size
        obtain ⟨y0, y1⟩ := cells2X hg6
        have z5 := (cellsEB hzW).2.2.2.2.2
        have hal := alloc_b W (.cells #[.int .i64 e.q, .slice a6 e.d.length k6] 41)
        have hoE := (ho.below hbW).below hal
        have hoD := own_belowG ho6 hal
        have hzA := hzW.below hal
        have hxA := (hx.below hbW).below hal
        have hyA := (hy.below hbW).below hal
        have hBA := (chain hB (chain hbW hal))
        clear hX hR hO hD hL hbE hBx hBa
        go_wp2_with (at_builtin; refine wpList_append_own _ rfl (.tmp 33) (.tmp 35) 24 rfl (w.heap.size + 3) 41 i0 (.agg #[.int .i64 0, .slice none 0 0]) 2 32 Tryd.underlying24 hin hz0 hz1 hz2 rfl (by decide) _ L0.length _ rfl hoE.row ⟨_, 0, none⟩ 1 1 [.int .i64 e.q, .slice a6 e.d.length k6] rfl rfl (many_new _ _ _) (two_one _ _ _ _) (by have := hlk.out; unfold maxLen; omega) (by have := hlk.out; omega) (by simp; omega) ?_; intro v7 w7 ho7 hg7 _; obtain ⟨a7, k7, rfl⟩ := own_form ho7; have hz7 : EB w7 (w.heap.size + 1 + 1) E (.slice ap L0.length kp) := (hg7.block (w.heap.size + 1 + 1) hzA.lt (fun e => by have := (hoE.row.lt _ e.symm).1; omega)).trans hzA; have t5 := (cellsEB hz7).2.2.2.2.2; have f5 := (EB.frz hz7).2.2.2.2.2)
        have hnew := OwEd.app hoE hoD ho7 hg7
        rw [← Htk.out] at hnew
        have hx7 : EB w7 w.heap.size E _ := (hg7.block w.heap.size hxA.lt (fun e => by have := (hoE.row.lt _ e.symm).1; omega)).trans hxA
        have hy7 : EB w7 (w.heap.size + 1) zeroE _ := (hg7.block (w.heap.size + 1) hyA.lt (fun e => by have := (hoE.row.lt _ e.symm).1; omega)).trans hyA
        have hB7 := hBA.grown hg7 (by simp; omega) (fun j hj => by have := (hoE.row.lt j hj).1; omega)
        have hs7 := hg7.size
        refine ⟨⟨k + 1, .slice a7 (L0.length + 1) k7, _, by omega, by go_num, ?_, ?_, heap_setCell hz7 5 _, hnew.set (a := ⟨w.heap.size + 1 + 1, 5, none⟩) (by simp only; omega) _, ?_, hB7.setCell (by simp only; omega) _⟩, by simp [Go.RowKit.intOf]; omega⟩
        · exact (Below.heap_setCell _ ⟨w.heap.size + 1 + 1, 5, none⟩ _ _ (by simp only; omega)).trans hx7
        · exact (Below.heap_setCell _ ⟨w.heap.size + 1 + 1, 5, none⟩ _ _ (by simp only; omega)).trans hy7
        · have := (grown_set w7 (w.heap.size + 1 + 1) 5 (.slice a7 (L0.length + 1) k7)).size; simp at hs7; omega
    · have hlt' : ¬ (k : Int) < (E.p.length : Int) := by omega
      have hkl : k = E.p.length := by omega
      subst hkl
      rw [List.take_length] at ho
      obtain ⟨z0, z1, z2, z3, z4, z5⟩ := cellsEB hz
      obtain ⟨y0, y1, y2, y3, y4, y5⟩ := cellsEB hy
      obtain ⟨f0, f1, f2, f3, f4, f5⟩ := EB.frz hy
      clear hc
      go_wp2_with fail
      have hfin := EB.put hy E (.slice ap E.p.length kp)
      refine bodyPost_ret (results_cell_row rfl _ _ (w.heap.size + 1) 26 _ (0, 0) _ rfl hfin Tryd.underlying26 rfl Tryd.sizeEr) rfl ?_
      refine ⟨_, rfl, ⟨us, ?_⟩, below_putE hB (by omega) E _⟩
      refine OwEd.lower (B := w.heap.size + 3) ?_ (by omega)
      exact (((((ho.set (a := ⟨w.heap.size + 1, 0, none⟩) (by simp only; omega) _).set (a := ⟨w.heap.size + 1, 1, none⟩) (by simp only; omega) _).set (a := ⟨w.heap.size + 1, 2, none⟩) (by simp only; omega) _).set (a := ⟨w.heap.size + 1, 3, none⟩) (by simp only; omega) _).set (a := ⟨w.heap.size + 1, 4, none⟩) (by simp only; omega) _).set (a := ⟨w.heap.size + 1, 5, none⟩) (by simp only; omega) _
end Go.Proofs.YtcdnlkhjlgaaoaaDoor
