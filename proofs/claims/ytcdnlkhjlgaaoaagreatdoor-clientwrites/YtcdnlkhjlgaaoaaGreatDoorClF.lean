/-
  strings.Clone, and an editor at its beginning: Begin.
-/
import Derived.Test.YtcdnlkhjlgaaoaaGreatDoorClD
import Derived.Test.YtcdnlkhjlgaaoaaGreatDoorDlL
import Derived.Lib.BufferWrite
import Derived.Lib.UnsafeStr
import Derived.Deep.RegionLaw
import Derived.Deep.AppendLies
namespace Go.Proofs.YtcdnlkhjlgaaoaaGreatDoor
open Go.ChangeShapes Go.WideShapes Go.ChangeAt Go.RowKit Go.PlainAid

theorem addrC (b o j : Nat) : (⟨b, o, none⟩ : Addr).add j = ⟨b, o + j, none⟩ := by unfold Addr.add; split <;> simp_all
theorem make_u8 (n : Nat) (hn : n ≤ 1125899906842) : ∃ Z : Array Value, Z.size = n ∧ ∀ W : World, (Instr.makeSlice 71 (.int .i64 (n : Int)) (.int .i64 (n : Int))).run Tryz.prog W = .ok (.slice (some ⟨W.heap.size, 0, none⟩) n n) (W.alloc (.cells Z 5)) := by
  obtain ⟨i0, hi, hz0, hz1, hz2⟩ := info_parts Tryz.info5
  refine ⟨madeCells (Value.int .u8 0).cells (n * i0.size), ?_, fun W => ?_⟩
  rotate_left
  · have h := run_make (P := Tryz.prog) W 71 5 i0 _ Tryz.underlying71 hi hz0 .i64 .i64 (n : Int) (n : Int) (by omega) (by omega) (by rw [hz2]; omega) (by omega)
    simpa using h
  · simp [size_madeCells, hz1]

set_option maxRecDepth 20000 in
set_option maxHeartbeats 1000000 in
theorem liteClone_any (s : ByteArray) (w : World) (h0 : s.size ≠ 0) (hs : s.size ≤ 1125899906842) :
    Calls Tryz.prog 78 #[.string s] w fun e w' => e = .returned (.string s) ∧ Below w.heap.size w w' := by
  obtain ⟨Z, hZ, hmk⟩ := make_u8 s.size hs
  have hz : ((s.size : Int) == 0) = false := beq_eq_false_iff_ne.2 (by omega)
  have hnew : (w.alloc (.cells Z 5)).heap[w.heap.size]? = some (.cells Z 5 (0, 0)) := heap_alloc_new w _
  have hcp := fun ty => Lib.run_copy_row_string (P := Tryz.prog) (w.alloc (.cells Z 5)) 71 9 ty 5 w.heap.size 0 s.size s.size s Z 5 Tryz.underlying71 (by kernel_rfl) hnew (Nat.le_refl _) (by omega)
  have hrow : (Z.toList.take 0 ++ Lib.byteCells s.data.toList ++ Z.toList.drop (0 + s.size)).toArray = (Lib.byteCells s.data.toList).toArray := by
    rw [List.drop_of_length_le (by simp; omega)]
    simp
  rw [hrow] at hcp
  have hset := setRow_heap (w.alloc (.cells Z 5)) w.heap.size Z (Lib.byteCells s.data.toList).toArray 5 (0, 0) hnew
  have hlen : s.data.toList.length = s.size := by rw [Array.length_toList]; rfl
  have hUS := fun ty => Lib.run_unsafeString_row (P := Tryz.prog) ((w.alloc (.cells Z 5)).setRow w.heap.size (Lib.byteCells s.data.toList).toArray) 99 3 ty 5 Tryz.underlying99 (by kernel_rfl) w.heap.size s.size (by unfold World.shape?; rw [hset]; simp [Lib.byteCells_length, hlen]) s.data.toList (fun e => by rw [e] at hlen; simp at hlen; omega) (by omega) (by omega)
    (fun j x hx => by
      rw [addrC]
      unfold World.cell?
      simp only [hset]
      simp [Lib.byteCells, hx])
  rw [hlen] at hUS
  have hB1 : Below w.heap.size (w.alloc (.cells Z 5)) ((w.alloc (.cells Z 5)).setRow w.heap.size (Lib.byteCells s.data.toList).toArray) := ⟨rfl, rfl, rfl, by simp, fun k hk => setRow_other _ _ _ _ (by omega)⟩
  have hB : Below w.heap.size w (((w.alloc (.cells Z 5)).setRow w.heap.size (Lib.byteCells s.data.toList).toArray).freeze ⟨w.heap.size, 0, none⟩ s.size) :=
    Lib.below_freeze (((Below.refl _ w).alloc (Nat.le_refl _) _).trans hB1) (p := ⟨w.heap.size, 0, none⟩) (Nat.le_refl _) _
  go_enter Tryz.func78, Tryz.ntmps78
  go_wp2_with fail
  go_ret
  exact ⟨rfl, hB⟩

set_option maxRecDepth 20000 in
set_option maxHeartbeats 1000000 in
theorem strClone_any (s : ByteArray) (w : World) (h0 : s.size ≠ 0) (hs : s.size ≤ 1125899906842) :
    Calls Tryz.prog 53 #[.string s] w fun e w' => e = .returned (.string s) ∧ Below w.heap.size w w' := by
  have h := liteClone_any s w h0 hs
  go_enter Tryz.func53, Tryz.ntmps53
  go_wp2_with (go_at_call 78; refine h.mono ?_; rintro e w1 ⟨rfl, hb1⟩)
  go_ret
  exact ⟨rfl, hb1⟩

set_option maxRecDepth 20000 in
theorem clone_all (s : ByteArray) (w : World) (hs : s.size ≤ 1125899906842) :
    Calls Tryz.prog 53 #[.string s] w fun e w' => e = .returned (.string s) ∧ Below w.heap.size w w' := by
  by_cases h0 : s.size = 0
  · have e : s = ⟨#[]⟩ := by
      apply ByteArray.ext
      exact Array.eq_empty_of_size_eq_zero h0
    subst e
    have h : Calls Tryz.prog 78 #[.string ⟨#[]⟩] w fun e w' => e = .returned (.string ⟨#[]⟩) ∧ Below w.heap.size w w' := by
      go_enter Tryz.func78, Tryz.ntmps78
      go_wp2_with fail
      go_ret
      exact ⟨rfl, Below.refl _ _⟩
    go_enter Tryz.func53, Tryz.ntmps53
    go_wp2_with (go_at_call 78; refine h.mono ?_; rintro e w1 ⟨rfl, hb1⟩)
    go_ret
    exact ⟨rfl, hb1⟩
  · exact strClone_any s w h0 hs

theorem results_row_tmpC {P : Program} {fn : Func} {p u : Tmp} {ty : TypeId} (h : fn.results = #[.cell p ty, .tmp u]) (tmps : Array Value) (w : World) (g : Nat) (t : TypeId) (cs : Array Value) (fr : Nat × Nat) (d : TypeDesc)
    (hp : tmps.getD p undef = .pointer (some ⟨g, 0, none⟩)) (hg : w.heap[g]? = some (.cells cs t fr))
    (hu : P.underlying ty = some d) (hd : (match d with | .struct _ | .array _ _ => true | _ => false) = true) (hi : (P.info? ty).map (·.size) = some cs.size) :
    (results fn tmps).run P w = .ok (.tuple #[.agg cs, tmps.getD u undef]) w := by
  have hp' : tmps[p]?.getD undef = .pointer (some ⟨g, 0, none⟩) := by simpa using hp
  simp [results, h, hp', asAddr, run_loadVar_row w g t ty cs fr d hg hu hd hi]
theorem Tryz.sizeEr : (Tryz.prog.info? 24).map (·.size) = some 6 := by kernel_rfl
/-- All of an editor's box is written. -/
theorem EB.put {W : World} {g : Nat} {E : EdD} {v : Value} (h : EB W g E v) (E' : EdD) (v' : Value) : EB ((((((W.setCell ⟨g, 0, none⟩ (.int .i64 E'.c)).setCell ⟨g, 1, none⟩ (.int .i64 E'.b)).setCell ⟨g, 2, none⟩ (.int .i64 E'.r)).setCell ⟨g, 3, none⟩ (.string E'.t)).setCell ⟨g, 4, none⟩ (.int .i64 E'.s)).setCell ⟨g, 5, none⟩ v') g E' v' :=
  heap_setCell (heap_setCell (heap_setCell (heap_setCell (heap_setCell (heap_setCell h 0 (.int .i64 E'.c)) 1 (.int .i64 E'.b)) 2 (.int .i64 E'.r)) 3 (.string E'.t)) 4 (.int .i64 E'.s)) 5 v'
theorem below_putE {B g : Nat} {W0 W : World} (h : Below B W0 W) (hg : B ≤ g) (E' : EdD) (v' : Value) : Below B W0 ((((((W.setCell ⟨g, 0, none⟩ (.int .i64 E'.c)).setCell ⟨g, 1, none⟩ (.int .i64 E'.b)).setCell ⟨g, 2, none⟩ (.int .i64 E'.r)).setCell ⟨g, 3, none⟩ (.string E'.t)).setCell ⟨g, 4, none⟩ (.int .i64 E'.s)).setCell ⟨g, 5, none⟩ v') :=
  (((((h.setCell hg _).setCell hg _).setCell hg _).setCell hg _).setCell hg _).setCell hg _
theorem EB.frz {W : World} {g : Nat} {E : EdD} {v : Value} (h : EB W g E v) : W.frozen? ⟨g, 0, none⟩ = false ∧ W.frozen? ⟨g, 1, none⟩ = false ∧ W.frozen? ⟨g, 2, none⟩ = false ∧ W.frozen? ⟨g, 3, none⟩ = false ∧ W.frozen? ⟨g, 4, none⟩ = false ∧ W.frozen? ⟨g, 5, none⟩ = false :=
  ⟨Proofs.YtcdnlkhjlgaaoaaGreatDoor.frz h 0, Proofs.YtcdnlkhjlgaaoaaGreatDoor.frz h 1, Proofs.YtcdnlkhjlgaaoaaGreatDoor.frz h 2, Proofs.YtcdnlkhjlgaaoaaGreatDoor.frz h 3, Proofs.YtcdnlkhjlgaaoaaGreatDoor.frz h 4, Proofs.YtcdnlkhjlgaaoaaGreatDoor.frz h 5⟩
def zeroE : EdD := ⟨0, 0, 0, ⟨#[]⟩, 0, []⟩
/-- What Begin gives. -/
def begE (c b r : Int) (t : ByteArray) : EdD × Int := if mayE ⟨c, b, r, t, 0, []⟩ = true then (⟨c, b, r, t, 0, []⟩, 0) else (zeroE, 1)
set_option maxRecDepth 20000 in
set_option maxHeartbeats 1000000 in
theorem begin_any (c b r : Int) (t : ByteArray) (w : World) (hV : VS w) (ht : t.size ≤ 140737488355328) :
    Calls Tryz.prog 26 #[.int .i64 c, .int .i64 b, .int .i64 r, .string t] w fun e w' => e = .returned (.tuple #[.agg ((begE c b r t).1.fs (.slice none 0 0)), .int .i64 (begE c b r t).2]) ∧ Below w.heap.size w w' := by
  have hF : EdD.Fit ⟨c, b, r, t, 0, []⟩ := ⟨by simp, by simp, ht, by simp, by simp⟩
  have cM := fun W (hW : Below w.heap.size w W) => mayBe_any ⟨c, b, r, t, 0, []⟩ (.slice none 0 0) W (RdEd.nil W) (hV.below hW) hF
  simp only [EdD.fs] at cM
  unfold begE
  have hx0 := eb_new w zeroE (.slice none 0 0)
  have hA0 := alloc_b w (.cells (zeroE.fs (.slice none 0 0)) 24)
  have hx := hx0.below (alloc_b _ (.cells (EdD.fs ⟨c, b, r, t, 0, []⟩ (.slice none 0 0)) 24))
  have hy := eb_new (w.alloc (.cells (zeroE.fs (.slice none 0 0)) 24)) ⟨c, b, r, t, 0, []⟩ (.slice none 0 0)
  have hA := chain hA0 (alloc_b (w.alloc (.cells (zeroE.fs (.slice none 0 0)) 24)) (.cells (EdD.fs ⟨c, b, r, t, 0, []⟩ (.slice none 0 0)) 24))
  have cM' := cM _ hA
  clear cM
  rw [World.size_alloc] at hy
  simp only [EdD.fs, zeroE] at cM' hA hx hy
  by_cases hm : mayE ⟨c, b, r, t, 0, []⟩ = true
  · rw [if_pos hm]
    have hM := (may_iff _).1 hm
    have cC := fun W => clone_all t W (by have := size_smallL hM.t0 hM.t1; simp only at this; omega)
    rw [hm] at cM'
    clear hM hx0 hA0 hm
    simp only [EdD.fs]
    go_enter Tryz.func26, Tryz.ntmps26
    go_wp2_with fail
    refine cM'.mono ?_
    rintro e w1 ⟨rfl, hb1⟩
    go_wp2_with fail
    refine (cC _).mono ?_
    rintro e w2 ⟨rfl, hb2⟩
    have hx2 := (hx.below hb1).below hb2
    have hy2 := (hy.below hb1).below hb2
    obtain ⟨x0, x1, x2, x3, x4, x5⟩ := cellsEB hx2
    obtain ⟨y0, y1, y2, y3, y4, y5⟩ := cellsEB hy2
    obtain ⟨fx0, fx1, fx2, fx3, fx4, fx5⟩ := EB.frz hx2
    obtain ⟨fy0, fy1, fy2, fy3, fy4, fy5⟩ := EB.frz hy2
    go_wp2_with fail
    have hx3 : EB (w2.setCell ⟨w.heap.size + 1, 3, none⟩ (.string t)) w.heap.size _ _ := (Below.heap_setCell w2 ⟨w.heap.size + 1, 3, none⟩ (.string t) w.heap.size (by simp)).trans hx2
    have hfin := hx3.put ⟨c, b, r, t, 0, []⟩ (.slice none 0 0)
    refine bodyPost_ret (results_row_tmpC rfl _ _ w.heap.size 24 _ (0, 0) _ rfl hfin Tryz.underlying24 rfl Tryz.sizeEr) rfl ?_
    exact ⟨rfl, below_putE ((chain (chain hA hb1) hb2).setCell (p := ⟨w.heap.size + 1, 3, none⟩) (by simp) (.string t)) (Nat.le_refl _) ⟨c, b, r, t, 0, []⟩ (.slice none 0 0)⟩
  · rw [if_neg hm]
    have hm' : mayE ⟨c, b, r, t, 0, []⟩ = false := by simpa using hm
    rw [hm'] at cM'
    simp only [EdD.fs, zeroE]
    clear hx0 hA0 hm hm'
    go_enter Tryz.func26, Tryz.ntmps26
    go_wp2_with fail
    refine cM'.mono ?_
    rintro e w1 ⟨rfl, hb1⟩
    have hx1 := hx.below hb1
    obtain ⟨x0, x1, x2, x3, x4, x5⟩ := cellsEB hx1
    obtain ⟨fx0, fx1, fx2, fx3, fx4, fx5⟩ := EB.frz hx1
    go_wp2_with fail
    have hfin := hx1.put zeroE (.slice none 0 0)
    refine bodyPost_ret (results_row_tmpC rfl _ _ w.heap.size 24 _ (0, 0) _ rfl hfin Tryz.underlying24 rfl Tryz.sizeEr) rfl ?_
    exact ⟨rfl, below_putE (chain hA hb1) (Nat.le_refl _) zeroE (.slice none 0 0)⟩
end Go.Proofs.YtcdnlkhjlgaaoaaGreatDoor

/-
  An editor behind an edit of its own: edited.
-/
namespace Go.Proofs.YtcdnlkhjlgaaoaaGreatDoor
open Go.ChangeShapes Go.WideShapes Go.ChangeAt Go.RowKit Go.PlainAid

def edE (E : EdD) (d : List OpD) : EdD := ⟨E.c, E.b, E.r, (apR E.t d).1, E.s + 1, E.p.map EdW.cp ++ [EdW.cp ⟨E.s + 1, d⟩]⟩
theorem OwEd.set {W : World} {B : Nat} {v : Value} {l : List EdW} {us : List Value} (h : OwEd W B v l us) {a : Addr} (ha : a.block < B) (x : Value) : OwEd (W.setCell a x) B v l us :=
  ⟨h.ul, ownsRow_setCell_below h.row ha x, fun i e u h1 h2 => ownsRow_setCell_below (h.dl i e u h1 h2) ha x⟩
set_option maxRecDepth 20000 in
set_option maxHeartbeats 1000000 in
theorem edited_any (E : EdD) (d : List OpD) (v u : Value) (w : World) (hr : RdEd w v E.p) (hd : RdD w u d) (hF : E.Fit) (hs0 : -9223372036854775808 ≤ E.s) (hs : E.s ≤ 1000000) (hp : E.p.length ≤ 8) (hdl : d.length ≤ maxLen) (hdi : ∀ o ∈ d, o.In) (ht : E.t.size ≤ maxLen) :
    Calls Tryz.prog 55 #[.agg (E.fs v), u] w fun e w' => ∃ v' us, e = .returned (.agg ((edE E d).fs v')) ∧ OwEd w' w.heap.size v' (edE E d).p us ∧ Below w.heap.size w w' := by
  obtain ⟨i0, hin, hz0, hz1, hz2⟩ := info_parts Tryz.infoEd
  have hx0 := eb_new w E v
  have hA0 := alloc_b w (.cells (E.fs v) 24)
  have hx := hx0.below (alloc_b _ (.cells (zeroE.fs (.slice none 0 0)) 24))
  have hy := eb_new (w.alloc (.cells (E.fs v) 24)) zeroE (.slice none 0 0)
  have hA := chain hA0 (alloc_b (w.alloc (.cells (E.fs v) 24)) (.cells (zeroE.fs (.slice none 0 0)) 24))
  rw [World.size_alloc] at hy
  simp only [EdD.fs, zeroE] at hA hx hy
  have cA := apply_any E.t u d _ ht (hd.below hA) hdl hdi
  obtain ⟨av, kv, rfl⟩ := rded_len hr
  obtain ⟨au, ku, rfl⟩ := rdd_len hd
  have hw1 : IntKind.i64.wrap (E.s + 1) = E.s + 1 := by unfold IntKind.wrap; simp [IntKind.signed, IntKind.bits]; omega
  unfold edE
  generalize apR E.t d = AP at *
  have cW0 := fun W' (h : Below w.heap.size w W') => waiting_any _ E.p W' (hr.below h) (by omega) hF.pf
  have hlen : Hid ((E.p.map EdW.cp).length = E.p.length) := by show _ = _; simp
  generalize E.p.map EdW.cp = L0 at *
  clear hx0 hA0
  simp only [EdD.fs]
  go_enter Tryz.func55, Tryz.ntmps55
  go_wp2_with fail
  refine cA.mono ?_
  rintro e w1 ⟨rfl, hb1⟩
  have hx1 := hx.below hb1
  have hy1 := hy.below hb1
  have hB1 := chain hA hb1
  obtain ⟨x0, x1, x2, x3, x4, x5⟩ := cellsEB hx1
  obtain ⟨fx0, fx1, fx2, fx3, fx4, fx5⟩ := EB.frz hx1
  clear hx hy hA hb1 cA
  go_upto_region 3 with fail
  have hx3 : EB ((w1.setCell ⟨w.heap.size, 3, none⟩ (.string AP.1)).setCell ⟨w.heap.size, 4, none⟩ (.int .i64 (E.s + 1))) w.heap.size ⟨E.c, E.b, E.r, AP.1, E.s + 1, E.p⟩ _ := heap_setCell (heap_setCell hx1 3 (.string AP.1)) 4 (.int .i64 (E.s + 1))
  have hy3 : EB ((w1.setCell ⟨w.heap.size, 3, none⟩ (.string AP.1)).setCell ⟨w.heap.size, 4, none⟩ (.int .i64 (E.s + 1))) (w.heap.size + 1) _ _ := (Below.heap_setCell _ ⟨w.heap.size, 4, none⟩ _ (w.heap.size + 1) (by simp)).trans ((Below.heap_setCell _ ⟨w.heap.size, 3, none⟩ _ (w.heap.size + 1) (by simp)).trans hy1)
  have hB3 := (hB1.setCell (p := ⟨w.heap.size, 3, none⟩) (by simp) (.string AP.1)).setCell (p := ⟨w.heap.size, 4, none⟩) (by simp) (.int .i64 (E.s + 1))
  clear hx1 hy1 hB1 x0 x1 x2 x3 x4 x5 fx0 fx1 fx2 fx3 fx4 fx5
  obtain ⟨W, HW⟩ : ∃ W, Hid (W = (w1.setCell ⟨w.heap.size, 3, none⟩ (.string AP.1)).setCell ⟨w.heap.size, 4, none⟩ (.int .i64 (E.s + 1))) := ⟨_, rfl⟩
  rw [← HW.out] at hx3 hy3 hB3 ⊢
  clear HW
  replace hx3 : EB W.drew w.heap.size _ _ := hx3
  replace hy3 : EB W.drew (w.heap.size + 1) _ _ := hy3
  replace hB3 : Below w.heap.size w W.drew := Below.drew hB3
  obtain ⟨x0, x1, x2, x3, x4, x5⟩ := cellsEB hx3
  have cW := cW0 _ hB3
  clear cW0
  have hg1 : w.heap.size + 1 < W.drew.heap.size := hy3.lt
  have cC := fun W' (h : Below w.heap.size w W') => copiedE_any ⟨E.s + 1, d⟩ (.slice au d.length ku) W' (hd.below h) ⟨by show _ ≤ E.s + 1; omega, by show E.s + 1 ≤ _; omega, hdl, hdi⟩
  simp only at cC
  go_region_law (first
    | (go_simp; go_at_call 81; refine cW.mono ?_; rintro e wA ⟨uA, us, rfl, hoA, hbA⟩; obtain ⟨aA, kA, rfl⟩ := own_form hoA.row; have hxA := hx3.below hbA; have hyA := hy3.below hbA; have hBA := chain hB3 hbA; obtain ⟨a0, a1, a2, a3, a4, a5⟩ := cellsEB hxA)
    | (go_simp; go_at_call 61; refine (cC _ hBA).mono ?_; rintro e wC ⟨uC, rfl, hoC, hbC⟩; obtain ⟨aC, kC, rfl⟩ := own_form hoC; have hoE := (hoA.below hbC).below (alloc_b wC (.cells #[.int .i64 (E.s + 1), .slice aC (jn (stR d)).length kC] 41)); have hoD := own_lower (own_belowG hoC (alloc_b wC (.cells #[.int .i64 (E.s + 1), .slice aC (jn (stR d)).length kC] 41))) (b' := W.drew.heap.size) hbA.size; have hxC := (hxA.below hbC).below (alloc_b wC (.cells #[.int .i64 (E.s + 1), .slice aC (jn (stR d)).length kC] 41)); have hyC := (hyA.below hbC).below (alloc_b wC (.cells #[.int .i64 (E.s + 1), .slice aC (jn (stR d)).length kC] 41)); have hBC := chain (chain hBA hbC) (alloc_b wC (.cells #[.int .i64 (E.s + 1), .slice aC (jn (stR d)).length kC] 41)))
    | (refine step_append_lies _ (by rfl) (.tmp 19) (.tmp 25) 22 (by rfl) W.drew.heap.size 41 i0 (.agg #[.int .i64 0, .slice none 0 0]) 2 32 Tryz.underlying22 hin hz0 hz1 hz2 rfl (by decide) _ L0.length _ (by rfl) hoE.row ⟨_, 0, none⟩ 1 1 [.int .i64 (E.s + 1), .slice aC (jn (stR d)).length kC] (by rfl) rfl (many_new _ _ _) (two_one _ _ _ _) (by decide) (by have := hlen.out; unfold maxLen; omega) (by have := hlen.out; omega) (by have := hbA.size; have := hbC.size; rw [World.size_alloc]; omega) _ rfl ?_; intro g4 cap4 w4 ho4 hg4 hgg hgl; have hnew := OwEd.app (e := EdW.cp ⟨E.s + 1, d⟩) hoE hoD ho4 hg4; have hx4 : EB w4 w.heap.size ⟨E.c, E.b, E.r, AP.1, E.s + 1, E.p⟩ (.slice av E.p.length kv) := (hg4.block w.heap.size hxC.lt (fun e => by have := (hoE.row.lt _ e.symm).1; omega)).trans hxC; have hy4 : EB w4 (w.heap.size + 1) zeroE (.slice none 0 0) := (hg4.block (w.heap.size + 1) hyC.lt (fun e => by have := (hoE.row.lt _ e.symm).1; omega)).trans hyC; obtain ⟨b0, b1, b2, b3, b4, b5⟩ := cellsEB hx4; obtain ⟨fb0, fb1, fb2, fb3, fb4, fb5⟩ := EB.frz hx4; obtain ⟨e0, e1, e2, e3, e4, e5⟩ := cellsEB hy4; obtain ⟨fe0, fe1, fe2, fe3, fe4, fe5⟩ := EB.frz hy4; have hB4 := hBC.grown hg4 (by have := hBC.size; omega) (fun j hj => by have := (hoE.row.lt j hj).1; omega)))
  all_goals
    go_wp2_with fail
    have hy5 : EB (w4.setCell ⟨w.heap.size, 5, none⟩ (.slice (some ⟨g4, 0, none⟩) (L0.length + 1) cap4)) (w.heap.size + 1) zeroE (.slice none 0 0) := (Below.heap_setCell w4 ⟨w.heap.size, 5, none⟩ (.slice (some ⟨g4, 0, none⟩) (L0.length + 1) cap4) (w.heap.size + 1) (by simp)).trans hy4
    have hfin := EB.put hy5 ⟨E.c, E.b, E.r, AP.1, E.s + 1, []⟩ (.slice (some ⟨g4, 0, none⟩) (L0.length + 1) cap4)
    refine bodyPost_ret (results_cell_row rfl _ _ (w.heap.size + 1) 24 _ (0, 0) _ rfl hfin Tryz.underlying24 rfl Tryz.sizeEr) rfl ?_
    refine ⟨_, rfl, ⟨us ++ [.slice aC (jn (stR d)).length kC], ?_⟩, below_putE (hB4.setCell (p := ⟨w.heap.size, 5, none⟩) (by simp) _) (by omega) ⟨E.c, E.b, E.r, AP.1, E.s + 1, []⟩ _⟩
    refine OwEd.lower (B := W.drew.heap.size) ?_ (by omega)
    exact ((((((hnew.set (a := ⟨w.heap.size, 5, none⟩) (by simp only; omega) _).set (a := ⟨w.heap.size + 1, 0, none⟩) (by simp only; omega) _).set (a := ⟨w.heap.size + 1, 1, none⟩) (by simp only; omega) _).set (a := ⟨w.heap.size + 1, 2, none⟩) (by simp only; omega) _).set (a := ⟨w.heap.size + 1, 3, none⟩) (by simp only; omega) _).set (a := ⟨w.heap.size + 1, 4, none⟩) (by simp only; omega) _).set (a := ⟨w.heap.size + 1, 5, none⟩) (by simp only; omega) _
end Go.Proofs.YtcdnlkhjlgaaoaaGreatDoor
