/-
  Proved: the needed commits are those that stand in a branch's log, or above one that does (the law GcAbove), for every input.
-/
import Derived.Test.YthhdpabelcgfjaaGcG
import Derived.Test.YthhdpabelcgfjaaRows
namespace Go.Proofs.Ythhdpabelcgfjaa.gcAbove
open Go.Maps Go.ChangeShapes Go.WideShapes Go.ChangeAt Go.RowKit Go.PlainAid

def phAl (p1 g off n ka1 k : Nat) (av : Option Addr) (kv : Nat) (x : CoD) (ap : Option Addr) (kp : Nat) : Nat → Value → World → Prop
  | 0, v, _ => v = (.slice av k kv)
  | 1, v, _ => v = (.pointer (some ⟨p1, 2, none⟩))
  | 2, v, _ => v = (.slice (some ⟨g, off, none⟩) n ka1)
  | 3, v, _ => v = (.int .i64 (k : Int))
  | 4, v, _ => v = (.pointer (some ⟨g, off + k * 6, none⟩))
  | 5, v, _ => v = (.pointer (some ⟨g, off + k * 6, none⟩))
  | 6, v, _ => v = (.int .i64 x.n)
  | 7, v, _ => v = (.pointer (some ⟨p1, 2, none⟩))
  | 8, v, _ => v = (.slice (some ⟨g, off, none⟩) n ka1)
  | 9, v, _ => v = (.int .i64 (k : Int))
  | 10, v, _ => v = (.pointer (some ⟨g, off + k * 6, none⟩))
  | 11, v, _ => v = (.pointer (some ⟨g, off + k * 6 + 1, none⟩))
  | 12, v, _ => v = (.slice ap x.ps.length kp)
  | 13, v, _ => v = (.agg #[.int .i64 x.n, .slice ap x.ps.length kp])
  | 14, v, W => ∃ g, v = .slice (some ⟨g, 0, none⟩) 1 1 ∧ W.heap[g]? = some (.cells #[.int .i64 x.n, .slice ap x.ps.length kp] 42)
  | _, _, _ => True

theorem phAl_stays {p1 g off n ka1 k : Nat} {av : Option Addr} {kv : Nat} {x : CoD} {ap : Option Addr} {kp : Nat} (i : Nat) (v : Value) (w w' : World) (h : phAl p1 g off n ka1 k av kv x ap kp i v w) (hg : Below w.heap.size w w') : phAl p1 g off n ka1 k av kv x ap kp i v w' := by
  unfold phAl at h ⊢
  split at h
  all_goals first
    | exact h
    | trivial
    | (obtain ⟨g, e, hq⟩ := h; exact ⟨g, e, (hg.block g (heap_lt hq)).trans hq⟩)

def phBl (gw gv n k kv : Nat) (r : Bool) (xn : Int) (aL : Option Addr) (nL kL : Nat) : Nat → Value → World → Prop
  | 0, v, _ => v = (.slice (some ⟨gw, 0, none⟩) n n)
  | 1, v, _ => v = (.int .i64 (k : Int))
  | 2, v, _ => v = (.pointer (some ⟨gw, k, none⟩))
  | 3, v, _ => v = (.bool r)
  | 4, v, _ => v = (.slice aL nL kL)
  | 5, v, _ => v = (.slice (some ⟨gv, 0, none⟩) n kv)
  | 6, v, _ => v = (.int .i64 (k : Int))
  | 7, v, _ => v = (.pointer (some ⟨gv, k * 2, none⟩))
  | 8, v, _ => v = (.pointer (some ⟨gv, k * 2, none⟩))
  | 9, v, _ => v = (.int .i64 xn)
  | 10, v, _ => v = (.bool r)
  | 11, v, _ => v = (.bool false)
  | _, _, _ => True

theorem phBl_stays {gw gv n k kv : Nat} {r : Bool} {xn : Int} {aL : Option Addr} {nL kL : Nat} (i : Nat) (v : Value) (w w' : World) (h : phBl gw gv n k kv r xn aL nL kL i v w) (_hg : Below w.heap.size w w') : phBl gw gv n k kv r xn aL nL kL i v w' := by
  unfold phBl at h ⊢
  split at h
  all_goals first
    | exact h
    | trivial

/-- The marks on their way: only their own row changes behind w4. -/
structure WL (w wr w4 : World) (gw n : Nat) (cs : List CoD) (P Q : List Int) (k : Nat) (W : World) : Prop where
  gb : w4.grownBy W (some gw)
  bl : Below w.heap.size w W
  br : Below wr.heap.size wr W
  row : ∃ l, W.ownsRow gw 4 1 (.slice (some ⟨gw, 0, none⟩) n n) n (bvs l) ∧ WMark cs P Q k l
section
variable {w wr w4 W W' : World} {gw n : Nat} {cs : List CoD} {P Q : List Int} {k : Nat}
theorem WL.below (h : WL w wr w4 gw n cs P Q k W) (hb : Below W.heap.size W W') : WL w wr w4 gw n cs P Q k W' := by
  obtain ⟨l, h1, h2⟩ := h.row
  exact ⟨gb_transT h.gb (gq_below hb), h.bl.trans (hb.mono h.bl.size), h.br.trans (hb.mono h.br.size), l, own_belowG h1 hb, h2⟩
theorem WL.mark {P' Q' : List Int} {k' : Nat} (h : WL w wr w4 gw n cs P Q k W) (hm : ∀ l, WMark cs P Q k l → WMark cs P' Q' k' l) : WL w wr w4 gw n cs P' Q' k' W := by
  obtain ⟨l, h1, h2⟩ := h.row
  exact ⟨h.gb, h.bl, h.br, l, h1, hm l h2⟩
theorem WL.storeL (h : WL w wr w4 gw n cs P Q k W) (h1 : w.heap.size ≤ gw) (h2 : wr.heap.size ≤ gw) {l : List Bool} (h3 : W.ownsRow gw 4 1 (.slice (some ⟨gw, 0, none⟩) n n) n (bvs l)) {P' Q' : List Int} {k' : Nat} {b : Bool} (hm : WMark cs P' Q' k' (l.set k b)) : WL w wr w4 gw n cs P' Q' k' (W.setCell ⟨gw, k, none⟩ (.bool b)) := by
  obtain ⟨s1, s2⟩ := h3.stored k (.bool b)
  have e : (bvs l).set k (.bool b) = bvs (l.set k b) := by simp [bvs, List.map_set]
  rw [e] at s1
  exact ⟨gb_transT h.gb s2, h.bl.setCell (p := ⟨gw, k, none⟩) h1 _, h.br.setCell (p := ⟨gw, k, none⟩) h2 _, _, s1, hm⟩
theorem bvs_at {l : List Bool} {k : Nat} {v : Value} (h : (bvs l)[k]? = some v) : ∃ t, l[k]? = some t ∧ v = .bool t := by
  unfold bvs at h
  rw [List.getElem?_map] at h
  cases hl : l[k]? with
  | none => rw [hl] at h; cases h
  | some t => rw [hl] at h; simp at h; exact ⟨t, rfl, h.symm⟩
/-- The cell of a place. -/
theorem WL.cell (h : WL w wr w4 gw n cs P Q k W) {j : Nat} (hj : j < n) : ∃ l t, W.ownsRow gw 4 1 (.slice (some ⟨gw, 0, none⟩) n n) n (bvs l) ∧ WMark cs P Q k l ∧ l[j]? = some t ∧ W.cell? ⟨gw, j, none⟩ = some (.bool t) := by
  obtain ⟨l, h1, h2⟩ := h.row
  have hl : (bvs l).length = n := by have := h1.1; omega
  have hlt : j < (bvs l).length := by omega
  have hx : (bvs l)[j]? = some (bvs l)[j] := List.getElem?_eq_getElem hlt
  obtain ⟨t, h3, h4⟩ := bvs_at hx
  have hc := h1.cells (g := gw) rfl j _ hx
  rw [adK, Nat.zero_add, h4] at hc
  exact ⟨l, t, h1, h2, h3, hc⟩
theorem WL.fz (h : WL w wr w4 gw n cs P Q k W) (j : Nat) : W.frozen? ⟨gw, j, none⟩ = false := by
  obtain ⟨l, h1, h2⟩ := h.row
  exact own_fz h1 j
end
theorem Try.infoBo : (Try.prog.info? 4).map (fun i => (i.zero, i.size, i.bytes)) = some (some (.bool false), 1, 1) := by kernel_rfl
theorem make_bools (n : Nat) (hn : n ≤ 140737488355328) : ∃ Z : Array Value, Z.toList = bvs (List.replicate n false) ∧ ∀ W : World, (Instr.makeSlice 45 (.int .i64 (n : Int)) (.int .i64 (n : Int))).run Try.prog W = .ok (.slice (some ⟨W.heap.size, 0, none⟩) n n) (W.alloc (.cells Z 4)) := by
  obtain ⟨i0, hi, hz0, hz1, hz2⟩ := info_parts Try.infoBo
  refine ⟨madeCells (Value.bool false).cells (n * i0.size), ?_, fun W => ?_⟩
  rotate_left
  · have h := run_make (P := Try.prog) W 45 4 i0 _ Try.underlying45 hi hz0 .i64 .i64 (n : Int) (n : Int) (by omega) (by omega) (by rw [hz2]; omega) (by omega)
    simpa using h
  · rw [hz1, Nat.mul_one]
    have := toList_madeCells_one (Value.bool false) n
    simp only [Value.cells] at this ⊢
    rw [this]
    simp [bvs]
theorem own_made {W : World} {Z : Array Value} {l : List Bool} (h : Z.toList = bvs l) (hl : l.length ≤ maxLen) : (W.alloc (.cells Z 4)).ownsRow W.heap.size 4 1 (.slice (some ⟨W.heap.size, 0, none⟩) l.length l.length) l.length (bvs l) := by
  have hs : Z.size = l.length := by rw [← Array.length_toList, h]; simp [bvs]
  refine ⟨by simp [bvs], .inr ⟨_, _, _, rfl, Nat.le_refl _, heap_alloc_new W _, Nat.le_refl _, hl, by rw [hs]; omega, ?_⟩⟩
  rw [h, List.take_of_length_le (by simp [bvs])]
theorem Try.infoLk : (Try.prog.info? 42).map (fun i => (i.zero, i.size, i.bytes)) = some (some (.agg #[.int .i64 0, .slice none 0 0]), 2, 32) := by kernel_rfl
theorem two_lk (n : Int) (a : Option Addr) (m k : Nat) : ∀ u ∈ [Value.int .i64 n, .slice a m k], u.oneCell' = true := by
  intro u hu
  simp at hu
  rcases hu with rfl | rfl <;> rfl
theorem many_at {W : World} {g : Nat} {c : List Value} {t : TypeId} (h : W.heap[g]? = some (.cells c.toArray t)) : ∀ j u, c[j]? = some u → W.cell? ((⟨g, 0, none⟩ : Addr).add j) = some u := fun j u hj => by
  rw [adK, Nat.zero_add, cell_of_row W g j _ _ (0, 0) h]
  simpa using hj
set_option maxRecDepth 20000 in
set_option maxHeartbeats 6000000 in
theorem walk (S : StD) (v1 v2 v3 : Value) (w : World) (hr : RdSt w v1 v2 v3 S) (hU : StU false S) :
    Calls Try.prog 5 #[.agg (S.fs v1 v2 v3)] w fun e w' => e = .returned (.bool true) ∧ Below w.heap.size w w' := by
  obtain ⟨a1, ka1, e1, -⟩ := id hr.c
  subst e1
  obtain ⟨a2, ka2, e2, hbs⟩ := id hr.b
  subst e2
  obtain ⟨a3, ka3, e3, -⟩ := id hr.u
  subst e3
  obtain ⟨i0, hin, hz0, hz1, hz2⟩ := info_parts Try.infoLk
  obtain ⟨us, hA⟩ := at_co hr.c
  have hp0 := sb_new w S (.slice a1 S.cs.length ka1) (.slice a2 S.bs.length ka2) (.slice a3 S.us.length ka3)
  have hb0 := alloc_bR w (.cells (S.fs (.slice a1 S.cs.length ka1) (.slice a2 S.bs.length ka2) (.slice a3 S.us.length ka3)) 26)
  have cN1 := fun W (h : Below w.heap.size w W) => needed_any S _ _ _ W (hr.below h) hU
  have hlc := hU.cl.1
  have hlb := hU.bl.1
  have hco := hU.co
  have hbr := hU.br
  have z0 : w.heap.size + 1 ≤ (w.alloc (.cells (S.fs (.slice a1 S.cs.length ka1) (.slice a2 S.bs.length ka2) (.slice a3 S.us.length ka3)) 26)).heap.size := by simp
  clear hr hU
  obtain ⟨nc, nb, cs, bs, uu⟩ := S
  simp only [StD.fs] at *
  have ho0 : (w.alloc (.cells #[.int .i64 nc, .int .i64 nb, .slice a1 cs.length ka1, .slice a2 bs.length ka2, .slice a3 uu.length ka3] 26)).ownsRow (w.heap.size + 1) 42 2 (.slice none 0 0) 0 (lcsL (cs.take 0) (us.take 0)) := by
    have e : lcsL (cs.take 0) (us.take 0) = [] := rfl
    rw [e]
    exact World.ownsRow_nil _ _ _ _
  go_enter Try.func5, Try.ntmps5
  go_upto_region 3 with fail
  generalize w.alloc (.cells #[.int .i64 nc, .int .i64 nb, .slice a1 cs.length ka1, .slice a2 bs.length ka2, .slice a3 uu.length ka3] 26) = w1 at *
  go_loopw [3, 4] (fun a i wr => ∃ k : Nat, k ≤ cs.length ∧ i = .int .i64 (k : Int) ∧ wr.ownsRow (w.heap.size + 1) 42 2 a k (lcsL (cs.take k) (us.take k)) ∧ SB wr w.heap.size ⟨nc, nb, cs, bs, uu⟩ (.slice a1 cs.length ka1) (.slice a2 bs.length ka2) (.slice a3 uu.length ka3) ∧ Below w.heap.size w wr ∧ w.heap.size + 1 ≤ wr.heap.size) (fun _ i _ => cs.length - (Go.RowKit.intOf i).toNat)
  case atStart => exact ⟨0, by omega, rfl, ho0, hp0, hb0, z0⟩
  case round =>
    clear ho0 hp0 hb0 z0
    obtain ⟨k, hk, rfl, ho, hS1, hb, hz⟩ := hrel
    obtain ⟨x0, x1, x2, x3, x4⟩ := cellsSB hS1
    obtain ⟨av, kv, rfl⟩ := own_form ho
    by_cases hlt : k < cs.length
    · have hlt' : (k : Int) < (cs.length : Int) := by omega
      obtain ⟨u, hu⟩ : ∃ u, us[k]? = some u := ⟨us[k]'(by rw [hA.ul]; exact hlt), by simp⟩
      have hxk : cs[k]? = some cs[k] := by simp [hlt]
      obtain ⟨g, off, rfl, hgw, ⟨c0, c1, -⟩, r1, -⟩ := hA.at_ k _ u hxk hu
      have eL : lcsL (cs.take (k + 1)) (us.take (k + 1)) = lcsL (cs.take k) (us.take k) ++ [.int .i64 (cs[k]).n, u.1] := by
        have e1 : us.take (k + 1) = us.take k ++ [u] := by
          rw [List.take_add_one, hu]
          rfl
        rw [List.take_succ_eq_append_getElem hlt, e1]
        exact lcsL_snoc _ _ _ _ (by simp [hA.ul])
      have q := fun o => hb.cell (p := ⟨g, o, none⟩) hgw
      rw [← q] at c0 c1
      have hdw : Below wr.heap.size wr wr.drew := (Below.refl _ _).drew
      replace hS1 := hS1.below hdw
      have hg : g < wr.drew.heap.size := Nat.lt_of_lt_of_le hgw hb.size
      have hxn : x0 = x0 := rfl
      clear q hxk hu hxn
      generalize cs[k] = x at *
      obtain ⟨ap, kp, eu⟩ := rdi_len r1
      rw [eu] at c1 eL
      obtain ⟨HL⟩ : Nonempty (Hid (lcsL (cs.take (k + 1)) (us.take (k + 1)) = lcsL (cs.take k) (us.take k) ++ [Value.int .i64 x.n, Value.slice ap x.ps.length kp])) := ⟨eL⟩
      clear eL eu r1
      have hkl : k * 32 ≤ 140737488355328 := by omega
      generalize lcsL (cs.take k) (us.take k) = LC at *
      go_upto_region 5 with fail
      clear x0 x1 x2 x3 x4
      refine mono.region_monoT (phAl w.heap.size g off cs.length ka1 k av kv x ap kp) 15 135 [] [0, 1, 2, 3, 4, 5, 6, 7, 8, 9, 10, 11, 12, 13, 14] (by kernel_rfl) rfl rfl (by kernel_rfl) (by kernel_rfl) (by kernel_rfl) (by kernel_rfl) (by kernel_rfl) (by kernel_rfl) phAl_stays (.cons ?_ (.cons ?_ (.cons ?_ (.cons ?_ (.cons ?_ (.cons ?_ (.cons ?_ (.cons ?_ (.cons ?_ (.cons ?_ (.cons ?_ (.cons ?_ (.cons ?_ (.cons ?_ (.cons ?_ (.nil)))))))))))))))) ?_
      · refine mono.dutyT_of rfl ?_
        intro f W hR hO hD K hK
        have eL : mono.lit 135 f [] = ⟨#[f 0, f 1, f 2, f 3, f 4, f 5, f 6, f 7, f 8, f 9, f 10, f 11, f 12, f 13, f 14, f 15, f 16, f 17, f 18, f 19, f 20, f 21, f 22, f 23, f 24, f 25, f 26, f 27, f 28, f 29, f 30, f 31, f 32, f 33, f 34, f 35, f 36, f 37, f 38, f 39, f 40, f 41, f 42, f 43, f 44, f 45, f 46, f 47, f 48, f 49, f 50, f 51, f 52, f 53, f 54, f 55, f 56, f 57, f 58, f 59, f 60, f 61, f 62, f 63, f 64, f 65, f 66, f 67, f 68, f 69, f 70, f 71, f 72, f 73, f 74, f 75, f 76, f 77, f 78, f 79, f 80, f 81, f 82, f 83, f 84, f 85, f 86, f 87, f 88, f 89, f 90, f 91, f 92, f 93, f 94, f 95, f 96, f 97, f 98, f 99, f 100, f 101, f 102, f 103, f 104, f 105, f 106, f 107, f 108, f 109, f 110, f 111, f 112, f 113, f 114, f 115, f 116, f 117, f 118, f 119, f 120, f 121, f 122, f 123, f 124, f 125, f 126, f 127, f 128, f 129, f 130, f 131, f 132, f 133, f 134], []⟩ := rfl
        replace hK : ∀ v W', Below W.heap.size W W' → phAl w.heap.size g off cs.length ka1 k av kv x ap kp 0 v W' → K ((mono.lit 135 f []).put (some 21) v) W' := hK
        rw [eL] at hK ⊢
        simp only [Act.put, List.setIfInBounds_toArray, List.set_cons_succ, List.set_cons_zero] at hK
        have o3 : f 3 = (.slice av k kv) := hO 3 (by kernel_rfl)
        rw [o3] at hK ⊢
        go_simp
        exact hK _ _ (Below.refl _ _) rfl
      · refine mono.dutyT_of rfl ?_
        intro f W hR hO hD K hK
        have eL : mono.lit 135 f [] = ⟨#[f 0, f 1, f 2, f 3, f 4, f 5, f 6, f 7, f 8, f 9, f 10, f 11, f 12, f 13, f 14, f 15, f 16, f 17, f 18, f 19, f 20, f 21, f 22, f 23, f 24, f 25, f 26, f 27, f 28, f 29, f 30, f 31, f 32, f 33, f 34, f 35, f 36, f 37, f 38, f 39, f 40, f 41, f 42, f 43, f 44, f 45, f 46, f 47, f 48, f 49, f 50, f 51, f 52, f 53, f 54, f 55, f 56, f 57, f 58, f 59, f 60, f 61, f 62, f 63, f 64, f 65, f 66, f 67, f 68, f 69, f 70, f 71, f 72, f 73, f 74, f 75, f 76, f 77, f 78, f 79, f 80, f 81, f 82, f 83, f 84, f 85, f 86, f 87, f 88, f 89, f 90, f 91, f 92, f 93, f 94, f 95, f 96, f 97, f 98, f 99, f 100, f 101, f 102, f 103, f 104, f 105, f 106, f 107, f 108, f 109, f 110, f 111, f 112, f 113, f 114, f 115, f 116, f 117, f 118, f 119, f 120, f 121, f 122, f 123, f 124, f 125, f 126, f 127, f 128, f 129, f 130, f 131, f 132, f 133, f 134], []⟩ := rfl
        replace hK : ∀ v W', Below W.heap.size W W' → phAl w.heap.size g off cs.length ka1 k av kv x ap kp 1 v W' → K ((mono.lit 135 f []).put (some 22) v) W' := hK
        rw [eL] at hK ⊢
        simp only [Act.put, List.setIfInBounds_toArray, List.set_cons_succ, List.set_cons_zero] at hK
        have o1 : f 1 = (.pointer (some ⟨w.heap.size, 0, none⟩)) := hO 1 (by kernel_rfl)
        rw [o1] at hK ⊢
        go_simp
        exact hK _ _ (Below.refl _ _) rfl
      · refine mono.dutyT_of rfl ?_
        intro f W hR hO hD K hK
        have eL : mono.lit 135 f [] = ⟨#[f 0, f 1, f 2, f 3, f 4, f 5, f 6, f 7, f 8, f 9, f 10, f 11, f 12, f 13, f 14, f 15, f 16, f 17, f 18, f 19, f 20, f 21, f 22, f 23, f 24, f 25, f 26, f 27, f 28, f 29, f 30, f 31, f 32, f 33, f 34, f 35, f 36, f 37, f 38, f 39, f 40, f 41, f 42, f 43, f 44, f 45, f 46, f 47, f 48, f 49, f 50, f 51, f 52, f 53, f 54, f 55, f 56, f 57, f 58, f 59, f 60, f 61, f 62, f 63, f 64, f 65, f 66, f 67, f 68, f 69, f 70, f 71, f 72, f 73, f 74, f 75, f 76, f 77, f 78, f 79, f 80, f 81, f 82, f 83, f 84, f 85, f 86, f 87, f 88, f 89, f 90, f 91, f 92, f 93, f 94, f 95, f 96, f 97, f 98, f 99, f 100, f 101, f 102, f 103, f 104, f 105, f 106, f 107, f 108, f 109, f 110, f 111, f 112, f 113, f 114, f 115, f 116, f 117, f 118, f 119, f 120, f 121, f 122, f 123, f 124, f 125, f 126, f 127, f 128, f 129, f 130, f 131, f 132, f 133, f 134], []⟩ := rfl
        replace hK : ∀ v W', Below W.heap.size W W' → phAl w.heap.size g off cs.length ka1 k av kv x ap kp 2 v W' → K ((mono.lit 135 f []).put (some 23) v) W' := hK
        rw [eL] at hK ⊢
        simp only [Act.put, List.setIfInBounds_toArray, List.set_cons_succ, List.set_cons_zero] at hK
        have q1 := hD 1 22 (by kernel_rfl) (by kernel_rfl)
        replace q1 : f 22 = (.pointer (some ⟨w.heap.size, 2, none⟩)) := q1
        rw [q1] at hK ⊢
        obtain ⟨x0, x1, x2, x3, x4⟩ := cellsSB (hS1.below hR)
        go_simp
        exact hK _ _ (Below.refl _ _) rfl
      · refine mono.dutyT_of rfl ?_
        intro f W hR hO hD K hK
        have eL : mono.lit 135 f [] = ⟨#[f 0, f 1, f 2, f 3, f 4, f 5, f 6, f 7, f 8, f 9, f 10, f 11, f 12, f 13, f 14, f 15, f 16, f 17, f 18, f 19, f 20, f 21, f 22, f 23, f 24, f 25, f 26, f 27, f 28, f 29, f 30, f 31, f 32, f 33, f 34, f 35, f 36, f 37, f 38, f 39, f 40, f 41, f 42, f 43, f 44, f 45, f 46, f 47, f 48, f 49, f 50, f 51, f 52, f 53, f 54, f 55, f 56, f 57, f 58, f 59, f 60, f 61, f 62, f 63, f 64, f 65, f 66, f 67, f 68, f 69, f 70, f 71, f 72, f 73, f 74, f 75, f 76, f 77, f 78, f 79, f 80, f 81, f 82, f 83, f 84, f 85, f 86, f 87, f 88, f 89, f 90, f 91, f 92, f 93, f 94, f 95, f 96, f 97, f 98, f 99, f 100, f 101, f 102, f 103, f 104, f 105, f 106, f 107, f 108, f 109, f 110, f 111, f 112, f 113, f 114, f 115, f 116, f 117, f 118, f 119, f 120, f 121, f 122, f 123, f 124, f 125, f 126, f 127, f 128, f 129, f 130, f 131, f 132, f 133, f 134], []⟩ := rfl
        replace hK : ∀ v W', Below W.heap.size W W' → phAl w.heap.size g off cs.length ka1 k av kv x ap kp 3 v W' → K ((mono.lit 135 f []).put (some 24) v) W' := hK
        rw [eL] at hK ⊢
        simp only [Act.put, List.setIfInBounds_toArray, List.set_cons_succ, List.set_cons_zero] at hK
        have o4 : f 4 = (.int .i64 (k : Int)) := hO 4 (by kernel_rfl)
        rw [o4] at hK ⊢
        go_simp
        exact hK _ _ (Below.refl _ _) rfl
      · refine mono.dutyT_of rfl ?_
        intro f W hR hO hD K hK
        have eL : mono.lit 135 f [] = ⟨#[f 0, f 1, f 2, f 3, f 4, f 5, f 6, f 7, f 8, f 9, f 10, f 11, f 12, f 13, f 14, f 15, f 16, f 17, f 18, f 19, f 20, f 21, f 22, f 23, f 24, f 25, f 26, f 27, f 28, f 29, f 30, f 31, f 32, f 33, f 34, f 35, f 36, f 37, f 38, f 39, f 40, f 41, f 42, f 43, f 44, f 45, f 46, f 47, f 48, f 49, f 50, f 51, f 52, f 53, f 54, f 55, f 56, f 57, f 58, f 59, f 60, f 61, f 62, f 63, f 64, f 65, f 66, f 67, f 68, f 69, f 70, f 71, f 72, f 73, f 74, f 75, f 76, f 77, f 78, f 79, f 80, f 81, f 82, f 83, f 84, f 85, f 86, f 87, f 88, f 89, f 90, f 91, f 92, f 93, f 94, f 95, f 96, f 97, f 98, f 99, f 100, f 101, f 102, f 103, f 104, f 105, f 106, f 107, f 108, f 109, f 110, f 111, f 112, f 113, f 114, f 115, f 116, f 117, f 118, f 119, f 120, f 121, f 122, f 123, f 124, f 125, f 126, f 127, f 128, f 129, f 130, f 131, f 132, f 133, f 134], []⟩ := rfl
        replace hK : ∀ v W', Below W.heap.size W W' → phAl w.heap.size g off cs.length ka1 k av kv x ap kp 4 v W' → K ((mono.lit 135 f []).put (some 25) v) W' := hK
        rw [eL] at hK ⊢
        simp only [Act.put, List.setIfInBounds_toArray, List.set_cons_succ, List.set_cons_zero] at hK
        have q2 := hD 2 23 (by kernel_rfl) (by kernel_rfl)
        replace q2 : f 23 = (.slice (some ⟨g, off, none⟩) cs.length ka1) := q2
        have q3 := hD 3 24 (by kernel_rfl) (by kernel_rfl)
        replace q3 : f 24 = (.int .i64 (k : Int)) := q3
        rw [q2, q3] at hK ⊢
        go_simp
        exact hK _ _ (Below.refl _ _) rfl
      · refine mono.dutyT_of rfl ?_
        intro f W hR hO hD K hK
        have eL : mono.lit 135 f [] = ⟨#[f 0, f 1, f 2, f 3, f 4, f 5, f 6, f 7, f 8, f 9, f 10, f 11, f 12, f 13, f 14, f 15, f 16, f 17, f 18, f 19, f 20, f 21, f 22, f 23, f 24, f 25, f 26, f 27, f 28, f 29, f 30, f 31, f 32, f 33, f 34, f 35, f 36, f 37, f 38, f 39, f 40, f 41, f 42, f 43, f 44, f 45, f 46, f 47, f 48, f 49, f 50, f 51, f 52, f 53, f 54, f 55, f 56, f 57, f 58, f 59, f 60, f 61, f 62, f 63, f 64, f 65, f 66, f 67, f 68, f 69, f 70, f 71, f 72, f 73, f 74, f 75, f 76, f 77, f 78, f 79, f 80, f 81, f 82, f 83, f 84, f 85, f 86, f 87, f 88, f 89, f 90, f 91, f 92, f 93, f 94, f 95, f 96, f 97, f 98, f 99, f 100, f 101, f 102, f 103, f 104, f 105, f 106, f 107, f 108, f 109, f 110, f 111, f 112, f 113, f 114, f 115, f 116, f 117, f 118, f 119, f 120, f 121, f 122, f 123, f 124, f 125, f 126, f 127, f 128, f 129, f 130, f 131, f 132, f 133, f 134], []⟩ := rfl
        replace hK : ∀ v W', Below W.heap.size W W' → phAl w.heap.size g off cs.length ka1 k av kv x ap kp 5 v W' → K ((mono.lit 135 f []).put (some 26) v) W' := hK
        rw [eL] at hK ⊢
        simp only [Act.put, List.setIfInBounds_toArray, List.set_cons_succ, List.set_cons_zero] at hK
        have q4 := hD 4 25 (by kernel_rfl) (by kernel_rfl)
        replace q4 : f 25 = (.pointer (some ⟨g, off + k * 6, none⟩)) := q4
        rw [q4] at hK ⊢
        go_simp
        exact hK _ _ (Below.refl _ _) rfl
      · refine mono.dutyT_of rfl ?_
        intro f W hR hO hD K hK
        have eL : mono.lit 135 f [] = ⟨#[f 0, f 1, f 2, f 3, f 4, f 5, f 6, f 7, f 8, f 9, f 10, f 11, f 12, f 13, f 14, f 15, f 16, f 17, f 18, f 19, f 20, f 21, f 22, f 23, f 24, f 25, f 26, f 27, f 28, f 29, f 30, f 31, f 32, f 33, f 34, f 35, f 36, f 37, f 38, f 39, f 40, f 41, f 42, f 43, f 44, f 45, f 46, f 47, f 48, f 49, f 50, f 51, f 52, f 53, f 54, f 55, f 56, f 57, f 58, f 59, f 60, f 61, f 62, f 63, f 64, f 65, f 66, f 67, f 68, f 69, f 70, f 71, f 72, f 73, f 74, f 75, f 76, f 77, f 78, f 79, f 80, f 81, f 82, f 83, f 84, f 85, f 86, f 87, f 88, f 89, f 90, f 91, f 92, f 93, f 94, f 95, f 96, f 97, f 98, f 99, f 100, f 101, f 102, f 103, f 104, f 105, f 106, f 107, f 108, f 109, f 110, f 111, f 112, f 113, f 114, f 115, f 116, f 117, f 118, f 119, f 120, f 121, f 122, f 123, f 124, f 125, f 126, f 127, f 128, f 129, f 130, f 131, f 132, f 133, f 134], []⟩ := rfl
        replace hK : ∀ v W', Below W.heap.size W W' → phAl w.heap.size g off cs.length ka1 k av kv x ap kp 6 v W' → K ((mono.lit 135 f []).put (some 27) v) W' := hK
        rw [eL] at hK ⊢
        simp only [Act.put, List.setIfInBounds_toArray, List.set_cons_succ, List.set_cons_zero] at hK
        have q5 := hD 5 26 (by kernel_rfl) (by kernel_rfl)
        replace q5 : f 26 = (.pointer (some ⟨g, off + k * 6, none⟩)) := q5
        rw [q5] at hK ⊢
        have y0 := (hR.cell (p := ⟨g, _, none⟩) hg).trans c0
        go_simp
        exact hK _ _ (Below.refl _ _) rfl
      · refine mono.dutyT_of rfl ?_
        intro f W hR hO hD K hK
        have eL : mono.lit 135 f [] = ⟨#[f 0, f 1, f 2, f 3, f 4, f 5, f 6, f 7, f 8, f 9, f 10, f 11, f 12, f 13, f 14, f 15, f 16, f 17, f 18, f 19, f 20, f 21, f 22, f 23, f 24, f 25, f 26, f 27, f 28, f 29, f 30, f 31, f 32, f 33, f 34, f 35, f 36, f 37, f 38, f 39, f 40, f 41, f 42, f 43, f 44, f 45, f 46, f 47, f 48, f 49, f 50, f 51, f 52, f 53, f 54, f 55, f 56, f 57, f 58, f 59, f 60, f 61, f 62, f 63, f 64, f 65, f 66, f 67, f 68, f 69, f 70, f 71, f 72, f 73, f 74, f 75, f 76, f 77, f 78, f 79, f 80, f 81, f 82, f 83, f 84, f 85, f 86, f 87, f 88, f 89, f 90, f 91, f 92, f 93, f 94, f 95, f 96, f 97, f 98, f 99, f 100, f 101, f 102, f 103, f 104, f 105, f 106, f 107, f 108, f 109, f 110, f 111, f 112, f 113, f 114, f 115, f 116, f 117, f 118, f 119, f 120, f 121, f 122, f 123, f 124, f 125, f 126, f 127, f 128, f 129, f 130, f 131, f 132, f 133, f 134], []⟩ := rfl
        replace hK : ∀ v W', Below W.heap.size W W' → phAl w.heap.size g off cs.length ka1 k av kv x ap kp 7 v W' → K ((mono.lit 135 f []).put (some 28) v) W' := hK
        rw [eL] at hK ⊢
        simp only [Act.put, List.setIfInBounds_toArray, List.set_cons_succ, List.set_cons_zero] at hK
        have o1 : f 1 = (.pointer (some ⟨w.heap.size, 0, none⟩)) := hO 1 (by kernel_rfl)
        rw [o1] at hK ⊢
        go_simp
        exact hK _ _ (Below.refl _ _) rfl
      · refine mono.dutyT_of rfl ?_
        intro f W hR hO hD K hK
        have eL : mono.lit 135 f [] = ⟨#[f 0, f 1, f 2, f 3, f 4, f 5, f 6, f 7, f 8, f 9, f 10, f 11, f 12, f 13, f 14, f 15, f 16, f 17, f 18, f 19, f 20, f 21, f 22, f 23, f 24, f 25, f 26, f 27, f 28, f 29, f 30, f 31, f 32, f 33, f 34, f 35, f 36, f 37, f 38, f 39, f 40, f 41, f 42, f 43, f 44, f 45, f 46, f 47, f 48, f 49, f 50, f 51, f 52, f 53, f 54, f 55, f 56, f 57, f 58, f 59, f 60, f 61, f 62, f 63, f 64, f 65, f 66, f 67, f 68, f 69, f 70, f 71, f 72, f 73, f 74, f 75, f 76, f 77, f 78, f 79, f 80, f 81, f 82, f 83, f 84, f 85, f 86, f 87, f 88, f 89, f 90, f 91, f 92, f 93, f 94, f 95, f 96, f 97, f 98, f 99, f 100, f 101, f 102, f 103, f 104, f 105, f 106, f 107, f 108, f 109, f 110, f 111, f 112, f 113, f 114, f 115, f 116, f 117, f 118, f 119, f 120, f 121, f 122, f 123, f 124, f 125, f 126, f 127, f 128, f 129, f 130, f 131, f 132, f 133, f 134], []⟩ := rfl
        replace hK : ∀ v W', Below W.heap.size W W' → phAl w.heap.size g off cs.length ka1 k av kv x ap kp 8 v W' → K ((mono.lit 135 f []).put (some 29) v) W' := hK
        rw [eL] at hK ⊢
        simp only [Act.put, List.setIfInBounds_toArray, List.set_cons_succ, List.set_cons_zero] at hK
        have q7 := hD 7 28 (by kernel_rfl) (by kernel_rfl)
        replace q7 : f 28 = (.pointer (some ⟨w.heap.size, 2, none⟩)) := q7
        rw [q7] at hK ⊢
        obtain ⟨x0, x1, x2, x3, x4⟩ := cellsSB (hS1.below hR)
        go_simp
        exact hK _ _ (Below.refl _ _) rfl
      · refine mono.dutyT_of rfl ?_
        intro f W hR hO hD K hK
        have eL : mono.lit 135 f [] = ⟨#[f 0, f 1, f 2, f 3, f 4, f 5, f 6, f 7, f 8, f 9, f 10, f 11, f 12, f 13, f 14, f 15, f 16, f 17, f 18, f 19, f 20, f 21, f 22, f 23, f 24, f 25, f 26, f 27, f 28, f 29, f 30, f 31, f 32, f 33, f 34, f 35, f 36, f 37, f 38, f 39, f 40, f 41, f 42, f 43, f 44, f 45, f 46, f 47, f 48, f 49, f 50, f 51, f 52, f 53, f 54, f 55, f 56, f 57, f 58, f 59, f 60, f 61, f 62, f 63, f 64, f 65, f 66, f 67, f 68, f 69, f 70, f 71, f 72, f 73, f 74, f 75, f 76, f 77, f 78, f 79, f 80, f 81, f 82, f 83, f 84, f 85, f 86, f 87, f 88, f 89, f 90, f 91, f 92, f 93, f 94, f 95, f 96, f 97, f 98, f 99, f 100, f 101, f 102, f 103, f 104, f 105, f 106, f 107, f 108, f 109, f 110, f 111, f 112, f 113, f 114, f 115, f 116, f 117, f 118, f 119, f 120, f 121, f 122, f 123, f 124, f 125, f 126, f 127, f 128, f 129, f 130, f 131, f 132, f 133, f 134], []⟩ := rfl
        replace hK : ∀ v W', Below W.heap.size W W' → phAl w.heap.size g off cs.length ka1 k av kv x ap kp 9 v W' → K ((mono.lit 135 f []).put (some 30) v) W' := hK
        rw [eL] at hK ⊢
        simp only [Act.put, List.setIfInBounds_toArray, List.set_cons_succ, List.set_cons_zero] at hK
        have o4 : f 4 = (.int .i64 (k : Int)) := hO 4 (by kernel_rfl)
        rw [o4] at hK ⊢
        go_simp
        exact hK _ _ (Below.refl _ _) rfl
      · refine mono.dutyT_of rfl ?_
        intro f W hR hO hD K hK
        have eL : mono.lit 135 f [] = ⟨#[f 0, f 1, f 2, f 3, f 4, f 5, f 6, f 7, f 8, f 9, f 10, f 11, f 12, f 13, f 14, f 15, f 16, f 17, f 18, f 19, f 20, f 21, f 22, f 23, f 24, f 25, f 26, f 27, f 28, f 29, f 30, f 31, f 32, f 33, f 34, f 35, f 36, f 37, f 38, f 39, f 40, f 41, f 42, f 43, f 44, f 45, f 46, f 47, f 48, f 49, f 50, f 51, f 52, f 53, f 54, f 55, f 56, f 57, f 58, f 59, f 60, f 61, f 62, f 63, f 64, f 65, f 66, f 67, f 68, f 69, f 70, f 71, f 72, f 73, f 74, f 75, f 76, f 77, f 78, f 79, f 80, f 81, f 82, f 83, f 84, f 85, f 86, f 87, f 88, f 89, f 90, f 91, f 92, f 93, f 94, f 95, f 96, f 97, f 98, f 99, f 100, f 101, f 102, f 103, f 104, f 105, f 106, f 107, f 108, f 109, f 110, f 111, f 112, f 113, f 114, f 115, f 116, f 117, f 118, f 119, f 120, f 121, f 122, f 123, f 124, f 125, f 126, f 127, f 128, f 129, f 130, f 131, f 132, f 133, f 134], []⟩ := rfl
        replace hK : ∀ v W', Below W.heap.size W W' → phAl w.heap.size g off cs.length ka1 k av kv x ap kp 10 v W' → K ((mono.lit 135 f []).put (some 31) v) W' := hK
        rw [eL] at hK ⊢
        simp only [Act.put, List.setIfInBounds_toArray, List.set_cons_succ, List.set_cons_zero] at hK
        have q8 := hD 8 29 (by kernel_rfl) (by kernel_rfl)
        replace q8 : f 29 = (.slice (some ⟨g, off, none⟩) cs.length ka1) := q8
        have q9 := hD 9 30 (by kernel_rfl) (by kernel_rfl)
        replace q9 : f 30 = (.int .i64 (k : Int)) := q9
        rw [q8, q9] at hK ⊢
        go_simp
        exact hK _ _ (Below.refl _ _) rfl
      · refine mono.dutyT_of rfl ?_
        intro f W hR hO hD K hK
        have eL : mono.lit 135 f [] = ⟨#[f 0, f 1, f 2, f 3, f 4, f 5, f 6, f 7, f 8, f 9, f 10, f 11, f 12, f 13, f 14, f 15, f 16, f 17, f 18, f 19, f 20, f 21, f 22, f 23, f 24, f 25, f 26, f 27, f 28, f 29, f 30, f 31, f 32, f 33, f 34, f 35, f 36, f 37, f 38, f 39, f 40, f 41, f 42, f 43, f 44, f 45, f 46, f 47, f 48, f 49, f 50, f 51, f 52, f 53, f 54, f 55, f 56, f 57, f 58, f 59, f 60, f 61, f 62, f 63, f 64, f 65, f 66, f 67, f 68, f 69, f 70, f 71, f 72, f 73, f 74, f 75, f 76, f 77, f 78, f 79, f 80, f 81, f 82, f 83, f 84, f 85, f 86, f 87, f 88, f 89, f 90, f 91, f 92, f 93, f 94, f 95, f 96, f 97, f 98, f 99, f 100, f 101, f 102, f 103, f 104, f 105, f 106, f 107, f 108, f 109, f 110, f 111, f 112, f 113, f 114, f 115, f 116, f 117, f 118, f 119, f 120, f 121, f 122, f 123, f 124, f 125, f 126, f 127, f 128, f 129, f 130, f 131, f 132, f 133, f 134], []⟩ := rfl
        replace hK : ∀ v W', Below W.heap.size W W' → phAl w.heap.size g off cs.length ka1 k av kv x ap kp 11 v W' → K ((mono.lit 135 f []).put (some 32) v) W' := hK
        rw [eL] at hK ⊢
        simp only [Act.put, List.setIfInBounds_toArray, List.set_cons_succ, List.set_cons_zero] at hK
        have q10 := hD 10 31 (by kernel_rfl) (by kernel_rfl)
        replace q10 : f 31 = (.pointer (some ⟨g, off + k * 6, none⟩)) := q10
        rw [q10] at hK ⊢
        go_simp
        exact hK _ _ (Below.refl _ _) rfl
      · refine mono.dutyT_of rfl ?_
        intro f W hR hO hD K hK
        have eL : mono.lit 135 f [] = ⟨#[f 0, f 1, f 2, f 3, f 4, f 5, f 6, f 7, f 8, f 9, f 10, f 11, f 12, f 13, f 14, f 15, f 16, f 17, f 18, f 19, f 20, f 21, f 22, f 23, f 24, f 25, f 26, f 27, f 28, f 29, f 30, f 31, f 32, f 33, f 34, f 35, f 36, f 37, f 38, f 39, f 40, f 41, f 42, f 43, f 44, f 45, f 46, f 47, f 48, f 49, f 50, f 51, f 52, f 53, f 54, f 55, f 56, f 57, f 58, f 59, f 60, f 61, f 62, f 63, f 64, f 65, f 66, f 67, f 68, f 69, f 70, f 71, f 72, f 73, f 74, f 75, f 76, f 77, f 78, f 79, f 80, f 81, f 82, f 83, f 84, f 85, f 86, f 87, f 88, f 89, f 90, f 91, f 92, f 93, f 94, f 95, f 96, f 97, f 98, f 99, f 100, f 101, f 102, f 103, f 104, f 105, f 106, f 107, f 108, f 109, f 110, f 111, f 112, f 113, f 114, f 115, f 116, f 117, f 118, f 119, f 120, f 121, f 122, f 123, f 124, f 125, f 126, f 127, f 128, f 129, f 130, f 131, f 132, f 133, f 134], []⟩ := rfl
        replace hK : ∀ v W', Below W.heap.size W W' → phAl w.heap.size g off cs.length ka1 k av kv x ap kp 12 v W' → K ((mono.lit 135 f []).put (some 33) v) W' := hK
        rw [eL] at hK ⊢
        simp only [Act.put, List.setIfInBounds_toArray, List.set_cons_succ, List.set_cons_zero] at hK
        have q11 := hD 11 32 (by kernel_rfl) (by kernel_rfl)
        replace q11 : f 32 = (.pointer (some ⟨g, off + k * 6 + 1, none⟩)) := q11
        rw [q11] at hK ⊢
        have y1 := (hR.cell (p := ⟨g, _, none⟩) hg).trans c1
        go_simp
        exact hK _ _ (Below.refl _ _) rfl
      · refine mono.dutyT_of rfl ?_
        intro f W hR hO hD K hK
        have eL : mono.lit 135 f [] = ⟨#[f 0, f 1, f 2, f 3, f 4, f 5, f 6, f 7, f 8, f 9, f 10, f 11, f 12, f 13, f 14, f 15, f 16, f 17, f 18, f 19, f 20, f 21, f 22, f 23, f 24, f 25, f 26, f 27, f 28, f 29, f 30, f 31, f 32, f 33, f 34, f 35, f 36, f 37, f 38, f 39, f 40, f 41, f 42, f 43, f 44, f 45, f 46, f 47, f 48, f 49, f 50, f 51, f 52, f 53, f 54, f 55, f 56, f 57, f 58, f 59, f 60, f 61, f 62, f 63, f 64, f 65, f 66, f 67, f 68, f 69, f 70, f 71, f 72, f 73, f 74, f 75, f 76, f 77, f 78, f 79, f 80, f 81, f 82, f 83, f 84, f 85, f 86, f 87, f 88, f 89, f 90, f 91, f 92, f 93, f 94, f 95, f 96, f 97, f 98, f 99, f 100, f 101, f 102, f 103, f 104, f 105, f 106, f 107, f 108, f 109, f 110, f 111, f 112, f 113, f 114, f 115, f 116, f 117, f 118, f 119, f 120, f 121, f 122, f 123, f 124, f 125, f 126, f 127, f 128, f 129, f 130, f 131, f 132, f 133, f 134], []⟩ := rfl
        replace hK : ∀ v W', Below W.heap.size W W' → phAl w.heap.size g off cs.length ka1 k av kv x ap kp 13 v W' → K ((mono.lit 135 f []).put (some 34) v) W' := hK
        rw [eL] at hK ⊢
        simp only [Act.put, List.setIfInBounds_toArray, List.set_cons_succ, List.set_cons_zero] at hK
        have q6 := hD 6 27 (by kernel_rfl) (by kernel_rfl)
        replace q6 : f 27 = (.int .i64 x.n) := q6
        have q12 := hD 12 33 (by kernel_rfl) (by kernel_rfl)
        replace q12 : f 33 = (.slice ap x.ps.length kp) := q12
        rw [q6, q12] at hK ⊢
        go_simp
        exact hK _ _ (Below.refl _ _) rfl
      · refine mono.dutyT_of rfl ?_
        intro f W hR hO hD K hK
        have eL : mono.lit 135 f [] = ⟨#[f 0, f 1, f 2, f 3, f 4, f 5, f 6, f 7, f 8, f 9, f 10, f 11, f 12, f 13, f 14, f 15, f 16, f 17, f 18, f 19, f 20, f 21, f 22, f 23, f 24, f 25, f 26, f 27, f 28, f 29, f 30, f 31, f 32, f 33, f 34, f 35, f 36, f 37, f 38, f 39, f 40, f 41, f 42, f 43, f 44, f 45, f 46, f 47, f 48, f 49, f 50, f 51, f 52, f 53, f 54, f 55, f 56, f 57, f 58, f 59, f 60, f 61, f 62, f 63, f 64, f 65, f 66, f 67, f 68, f 69, f 70, f 71, f 72, f 73, f 74, f 75, f 76, f 77, f 78, f 79, f 80, f 81, f 82, f 83, f 84, f 85, f 86, f 87, f 88, f 89, f 90, f 91, f 92, f 93, f 94, f 95, f 96, f 97, f 98, f 99, f 100, f 101, f 102, f 103, f 104, f 105, f 106, f 107, f 108, f 109, f 110, f 111, f 112, f 113, f 114, f 115, f 116, f 117, f 118, f 119, f 120, f 121, f 122, f 123, f 124, f 125, f 126, f 127, f 128, f 129, f 130, f 131, f 132, f 133, f 134], []⟩ := rfl
        replace hK : ∀ v W', Below W.heap.size W W' → phAl w.heap.size g off cs.length ka1 k av kv x ap kp 14 v W' → K ((mono.lit 135 f []).put (some 35) v) W' := hK
        rw [eL] at hK ⊢
        simp only [Act.put, List.setIfInBounds_toArray, List.set_cons_succ, List.set_cons_zero] at hK
        have q13 := hD 13 34 (by kernel_rfl) (by kernel_rfl)
        replace q13 : f 34 = (.agg #[.int .i64 x.n, .slice ap x.ps.length kp]) := q13
        rw [q13] at hK ⊢
        go_simp
        exact hK _ _ (alloc_bR W _) ⟨_, rfl, heap_alloc_new W _⟩
      · intro f W hB hO hD
        have r0 := hO 0 (by kernel_rfl)
        have r1 := hO 1 (by kernel_rfl)
        have r2 := hO 2 (by kernel_rfl)
        have r3 := hO 3 (by kernel_rfl)
        have r4 := hO 4 (by kernel_rfl)
        have r5 := hO 5 (by kernel_rfl)
        have r6 := hO 6 (by kernel_rfl)
        have r7 := hO 7 (by kernel_rfl)
        have r8 := hO 8 (by kernel_rfl)
        have r9 := hO 9 (by kernel_rfl)
        have r10 := hO 10 (by kernel_rfl)
        have r11 := hO 11 (by kernel_rfl)
        have r12 := hO 12 (by kernel_rfl)
        have r13 := hO 13 (by kernel_rfl)
        have r14 := hO 14 (by kernel_rfl)
        have r15 := hO 15 (by kernel_rfl)
        have r16 := hO 16 (by kernel_rfl)
        have r17 := hO 17 (by kernel_rfl)
        have r18 := hO 18 (by kernel_rfl)
        have r19 := hO 19 (by kernel_rfl)
        have r20 := hO 20 (by kernel_rfl)
        have r21 := hD 0 21 (by decide) (by kernel_rfl)
        replace r21 : f 21 = (.slice av k kv) := r21
        have r35 := hD 14 35 (by decide) (by kernel_rfl)
        obtain ⟨gs, es, hgs⟩ := r35
        have r36 := hO 36 (by kernel_rfl)
        have r37 := hO 37 (by kernel_rfl)
        have r38 := hO 38 (by kernel_rfl)
        have r39 := hO 39 (by kernel_rfl)
        have r40 := hO 40 (by kernel_rfl)
        have r41 := hO 41 (by kernel_rfl)
        have r42 := hO 42 (by kernel_rfl)
        have r43 := hO 43 (by kernel_rfl)
        have r44 := hO 44 (by kernel_rfl)
        have r45 := hO 45 (by kernel_rfl)
        have r46 := hO 46 (by kernel_rfl)
        have r47 := hO 47 (by kernel_rfl)
        have r48 := hO 48 (by kernel_rfl)
        have r49 := hO 49 (by kernel_rfl)
        have r50 := hO 50 (by kernel_rfl)
        have r51 := hO 51 (by kernel_rfl)
        have r52 := hO 52 (by kernel_rfl)
        have r53 := hO 53 (by kernel_rfl)
        have r54 := hO 54 (by kernel_rfl)
        have r55 := hO 55 (by kernel_rfl)
        have r56 := hO 56 (by kernel_rfl)
        have r57 := hO 57 (by kernel_rfl)
        have r58 := hO 58 (by kernel_rfl)
        have r59 := hO 59 (by kernel_rfl)
        have r60 := hO 60 (by kernel_rfl)
        have r61 := hO 61 (by kernel_rfl)
        have r62 := hO 62 (by kernel_rfl)
        have r63 := hO 63 (by kernel_rfl)
        have r64 := hO 64 (by kernel_rfl)
        have r65 := hO 65 (by kernel_rfl)
        have r66 := hO 66 (by kernel_rfl)
        have r67 := hO 67 (by kernel_rfl)
        have r68 := hO 68 (by kernel_rfl)
        have r69 := hO 69 (by kernel_rfl)
        have r70 := hO 70 (by kernel_rfl)
        have r71 := hO 71 (by kernel_rfl)
        have r72 := hO 72 (by kernel_rfl)
        have r73 := hO 73 (by kernel_rfl)
        have r74 := hO 74 (by kernel_rfl)
        have r75 := hO 75 (by kernel_rfl)
        have r76 := hO 76 (by kernel_rfl)
        have r77 := hO 77 (by kernel_rfl)
        have r78 := hO 78 (by kernel_rfl)
        have r79 := hO 79 (by kernel_rfl)
        have r80 := hO 80 (by kernel_rfl)
        have r81 := hO 81 (by kernel_rfl)
        have r82 := hO 82 (by kernel_rfl)
        have r83 := hO 83 (by kernel_rfl)
        have r84 := hO 84 (by kernel_rfl)
        have r85 := hO 85 (by kernel_rfl)
        have r86 := hO 86 (by kernel_rfl)
        have r87 := hO 87 (by kernel_rfl)
        have r88 := hO 88 (by kernel_rfl)
        have r89 := hO 89 (by kernel_rfl)
        have r90 := hO 90 (by kernel_rfl)
        have r91 := hO 91 (by kernel_rfl)
        have r92 := hO 92 (by kernel_rfl)
        have r93 := hO 93 (by kernel_rfl)
        have r94 := hO 94 (by kernel_rfl)
        have r95 := hO 95 (by kernel_rfl)
        have r96 := hO 96 (by kernel_rfl)
        have r97 := hO 97 (by kernel_rfl)
        have r98 := hO 98 (by kernel_rfl)
        have r99 := hO 99 (by kernel_rfl)
        have r100 := hO 100 (by kernel_rfl)
        have r101 := hO 101 (by kernel_rfl)
        have r102 := hO 102 (by kernel_rfl)
        have r103 := hO 103 (by kernel_rfl)
        have r104 := hO 104 (by kernel_rfl)
        have r105 := hO 105 (by kernel_rfl)
        have r106 := hO 106 (by kernel_rfl)
        have r107 := hO 107 (by kernel_rfl)
        have r108 := hO 108 (by kernel_rfl)
        have r109 := hO 109 (by kernel_rfl)
        have r110 := hO 110 (by kernel_rfl)
        have r111 := hO 111 (by kernel_rfl)
        have r112 := hO 112 (by kernel_rfl)
        have r113 := hO 113 (by kernel_rfl)
        have r114 := hO 114 (by kernel_rfl)
        have r115 := hO 115 (by kernel_rfl)
        have r116 := hO 116 (by kernel_rfl)
        have r117 := hO 117 (by kernel_rfl)
        have r118 := hO 118 (by kernel_rfl)
        have r119 := hO 119 (by kernel_rfl)
        have r120 := hO 120 (by kernel_rfl)
        have r121 := hO 121 (by kernel_rfl)
        have r122 := hO 122 (by kernel_rfl)
        have r123 := hO 123 (by kernel_rfl)
        have r124 := hO 124 (by kernel_rfl)
        have r125 := hO 125 (by kernel_rfl)
        have r126 := hO 126 (by kernel_rfl)
        have r127 := hO 127 (by kernel_rfl)
        have r128 := hO 128 (by kernel_rfl)
        have r129 := hO 129 (by kernel_rfl)
        have r130 := hO 130 (by kernel_rfl)
        have r131 := hO 131 (by kernel_rfl)
        have r132 := hO 132 (by kernel_rfl)
        have r133 := hO 133 (by kernel_rfl)
        have r134 := hO 134 (by kernel_rfl)
        have eL : mono.lit 135 f [] = ⟨#[f 0, f 1, f 2, f 3, f 4, f 5, f 6, f 7, f 8, f 9, f 10, f 11, f 12, f 13, f 14, f 15, f 16, f 17, f 18, f 19, f 20, f 21, f 22, f 23, f 24, f 25, f 26, f 27, f 28, f 29, f 30, f 31, f 32, f 33, f 34, f 35, f 36, f 37, f 38, f 39, f 40, f 41, f 42, f 43, f 44, f 45, f 46, f 47, f 48, f 49, f 50, f 51, f 52, f 53, f 54, f 55, f 56, f 57, f 58, f 59, f 60, f 61, f 62, f 63, f 64, f 65, f 66, f 67, f 68, f 69, f 70, f 71, f 72, f 73, f 74, f 75, f 76, f 77, f 78, f 79, f 80, f 81, f 82, f 83, f 84, f 85, f 86, f 87, f 88, f 89, f 90, f 91, f 92, f 93, f 94, f 95, f 96, f 97, f 98, f 99, f 100, f 101, f 102, f 103, f 104, f 105, f 106, f 107, f 108, f 109, f 110, f 111, f 112, f 113, f 114, f 115, f 116, f 117, f 118, f 119, f 120, f 121, f 122, f 123, f 124, f 125, f 126, f 127, f 128, f 129, f 130, f 131, f 132, f 133, f 134], []⟩ := rfl
        rw [eL, r0, r1, r2, r3, r4, r5, r6, r7, r8, r9, r10, r11, r12, r13, r14, r15, r16, r17, r18, r19, r20, r21, es, r36, r37, r38, r39, r40, r41, r42, r43, r44, r45, r46, r47, r48, r49, r50, r51, r52, r53, r54, r55, r56, r57, r58, r59, r60, r61, r62, r63, r64, r65, r66, r67, r68, r69, r70, r71, r72, r73, r74, r75, r76, r77, r78, r79, r80, r81, r82, r83, r84, r85, r86, r87, r88, r89, r90, r91, r92, r93, r94, r95, r96, r97, r98, r99, r100, r101, r102, r103, r104, r105, r106, r107, r108, r109, r110, r111, r112, r113, r114, r115, r116, r117, r118, r119, r120, r121, r122, r123, r124, r125, r126, r127, r128, r129, r130, r131, r132, r133, r134]
        clear eL hO hD r0 r1 r2 r3 r4 r5 r6 r7 r8 r9 r10 r11 r12 r13 r14 r15 r16 r17 r18 r19 r20 r21 r36 r37 r38 r39 r40 r41 r42 r43 r44 r45 r46 r47 r48 r49 r50 r51 r52 r53 r54 r55 r56 r57 r58 r59 r60 r61 r62 r63 r64 r65 r66 r67 r68 r69 r70 r71 r72 r73 r74 r75 r76 r77 r78 r79 r80 r81 r82 r83 r84 r85 r86 r87 r88 r89 r90 r91 r92 r93 r94 r95 r96 r97 r98 r99 r100 r101 r102 r103 r104 r105 r106 r107 r108 r109 r110 r111 r112 r113 r114 r115 r116 r117 r118 r119 r120 r121 r122 r123 r124 r125 r126 r127 r128 r129 r130 r131 r132 r133 r134
        change wpList _ _ _ (_ :: _ :: []) _ _
        have hoE := own_belowG (own_belowG ho hdw) hB
        have hbW := (hb.trans (hdw.mono hb.size)).trans (hB.mono (by have := hb.size; exact this))
        have hzE : w.heap.size + 1 ≤ W.heap.size := Nat.le_trans hz hB.size
        have hmn := many_at (c := [.int .i64 x.n, .slice ap x.ps.length kp]) hgs
        have hS2 := hS1.below hB
        go_wp2_with (at_builtin; refine wpList_append_own _ rfl (.tmp 21) (.tmp 35) 37 rfl (w.heap.size + 1) 42 i0 (.agg #[.int .i64 0, .slice none 0 0]) 2 32 Try.underlying37 hin hz0 hz1 hz2 rfl (by decide) _ k _ rfl hoE ⟨gs, 0, none⟩ 1 1 [.int .i64 x.n, .slice ap x.ps.length kp] rfl rfl hmn (two_lk _ _ _ _) (by unfold maxLen; omega) (by omega) hzE ?_; intro v6 w6 ho6 hg6 _)
        rw [← HL.out] at ho6
        have hb7 := hbW.grown hg6 hbW.size (fun j hj => by have := (hoE.lt j hj).1; omega)
        have hS7 : SB w6 w.heap.size ⟨nc, nb, cs, bs, uu⟩ (.slice (some ⟨g, off, none⟩) cs.length ka1) (.slice a2 bs.length ka2) (.slice a3 uu.length ka3) := (hg6.block _ (heap_lt hS2) (box_apart hoE hS2 (by decide))).trans hS2
        clear hS2 hoE hbW hmn hgs es hS1 hB ho
        go_wp2_with fail
        exact ⟨⟨k + 1, by omega, by go_num, ho6, hS7, hb7, Nat.le_trans hzE hg6.size⟩, by simp [Go.RowKit.intOf]; omega⟩
    · have hlt' : ¬ (k : Int) < (cs.length : Int) := by omega
      obtain rfl : k = cs.length := by omega
      rw [List.take_length, List.take_of_length_le (by rw [hA.ul]; omega)] at ho
      have hRL := rdl_own hA hb ho
      have hok : ∀ y ∈ lks cs, y.Ok := fun y hy => by
        obtain ⟨c, hc, rfl⟩ := List.mem_map.1 hy
        have h1 := hco c hc
        exact ⟨h1.2.2.2.2.1.1, h1.2.2.2.2.1.2, by have := h1.2.2.2.1.1; unfold maxLen; simp only; omega, fun p hp => h1.2.2.2.2.2 p hp⟩
      have hll : (lks cs).length ≤ maxLen := by simp only [lks, List.length_map]; unfold maxLen; omega
      have cC := dg.check_any hRL hll hok
      have cA := fun (n : Int) (hn : InI n) W (h : Below wr.heap.size wr W) => dg.Above_any (w := W) n hn.1 hn.2 (hRL.below h) hll hok
      have hlat := fun (i : Nat) (c : CoD) (hi : cs[i]? = some c) => (show ∃ u, us[i]? = some u from ⟨us[i]'(by rw [hA.ul]; exact (List.getElem?_eq_some_iff.1 hi).1), by simp⟩)
      have hlc2 : ∀ (i : Nat) (c : CoD), cs[i]? = some c → (lcsL cs us)[i * 2]? = some (.int .i64 c.n) := fun i c hi => by
        obtain ⟨u, hu⟩ := hlat i c hi
        exact (lcsL_at cs us i c u hi hu).1
      clear hA hlat hll hok hRL hlt hk
      generalize lcsL cs us = LC at *
      have hup := fun (n : Int) (hg : dg.goodB (lks cs) = true) => (show (n ∈ cs.map CoD.n → (dg.upR (lks cs) n).2 = 0 ∧ ∀ x, x ∈ (dg.upR (lks cs) n).1 ↔ dg.Up (lks cs) n x) ∧ (n ∉ cs.map CoD.n → (dg.upR (lks cs) n).2 = 131) from by
        have hgd := (dg.goodB_iff _).1 hg
        refine ⟨fun hn => ?_, fun hn => ?_⟩
        · have hn' : n ∈ dg.nums (lks cs) := by rw [lks_nums]; exact hn
          exact ⟨by rw [dg.up_ok hgd hn'], fun x => dg.mem_up hgd hn'⟩
        · unfold dg.upR
          rw [hg, if_pos rfl, if_neg (by rw [lks_nums]; simpa using hn)])
      have hul := fun n => dg.up_len (lks cs) n
      go_wp2_with fail
      refine cC.mono ?_
      rintro e w2 ⟨rfl, hb2⟩
      unfold dg.chkR
      have hb02 := hb.trans (hb2.mono hb.size)
      have hS2 := hS1.below hb2
      have hbr2 := hb2
      clear cC x0 x1 x2 x3 x4 hS1
      cases hgb : dg.goodB (lks cs) with
      | false =>
        have cl := live21_any w2
        clear cA hup hul hbs hbr hco cN1 hlc2 hgb
        simp only [if_false, Bool.false_eq_true]
        go_wp2_with fail
        refine cl.mono ?_
        rintro e w3 ⟨rfl, hb3⟩
        go_wp2_with fail
        go_ret
        exact ⟨rfl, hb02.trans (hb3.mono hb02.size)⟩
      | true =>
        replace hup := fun n => hup n hgb
        have hgd := (dg.goodB_iff _).1 hgb
        clear hgb
        simp only [if_true]
        obtain ⟨x0, x1, x2, x3, x4⟩ := cellsSB hS2
        obtain ⟨Z, hZ, hmk⟩ := make_bools cs.length (by omega)
        go_wp2_with fail
        refine (cN1 w2 hb02).mono ?_
        rintro e w3 ⟨u, L, rfl, hoL, hL, hb3⟩
        obtain ⟨aL, kL, rfl⟩ := own_form hoL
        have hb03 := hb02.trans (hb3.mono hb02.size)
        have hS3 := hS2.below hb3
        have hbr3 := hbr2.trans (hb3.mono hbr2.size)
        have hoV3 := own_belowG (own_belowG ho hb2) hb3
        have hal := alloc_bR w3 (.cells Z 4)
        have hoW := own_made (W := w3) hZ (by simp; unfold maxLen; omega)
        rw [List.length_replicate] at hoW
        have hb04 := hb03.trans (hal.mono hb03.size)
        have hS4 := hS3.below hal
        have hbr4 := hbr3.trans (hal.mono hbr3.size)
        have hoV4 := own_belowG hoV3 hal
        have hoL4 := own_belowG hoL hal
        have hcl := live21_any
        have hzg : w.heap.size < w3.heap.size := heap_lt hS3
        have hzr : wr.heap.size ≤ w3.heap.size := hbr3.size
        clear x0 x1 x2 x3 x4 cN1 hS2 hb2 hbr2 ho hb02 hb3 hS3 hbr3 hoV3 hoL hal hb03 hb
        go_upto_region 10 with fail
        generalize hGW : w3.heap.size = gw at *
        generalize w3.alloc (.cells Z 4) = w4 at *
        clear hmk hZ hGW
        have hW0 : WL w wr w4 gw cs.length cs [] [] 0 w4 := ⟨gb_reflT _ _, hb04, hbr4, _, hoW, WMark.start cs⟩
        have hrk := fun W (h : w4.grownBy W (some gw)) => rk_own hoW (W' := W) h
        have hSB := fun W (h : w4.grownBy W (some gw)) => (show SB W w.heap.size ⟨nc, nb, cs, bs, uu⟩ (.slice a1 cs.length ka1) (.slice a2 bs.length ka2) (.slice a3 uu.length ka3) from (h.block _ (heap_lt hS4) (by simp; omega)).trans hS4)
        clear hb04 hbr4 hoW hS4
        go_wp2_with fail
        generalize wr = wa at *
        have hlcl : LC.length = LC.length := rfl
        clear hlcl
        go_loopw [7] (fun i W => ∃ k : Nat, k ≤ bs.length ∧ i = .int .i64 (k : Int) ∧ Hid (WL w wa w4 gw cs.length cs (logsOf (bs.take k)) (logsOf (bs.take k)) 0 W)) (fun i _ => bs.length - (Go.RowKit.intOf i).toNat)
        case atStart => exact ⟨0, by omega, rfl, hW0⟩
        case round =>
          clear hW0
          obtain ⟨kb, hkb, rfl, HW⟩ := hrel
          obtain ⟨x0, x1, x2, x3, x4⟩ := cellsSB (hSB _ HW.out.gb)
          by_cases hltb : kb < bs.length
          · have hltb' : (kb : Int) < (bs.length : Int) := by omega
            obtain ⟨g, off, lv, rfl, hg, ⟨-, -, c2⟩, r1⟩ := hbs kb bs[kb] (by simp [hltb])
            have hxu := hbr bs[kb] (List.getElem_mem hltb)
            have eB : logsOf (bs.take (kb + 1)) = logsOf (bs.take kb) ++ (bs[kb]).lg := by
              unfold logsOf
              rw [List.take_succ_eq_append_getElem hltb, List.flatMap_append]
              simp only [List.flatMap_cons, List.flatMap_nil, List.append_nil]
            obtain ⟨HB⟩ : Nonempty (Hid (logsOf (bs.take (kb + 1)) = logsOf (bs.take kb) ++ (bs[kb]).lg)) := ⟨eB⟩
            clear eB
            generalize bs[kb] = y at *
            generalize logsOf (bs.take kb) = PB at *
            obtain ⟨al, kl, rfl⟩ := rdi_len r1
            have hc2 := fun W (h : Below w.heap.size w W) => (h.cell (p := ⟨g, _, none⟩) hg).trans c2
            have hlog := fun (i : Nat) (hi : i < y.lg.length) => (show ∃ b o, al = some ⟨b, o, none⟩ ∧ b < w.heap.size ∧ w.cell? ⟨b, o + i, none⟩ = some (.int .i64 y.lg[i]) from by
              obtain ⟨_, _, e, hcl2⟩ := r1
              simp only [Value.slice.injEq] at e
              obtain ⟨rfl, -, -⟩ := e
              exact hcl2 i _ (by simp [hi]))
            have hIl := hxu.2.2.2
            have hll := hxu.2.1.1
            clear r1 hxu c2
            have HW0 : Hid (WL w wa w4 gw cs.length cs (PB ++ y.lg.take 0) (PB ++ y.lg.take 0) 0 wr) := by
              show WL _ _ _ _ _ _ _ _ _ _
              rw [List.take_zero, List.append_nil]
              exact HW.out
            go_wp2_with fail
            clear x0 x1 x2 x3 x4 HW
            generalize wr = wb at *
            go_loopw [8] (fun i W => ∃ k : Nat, k ≤ y.lg.length ∧ i = .int .i64 (k : Int) ∧ Hid (WL w wa w4 gw cs.length cs (PB ++ y.lg.take k) (PB ++ y.lg.take k) 0 W)) (fun i _ => y.lg.length - (Go.RowKit.intOf i).toNat)
            case atStart => exact ⟨0, by omega, rfl, HW0⟩
            case round =>
              clear HW0
              obtain ⟨ki, hki, rfl, HW⟩ := hrel
              obtain ⟨x0, x1, x2, x3, x4⟩ := cellsSB (hSB _ HW.out.gb)
              have c2 := hc2 _ HW.out.bl
              by_cases hlti : ki < y.lg.length
              · have hlti' : (ki : Int) < (y.lg.length : Int) := by omega
                obtain ⟨b2, o2, rfl, hb2', c3⟩ := hlog ki hlti
                rw [← HW.out.bl.cell (p := ⟨b2, _, none⟩) hb2'] at c3
                have hIn := hIl _ (List.getElem_mem hlti)
                have eI : PB ++ y.lg.take (ki + 1) = PB ++ y.lg.take ki ++ [y.lg[ki]] := by
                  rw [List.take_succ_eq_append_getElem hlti, List.append_assoc]
                obtain ⟨HI⟩ : Nonempty (Hid (PB ++ y.lg.take (ki + 1) = PB ++ y.lg.take ki ++ [y.lg[ki]])) := ⟨eI⟩
                clear eI
                generalize y.lg[ki] = nn at *
                generalize PB ++ y.lg.take ki = PI at *
                have cAb := cA nn hIn wr HW.out.br
                have hupn := hup nn
                have huln := hul nn
                go_wp2_with fail
                refine cAb.mono ?_
                rintro e w6 ⟨u, rfl, hoU, hb6⟩
                have hW6 := HW.out.below hb6
                obtain ⟨au, ku, rfl⟩ := own_form hoU
                clear x0 x1 x2 x3 x4 c2 c3 cAb HW hb6
                go_wp2_with fail
                by_cases hnm : nn ∈ cs.map CoD.n
                · obtain ⟨e0, hmem⟩ := hupn.1 hnm
                  rw [e0]
                  obtain ⟨lw, hrw, -⟩ := id hW6.row
                  have hrU := fun W (h : w6.grownBy W (some gw)) => (show RdI W (.slice au (dg.upR (lks cs) nn).1.length ku) (dg.upR (lks cs) nn).1 from rdi_own (rk_own hrw h _ _ _ _ _ _ (by decide) hoU))
                  have hWs : Hid (WL w wa w4 gw cs.length cs (PI ++ [nn]) PI 0 w6) := hW6.mark (fun l h => h.next _)
                  have hmem' : ∀ x : Int, decide (x ∈ (dg.upR (lks cs) nn).1) = true ↔ dg.Up (lks cs) nn x := fun x => decide_eq_true_iff.trans (hmem x)
                  clear hupn hW6 hoU hrw hmem e0
                  generalize wr = wc at *
                  generalize (dg.upR (lks cs) nn).1 = UP at *
                  go_loopw [11] (fun i W => ∃ k : Nat, k ≤ cs.length ∧ i = .int .i64 (k : Int) ∧ Hid (WL w wa w4 gw cs.length cs (PI ++ [nn]) PI k W) ∧ Hid (w6.grownBy W (some gw))) (fun i _ => cs.length - (Go.RowKit.intOf i).toNat)
                  case atStart => exact ⟨0, by omega, rfl, hWs, gb_reflT _ _⟩
                  case round =>
                    clear hWs
                    obtain ⟨kk, hkk, rfl, HW, HG⟩ := hrel
                    by_cases hltk : kk < cs.length
                    · have hltk' : (kk : Int) < (cs.length : Int) := by omega
                      obtain ⟨l, t, hrow, hmk, hlt2, hcw⟩ := HW.out.cell hltk
                      have hfz := HW.out.fz kk
                      have hxk : cs[kk]? = some cs[kk] := by simp [hltk]
                      have hV := hrk wr HW.out.gb _ _ _ _ _ _ (by decide) hoV4
                      obtain ⟨gv, rfl, -, hgv, -⟩ := own_block hV (by omega)
                      have hcl2 := hV.cells (g := gv) rfl _ _ (hlc2 kk _ hxk)
                      rw [adK, Nat.zero_add] at hcl2
                      have hup2 := hmem' (cs[kk]).n
                      have cH := has21_any _ UP (cs[kk]).n wr (hrU wr HG.out) (by omega)
                      have hst := fun W (hb : Below wr.heap.size wr W) (b : Bool) (hm : WMark cs (PI ++ [nn]) PI (kk + 1) (l.set kk b)) => (HW.out.below hb).storeL (by omega) (by omega) (own_belowG hrow hb) hm
                      have hgl : gw < wr.heap.size := (hrow.lt gw rfl).2
                      have hone := fun (r : Bool) (hr : r = true ↔ dg.Up (lks cs) nn (cs[kk]).n) => hmk.one hnm hxk hlt2 hr
                      clear hV hxk hrow hmk hlt2
                      generalize (cs[kk]).n = xn at *
                      cases t with
                      | true =>
                        have hF := hst wr (Below.refl _ _) true (by have := hone _ hup2; simpa using this)
                        have hG2 : Hid (w6.grownBy (wr.setCell ⟨gw, kk, none⟩ (.bool true)) (some gw)) := gb_transT HG.out (grown_set _ _ _ _)
                        clear hst hone hup2 cH
                        go_wp2_with fail
                        exact ⟨⟨kk + 1, by omega, by go_num, hF, hG2⟩, by simp [Go.RowKit.intOf]; omega⟩
                      | false =>
                        generalize decide (xn ∈ UP) = r at *
                        go_wp2_with fail
                        refine cH.mono ?_
                        rintro e w7 ⟨rfl, hb7⟩
                        have hF := hst w7 hb7 r (by have := hone r hup2; simpa using this)
                        have hG2 : Hid (w6.grownBy (w7.setCell ⟨gw, kk, none⟩ (.bool r)) (some gw)) := gb_transT (gb_transT HG.out (gq_below hb7)) (grown_set _ _ _ _)
                        have hcw7 := (hb7.cell (p := ⟨gw, kk, none⟩) hgl).trans hcw
                        have hfz7 := (hb7.frozen (p := ⟨gw, kk, none⟩) hgl).trans hfz
                        clear hst hone hup2 cH hcw hfz hcl2
                        go_wp2_with fail
                        exact ⟨⟨kk + 1, by omega, by go_num, hF, hG2⟩, by simp [Go.RowKit.intOf]; omega⟩
                    · have hltk' : ¬ (kk : Int) < (cs.length : Int) := by omega
                      have hWn : Hid (WL w wa w4 gw cs.length cs (PB ++ y.lg.take (ki + 1)) (PB ++ y.lg.take (ki + 1)) 0 wr) := by
                        show WL _ _ _ _ _ _ _ _ _ _
                        rw [HI.out]
                        exact HW.out.mark (fun l h => h.done (by omega))
                      clear HW HG hrU hmem'
                      go_wp2_with fail
                      exact ⟨⟨ki + 1, by omega, by go_num, hWn⟩, by simp [Go.RowKit.intOf]; omega⟩
                · rw [hupn.2 hnm]
                  have hWn : Hid (WL w wa w4 gw cs.length cs (PB ++ y.lg.take (ki + 1)) (PB ++ y.lg.take (ki + 1)) 0 w6) := by
                    show WL _ _ _ _ _ _ _ _ _ _
                    rw [HI.out]
                    exact hW6.mark (fun l h => h.none hnm)
                  clear hupn hW6 hoU
                  generalize wr = wc at *
                  go_loopw [11] (fun i W => i = .int .i64 0 ∧ W = w6) (fun _ _ => 0)
                  case atStart => exact ⟨rfl, rfl⟩
                  case round =>
                    obtain ⟨rfl, rfl⟩ := hrel
                    go_wp2_with fail
                    all_goals exact ⟨⟨ki + 1, by omega, by go_num, hWn⟩, by simp [Go.RowKit.intOf]; omega⟩
              · have hlti' : ¬ (ki : Int) < (y.lg.length : Int) := by omega
                have hWn : Hid (WL w wa w4 gw cs.length cs (logsOf (bs.take (kb + 1))) (logsOf (bs.take (kb + 1))) 0 wr) := by
                  show WL _ _ _ _ _ _ _ _ _ _
                  have := HW.out
                  rw [List.take_of_length_le (by omega)] at this
                  rw [HB.out]
                  exact this
                clear HW
                go_wp2_with fail
                exact ⟨⟨kb + 1, by omega, by go_num, hWn⟩, by simp [Go.RowKit.intOf]; omega⟩
          · have hltb' : ¬ (kb : Int) < (bs.length : Int) := by omega
            have hWn : WL w wa w4 gw cs.length cs (logsOf bs) (logsOf bs) 0 wr := by
              have := HW.out
              rwa [List.take_of_length_le (by omega)] at this
            clear hbs hbr HW
            go_wp2_with fail
            clear x0 x1 x2 x3 x4
            obtain ⟨l, hrow, hmk⟩ := hWn.row
            have hneed := fun (k : Nat) (t : Bool) (c : CoD) (ht : l[k]? = some t) (hx : cs[k]? = some c) => hmk.need rfl hgd hL ht hx
            have hcell := fun (j : Nat) (hj : j < cs.length) => (show ∃ t, l[j]? = some t ∧ wr.cell? ⟨gw, j, none⟩ = some (.bool t) from by
              obtain ⟨l', t, h1, h2, h3, h4⟩ := hWn.cell hj
              have hlt : j < (bvs l).length := by have := hrow.1; omega
              have hx : (bvs l)[j]? = some (bvs l)[j] := List.getElem?_eq_getElem hlt
              obtain ⟨t2, h5, h6⟩ := bvs_at hx
              have hc := hrow.cells (g := gw) rfl j _ hx
              rw [adK, Nat.zero_add, h6] at hc
              exact ⟨t2, h5, hc⟩)
            have hV := hrk wr hWn.gb _ _ _ _ _ _ (by decide) hoV4
            have hrL := rdi_own (hrk wr hWn.gb _ _ _ _ _ _ (by decide) hoL4)
            have hbF := hWn.bl
            have hgl : gw < wr.heap.size := (hrow.lt gw rfl).2
            have hcnt := need_count hgd hL
            have hLl : L.length ≤ cs.length := by
              have := congrArg List.length hcnt
              have h2 := List.length_filter_le (fun n => decide (n ∈ L)) (cs.map CoD.n)
              rw [List.length_map] at h2
              omega
            obtain ⟨HC⟩ : Nonempty (Hid ((cs.map CoD.n).filter (fun n => decide (n ∈ L)) = L)) := ⟨hcnt⟩
            clear hWn hrow hmk hrk hSB hoV4 hoL4 hup hul cA hcnt
            generalize wr = wb at *
            go_loopw [12, 13] (fun a i W => ∃ k : Nat, k ≤ cs.length ∧ i = .int .i64 (k : Int) ∧ (∃ c : Nat, a = .int .i64 (c : Int) ∧ Hid (c = (((cs.map CoD.n).take k).filter (fun n => decide (n ∈ L))).length)) ∧ Below wb.heap.size wb W) (fun _ i _ => cs.length - (Go.RowKit.intOf i).toNat)
            case atStart => exact ⟨0, by omega, rfl, ⟨0, rfl, by show _ = _; simp⟩, Below.refl _ _⟩
            case round =>
              obtain ⟨k, hk, rfl, ⟨cc, rfl, HN⟩, hbl⟩ := hrel
              by_cases hlt : k < cs.length
              · have hlt' : (k : Int) < (cs.length : Int) := by omega
                obtain ⟨r, hlr, cw⟩ := hcell k hlt
                have hxk : cs[k]? = some cs[k] := by simp [hlt]
                obtain ⟨gv, rfl, -, hgv0, -⟩ := own_block hV (by omega)
                have cl := hV.cells (g := gv) rfl _ _ (hlc2 k _ hxk)
                rw [adK, Nat.zero_add] at cl
                have er := hneed k r _ hlr hxk
                have hmk2 : (cs.map CoD.n)[k]? = some (cs[k]).n := by simp [hlt]
                have eN : (((cs.map CoD.n).take (k + 1)).filter (fun n => decide (n ∈ L))).length = (((cs.map CoD.n).take k).filter (fun n => decide (n ∈ L))).length + (if r then 1 else 0) := by
                  rw [List.take_add_one, hmk2, List.filter_append, List.length_append, er]
                  by_cases hm : (cs[k]).n ∈ L
                  · simp [hm]
                  · simp [hm]
                obtain ⟨HN2⟩ : Nonempty (Hid ((((cs.map CoD.n).take (k + 1)).filter (fun n => decide (n ∈ L))).length = (((cs.map CoD.n).take k).filter (fun n => decide (n ∈ L))).length + (if r then 1 else 0))) := ⟨eN⟩
                have hdw : Below wr.heap.size wr wr.drew := (Below.refl _ _).drew
                have hbd := hbl.trans (hdw.mono hbl.size)
                replace cw := (hbd.cell (p := ⟨gw, k, none⟩) hgl).trans cw
                replace cl := (hbd.cell (p := ⟨gv, _, none⟩) hgv0).trans cl
                have hgw : gw < wr.drew.heap.size := Nat.lt_of_lt_of_le hgl hbd.size
                have hgv : gv < wr.drew.heap.size := Nat.lt_of_lt_of_le hgv0 hbd.size
                have cH := fun W (h : Below wr.drew.heap.size wr.drew W) => has21_any _ L (cs[k]).n W ((hrL.below hbd).below h) (by omega)
                rw [← er] at cH
                have hcc : (cc : Int) < 4611686018427387904 := by
                  have h1 := HN.out
                  have h2 := List.length_filter_le (fun n => decide (n ∈ L)) ((cs.map CoD.n).take k)
                  rw [List.length_take, List.length_map] at h2
                  omega
                have hrr : (r != r) = false := by simp
                clear er eN hxk hmk2 hlr
                generalize (cs[k]).n = xn at *
                go_upto_region 25 with fail
                refine mono.region_monoG (phBl gw gv cs.length k kv r xn aL L.length kL) 135 [] [0, 1, 2, 3, 4, 5, 6, 7, 8, 9, 10, 11] (by kernel_rfl) rfl rfl (by kernel_rfl) [] (by kernel_rfl) (by simp) phBl_stays (.cons ?_ (.cons ?_ (.cons ?_ (.cons ?_ (.cons ?_ (.cons ?_ (.cons ?_ (.cons ?_ (.cons ?_ (.cons ?_ (.cons ?_ (.cons ?_ (.nil))))))))))))) ?_
                · refine mono.duty_of rfl ?_
                  intro f W hR hO hD K hK
                  have eL : mono.lit 135 f [] = ⟨#[f 0, f 1, f 2, f 3, f 4, f 5, f 6, f 7, f 8, f 9, f 10, f 11, f 12, f 13, f 14, f 15, f 16, f 17, f 18, f 19, f 20, f 21, f 22, f 23, f 24, f 25, f 26, f 27, f 28, f 29, f 30, f 31, f 32, f 33, f 34, f 35, f 36, f 37, f 38, f 39, f 40, f 41, f 42, f 43, f 44, f 45, f 46, f 47, f 48, f 49, f 50, f 51, f 52, f 53, f 54, f 55, f 56, f 57, f 58, f 59, f 60, f 61, f 62, f 63, f 64, f 65, f 66, f 67, f 68, f 69, f 70, f 71, f 72, f 73, f 74, f 75, f 76, f 77, f 78, f 79, f 80, f 81, f 82, f 83, f 84, f 85, f 86, f 87, f 88, f 89, f 90, f 91, f 92, f 93, f 94, f 95, f 96, f 97, f 98, f 99, f 100, f 101, f 102, f 103, f 104, f 105, f 106, f 107, f 108, f 109, f 110, f 111, f 112, f 113, f 114, f 115, f 116, f 117, f 118, f 119, f 120, f 121, f 122, f 123, f 124, f 125, f 126, f 127, f 128, f 129, f 130, f 131, f 132, f 133, f 134], []⟩ := rfl
                  replace hK : ∀ v W', Below W.heap.size W W' → phBl gw gv cs.length k kv r xn aL L.length kL 0 v W' → K ((mono.lit 135 f []).put (some 110) v) W' := hK
                  rw [eL] at hK ⊢
                  simp only [Act.put, List.setIfInBounds_toArray, List.set_cons_succ, List.set_cons_zero] at hK
                  have o6 : f 6 = (.slice (some ⟨gw, 0, none⟩) cs.length cs.length) := hO 6 (by kernel_rfl)
                  rw [o6] at hK ⊢
                  go_simp
                  exact hK _ _ (Below.refl _ _) rfl
                · refine mono.duty_of rfl ?_
                  intro f W hR hO hD K hK
                  have eL : mono.lit 135 f [] = ⟨#[f 0, f 1, f 2, f 3, f 4, f 5, f 6, f 7, f 8, f 9, f 10, f 11, f 12, f 13, f 14, f 15, f 16, f 17, f 18, f 19, f 20, f 21, f 22, f 23, f 24, f 25, f 26, f 27, f 28, f 29, f 30, f 31, f 32, f 33, f 34, f 35, f 36, f 37, f 38, f 39, f 40, f 41, f 42, f 43, f 44, f 45, f 46, f 47, f 48, f 49, f 50, f 51, f 52, f 53, f 54, f 55, f 56, f 57, f 58, f 59, f 60, f 61, f 62, f 63, f 64, f 65, f 66, f 67, f 68, f 69, f 70, f 71, f 72, f 73, f 74, f 75, f 76, f 77, f 78, f 79, f 80, f 81, f 82, f 83, f 84, f 85, f 86, f 87, f 88, f 89, f 90, f 91, f 92, f 93, f 94, f 95, f 96, f 97, f 98, f 99, f 100, f 101, f 102, f 103, f 104, f 105, f 106, f 107, f 108, f 109, f 110, f 111, f 112, f 113, f 114, f 115, f 116, f 117, f 118, f 119, f 120, f 121, f 122, f 123, f 124, f 125, f 126, f 127, f 128, f 129, f 130, f 131, f 132, f 133, f 134], []⟩ := rfl
                  replace hK : ∀ v W', Below W.heap.size W W' → phBl gw gv cs.length k kv r xn aL L.length kL 1 v W' → K ((mono.lit 135 f []).put (some 111) v) W' := hK
                  rw [eL] at hK ⊢
                  simp only [Act.put, List.setIfInBounds_toArray, List.set_cons_succ, List.set_cons_zero] at hK
                  have o13 : f 13 = (.int .i64 (k : Int)) := hO 13 (by kernel_rfl)
                  rw [o13] at hK ⊢
                  go_simp
                  exact hK _ _ (Below.refl _ _) rfl
                · refine mono.duty_of rfl ?_
                  intro f W hR hO hD K hK
                  have eL : mono.lit 135 f [] = ⟨#[f 0, f 1, f 2, f 3, f 4, f 5, f 6, f 7, f 8, f 9, f 10, f 11, f 12, f 13, f 14, f 15, f 16, f 17, f 18, f 19, f 20, f 21, f 22, f 23, f 24, f 25, f 26, f 27, f 28, f 29, f 30, f 31, f 32, f 33, f 34, f 35, f 36, f 37, f 38, f 39, f 40, f 41, f 42, f 43, f 44, f 45, f 46, f 47, f 48, f 49, f 50, f 51, f 52, f 53, f 54, f 55, f 56, f 57, f 58, f 59, f 60, f 61, f 62, f 63, f 64, f 65, f 66, f 67, f 68, f 69, f 70, f 71, f 72, f 73, f 74, f 75, f 76, f 77, f 78, f 79, f 80, f 81, f 82, f 83, f 84, f 85, f 86, f 87, f 88, f 89, f 90, f 91, f 92, f 93, f 94, f 95, f 96, f 97, f 98, f 99, f 100, f 101, f 102, f 103, f 104, f 105, f 106, f 107, f 108, f 109, f 110, f 111, f 112, f 113, f 114, f 115, f 116, f 117, f 118, f 119, f 120, f 121, f 122, f 123, f 124, f 125, f 126, f 127, f 128, f 129, f 130, f 131, f 132, f 133, f 134], []⟩ := rfl
                  replace hK : ∀ v W', Below W.heap.size W W' → phBl gw gv cs.length k kv r xn aL L.length kL 2 v W' → K ((mono.lit 135 f []).put (some 112) v) W' := hK
                  rw [eL] at hK ⊢
                  simp only [Act.put, List.setIfInBounds_toArray, List.set_cons_succ, List.set_cons_zero] at hK
                  have q0 := hD 0 110 (by kernel_rfl) (by kernel_rfl)
                  replace q0 : f 110 = (.slice (some ⟨gw, 0, none⟩) cs.length cs.length) := q0
                  have q1 := hD 1 111 (by kernel_rfl) (by kernel_rfl)
                  replace q1 : f 111 = (.int .i64 (k : Int)) := q1
                  rw [q0, q1] at hK ⊢
                  go_simp
                  exact hK _ _ (Below.refl _ _) rfl
                · refine mono.duty_of rfl ?_
                  intro f W hR hO hD K hK
                  have eL : mono.lit 135 f [] = ⟨#[f 0, f 1, f 2, f 3, f 4, f 5, f 6, f 7, f 8, f 9, f 10, f 11, f 12, f 13, f 14, f 15, f 16, f 17, f 18, f 19, f 20, f 21, f 22, f 23, f 24, f 25, f 26, f 27, f 28, f 29, f 30, f 31, f 32, f 33, f 34, f 35, f 36, f 37, f 38, f 39, f 40, f 41, f 42, f 43, f 44, f 45, f 46, f 47, f 48, f 49, f 50, f 51, f 52, f 53, f 54, f 55, f 56, f 57, f 58, f 59, f 60, f 61, f 62, f 63, f 64, f 65, f 66, f 67, f 68, f 69, f 70, f 71, f 72, f 73, f 74, f 75, f 76, f 77, f 78, f 79, f 80, f 81, f 82, f 83, f 84, f 85, f 86, f 87, f 88, f 89, f 90, f 91, f 92, f 93, f 94, f 95, f 96, f 97, f 98, f 99, f 100, f 101, f 102, f 103, f 104, f 105, f 106, f 107, f 108, f 109, f 110, f 111, f 112, f 113, f 114, f 115, f 116, f 117, f 118, f 119, f 120, f 121, f 122, f 123, f 124, f 125, f 126, f 127, f 128, f 129, f 130, f 131, f 132, f 133, f 134], []⟩ := rfl
                  replace hK : ∀ v W', Below W.heap.size W W' → phBl gw gv cs.length k kv r xn aL L.length kL 3 v W' → K ((mono.lit 135 f []).put (some 113) v) W' := hK
                  rw [eL] at hK ⊢
                  simp only [Act.put, List.setIfInBounds_toArray, List.set_cons_succ, List.set_cons_zero] at hK
                  have q2 := hD 2 112 (by kernel_rfl) (by kernel_rfl)
                  replace q2 : f 112 = (.pointer (some ⟨gw, k, none⟩)) := q2
                  rw [q2] at hK ⊢
                  have y0 := (hR.cell (p := ⟨gw, k, none⟩) hgw).trans cw
                  go_simp
                  exact hK _ _ (Below.refl _ _) rfl
                · refine mono.duty_of rfl ?_
                  intro f W hR hO hD K hK
                  have eL : mono.lit 135 f [] = ⟨#[f 0, f 1, f 2, f 3, f 4, f 5, f 6, f 7, f 8, f 9, f 10, f 11, f 12, f 13, f 14, f 15, f 16, f 17, f 18, f 19, f 20, f 21, f 22, f 23, f 24, f 25, f 26, f 27, f 28, f 29, f 30, f 31, f 32, f 33, f 34, f 35, f 36, f 37, f 38, f 39, f 40, f 41, f 42, f 43, f 44, f 45, f 46, f 47, f 48, f 49, f 50, f 51, f 52, f 53, f 54, f 55, f 56, f 57, f 58, f 59, f 60, f 61, f 62, f 63, f 64, f 65, f 66, f 67, f 68, f 69, f 70, f 71, f 72, f 73, f 74, f 75, f 76, f 77, f 78, f 79, f 80, f 81, f 82, f 83, f 84, f 85, f 86, f 87, f 88, f 89, f 90, f 91, f 92, f 93, f 94, f 95, f 96, f 97, f 98, f 99, f 100, f 101, f 102, f 103, f 104, f 105, f 106, f 107, f 108, f 109, f 110, f 111, f 112, f 113, f 114, f 115, f 116, f 117, f 118, f 119, f 120, f 121, f 122, f 123, f 124, f 125, f 126, f 127, f 128, f 129, f 130, f 131, f 132, f 133, f 134], []⟩ := rfl
                  replace hK : ∀ v W', Below W.heap.size W W' → phBl gw gv cs.length k kv r xn aL L.length kL 4 v W' → K ((mono.lit 135 f []).put (some 114) v) W' := hK
                  rw [eL] at hK ⊢
                  simp only [Act.put, List.setIfInBounds_toArray, List.set_cons_succ, List.set_cons_zero] at hK
                  have o5 : f 5 = (.slice aL L.length kL) := hO 5 (by kernel_rfl)
                  rw [o5] at hK ⊢
                  go_simp
                  exact hK _ _ (Below.refl _ _) rfl
                · refine mono.duty_of rfl ?_
                  intro f W hR hO hD K hK
                  have eL : mono.lit 135 f [] = ⟨#[f 0, f 1, f 2, f 3, f 4, f 5, f 6, f 7, f 8, f 9, f 10, f 11, f 12, f 13, f 14, f 15, f 16, f 17, f 18, f 19, f 20, f 21, f 22, f 23, f 24, f 25, f 26, f 27, f 28, f 29, f 30, f 31, f 32, f 33, f 34, f 35, f 36, f 37, f 38, f 39, f 40, f 41, f 42, f 43, f 44, f 45, f 46, f 47, f 48, f 49, f 50, f 51, f 52, f 53, f 54, f 55, f 56, f 57, f 58, f 59, f 60, f 61, f 62, f 63, f 64, f 65, f 66, f 67, f 68, f 69, f 70, f 71, f 72, f 73, f 74, f 75, f 76, f 77, f 78, f 79, f 80, f 81, f 82, f 83, f 84, f 85, f 86, f 87, f 88, f 89, f 90, f 91, f 92, f 93, f 94, f 95, f 96, f 97, f 98, f 99, f 100, f 101, f 102, f 103, f 104, f 105, f 106, f 107, f 108, f 109, f 110, f 111, f 112, f 113, f 114, f 115, f 116, f 117, f 118, f 119, f 120, f 121, f 122, f 123, f 124, f 125, f 126, f 127, f 128, f 129, f 130, f 131, f 132, f 133, f 134], []⟩ := rfl
                  replace hK : ∀ v W', Below W.heap.size W W' → phBl gw gv cs.length k kv r xn aL L.length kL 5 v W' → K ((mono.lit 135 f []).put (some 115) v) W' := hK
                  rw [eL] at hK ⊢
                  simp only [Act.put, List.setIfInBounds_toArray, List.set_cons_succ, List.set_cons_zero] at hK
                  have o3 : f 3 = (.slice (some ⟨gv, 0, none⟩) cs.length kv) := hO 3 (by kernel_rfl)
                  rw [o3] at hK ⊢
                  go_simp
                  exact hK _ _ (Below.refl _ _) rfl
                · refine mono.duty_of rfl ?_
                  intro f W hR hO hD K hK
                  have eL : mono.lit 135 f [] = ⟨#[f 0, f 1, f 2, f 3, f 4, f 5, f 6, f 7, f 8, f 9, f 10, f 11, f 12, f 13, f 14, f 15, f 16, f 17, f 18, f 19, f 20, f 21, f 22, f 23, f 24, f 25, f 26, f 27, f 28, f 29, f 30, f 31, f 32, f 33, f 34, f 35, f 36, f 37, f 38, f 39, f 40, f 41, f 42, f 43, f 44, f 45, f 46, f 47, f 48, f 49, f 50, f 51, f 52, f 53, f 54, f 55, f 56, f 57, f 58, f 59, f 60, f 61, f 62, f 63, f 64, f 65, f 66, f 67, f 68, f 69, f 70, f 71, f 72, f 73, f 74, f 75, f 76, f 77, f 78, f 79, f 80, f 81, f 82, f 83, f 84, f 85, f 86, f 87, f 88, f 89, f 90, f 91, f 92, f 93, f 94, f 95, f 96, f 97, f 98, f 99, f 100, f 101, f 102, f 103, f 104, f 105, f 106, f 107, f 108, f 109, f 110, f 111, f 112, f 113, f 114, f 115, f 116, f 117, f 118, f 119, f 120, f 121, f 122, f 123, f 124, f 125, f 126, f 127, f 128, f 129, f 130, f 131, f 132, f 133, f 134], []⟩ := rfl
                  replace hK : ∀ v W', Below W.heap.size W W' → phBl gw gv cs.length k kv r xn aL L.length kL 6 v W' → K ((mono.lit 135 f []).put (some 116) v) W' := hK
                  rw [eL] at hK ⊢
                  simp only [Act.put, List.setIfInBounds_toArray, List.set_cons_succ, List.set_cons_zero] at hK
                  have o13 : f 13 = (.int .i64 (k : Int)) := hO 13 (by kernel_rfl)
                  rw [o13] at hK ⊢
                  go_simp
                  exact hK _ _ (Below.refl _ _) rfl
                · refine mono.duty_of rfl ?_
                  intro f W hR hO hD K hK
                  have eL : mono.lit 135 f [] = ⟨#[f 0, f 1, f 2, f 3, f 4, f 5, f 6, f 7, f 8, f 9, f 10, f 11, f 12, f 13, f 14, f 15, f 16, f 17, f 18, f 19, f 20, f 21, f 22, f 23, f 24, f 25, f 26, f 27, f 28, f 29, f 30, f 31, f 32, f 33, f 34, f 35, f 36, f 37, f 38, f 39, f 40, f 41, f 42, f 43, f 44, f 45, f 46, f 47, f 48, f 49, f 50, f 51, f 52, f 53, f 54, f 55, f 56, f 57, f 58, f 59, f 60, f 61, f 62, f 63, f 64, f 65, f 66, f 67, f 68, f 69, f 70, f 71, f 72, f 73, f 74, f 75, f 76, f 77, f 78, f 79, f 80, f 81, f 82, f 83, f 84, f 85, f 86, f 87, f 88, f 89, f 90, f 91, f 92, f 93, f 94, f 95, f 96, f 97, f 98, f 99, f 100, f 101, f 102, f 103, f 104, f 105, f 106, f 107, f 108, f 109, f 110, f 111, f 112, f 113, f 114, f 115, f 116, f 117, f 118, f 119, f 120, f 121, f 122, f 123, f 124, f 125, f 126, f 127, f 128, f 129, f 130, f 131, f 132, f 133, f 134], []⟩ := rfl
                  replace hK : ∀ v W', Below W.heap.size W W' → phBl gw gv cs.length k kv r xn aL L.length kL 7 v W' → K ((mono.lit 135 f []).put (some 117) v) W' := hK
                  rw [eL] at hK ⊢
                  simp only [Act.put, List.setIfInBounds_toArray, List.set_cons_succ, List.set_cons_zero] at hK
                  have q5 := hD 5 115 (by kernel_rfl) (by kernel_rfl)
                  replace q5 : f 115 = (.slice (some ⟨gv, 0, none⟩) cs.length kv) := q5
                  have q6 := hD 6 116 (by kernel_rfl) (by kernel_rfl)
                  replace q6 : f 116 = (.int .i64 (k : Int)) := q6
                  rw [q5, q6] at hK ⊢
                  go_simp
                  exact hK _ _ (Below.refl _ _) rfl
                · refine mono.duty_of rfl ?_
                  intro f W hR hO hD K hK
                  have eL : mono.lit 135 f [] = ⟨#[f 0, f 1, f 2, f 3, f 4, f 5, f 6, f 7, f 8, f 9, f 10, f 11, f 12, f 13, f 14, f 15, f 16, f 17, f 18, f 19, f 20, f 21, f 22, f 23, f 24, f 25, f 26, f 27, f 28, f 29, f 30, f 31, f 32, f 33, f 34, f 35, f 36, f 37, f 38, f 39, f 40, f 41, f 42, f 43, f 44, f 45, f 46, f 47, f 48, f 49, f 50, f 51, f 52, f 53, f 54, f 55, f 56, f 57, f 58, f 59, f 60, f 61, f 62, f 63, f 64, f 65, f 66, f 67, f 68, f 69, f 70, f 71, f 72, f 73, f 74, f 75, f 76, f 77, f 78, f 79, f 80, f 81, f 82, f 83, f 84, f 85, f 86, f 87, f 88, f 89, f 90, f 91, f 92, f 93, f 94, f 95, f 96, f 97, f 98, f 99, f 100, f 101, f 102, f 103, f 104, f 105, f 106, f 107, f 108, f 109, f 110, f 111, f 112, f 113, f 114, f 115, f 116, f 117, f 118, f 119, f 120, f 121, f 122, f 123, f 124, f 125, f 126, f 127, f 128, f 129, f 130, f 131, f 132, f 133, f 134], []⟩ := rfl
                  replace hK : ∀ v W', Below W.heap.size W W' → phBl gw gv cs.length k kv r xn aL L.length kL 8 v W' → K ((mono.lit 135 f []).put (some 118) v) W' := hK
                  rw [eL] at hK ⊢
                  simp only [Act.put, List.setIfInBounds_toArray, List.set_cons_succ, List.set_cons_zero] at hK
                  have q7 := hD 7 117 (by kernel_rfl) (by kernel_rfl)
                  replace q7 : f 117 = (.pointer (some ⟨gv, k * 2, none⟩)) := q7
                  rw [q7] at hK ⊢
                  go_simp
                  exact hK _ _ (Below.refl _ _) rfl
                · refine mono.duty_of rfl ?_
                  intro f W hR hO hD K hK
                  have eL : mono.lit 135 f [] = ⟨#[f 0, f 1, f 2, f 3, f 4, f 5, f 6, f 7, f 8, f 9, f 10, f 11, f 12, f 13, f 14, f 15, f 16, f 17, f 18, f 19, f 20, f 21, f 22, f 23, f 24, f 25, f 26, f 27, f 28, f 29, f 30, f 31, f 32, f 33, f 34, f 35, f 36, f 37, f 38, f 39, f 40, f 41, f 42, f 43, f 44, f 45, f 46, f 47, f 48, f 49, f 50, f 51, f 52, f 53, f 54, f 55, f 56, f 57, f 58, f 59, f 60, f 61, f 62, f 63, f 64, f 65, f 66, f 67, f 68, f 69, f 70, f 71, f 72, f 73, f 74, f 75, f 76, f 77, f 78, f 79, f 80, f 81, f 82, f 83, f 84, f 85, f 86, f 87, f 88, f 89, f 90, f 91, f 92, f 93, f 94, f 95, f 96, f 97, f 98, f 99, f 100, f 101, f 102, f 103, f 104, f 105, f 106, f 107, f 108, f 109, f 110, f 111, f 112, f 113, f 114, f 115, f 116, f 117, f 118, f 119, f 120, f 121, f 122, f 123, f 124, f 125, f 126, f 127, f 128, f 129, f 130, f 131, f 132, f 133, f 134], []⟩ := rfl
                  replace hK : ∀ v W', Below W.heap.size W W' → phBl gw gv cs.length k kv r xn aL L.length kL 9 v W' → K ((mono.lit 135 f []).put (some 119) v) W' := hK
                  rw [eL] at hK ⊢
                  simp only [Act.put, List.setIfInBounds_toArray, List.set_cons_succ, List.set_cons_zero] at hK
                  have q8 := hD 8 118 (by kernel_rfl) (by kernel_rfl)
                  replace q8 : f 118 = (.pointer (some ⟨gv, k * 2, none⟩)) := q8
                  rw [q8] at hK ⊢
                  have y1 := (hR.cell (p := ⟨gv, _, none⟩) hgv).trans cl
                  go_simp
                  exact hK _ _ (Below.refl _ _) rfl
                · refine mono.duty_of rfl ?_
                  intro f W hR hO hD K hK
                  have eL : mono.lit 135 f [] = ⟨#[f 0, f 1, f 2, f 3, f 4, f 5, f 6, f 7, f 8, f 9, f 10, f 11, f 12, f 13, f 14, f 15, f 16, f 17, f 18, f 19, f 20, f 21, f 22, f 23, f 24, f 25, f 26, f 27, f 28, f 29, f 30, f 31, f 32, f 33, f 34, f 35, f 36, f 37, f 38, f 39, f 40, f 41, f 42, f 43, f 44, f 45, f 46, f 47, f 48, f 49, f 50, f 51, f 52, f 53, f 54, f 55, f 56, f 57, f 58, f 59, f 60, f 61, f 62, f 63, f 64, f 65, f 66, f 67, f 68, f 69, f 70, f 71, f 72, f 73, f 74, f 75, f 76, f 77, f 78, f 79, f 80, f 81, f 82, f 83, f 84, f 85, f 86, f 87, f 88, f 89, f 90, f 91, f 92, f 93, f 94, f 95, f 96, f 97, f 98, f 99, f 100, f 101, f 102, f 103, f 104, f 105, f 106, f 107, f 108, f 109, f 110, f 111, f 112, f 113, f 114, f 115, f 116, f 117, f 118, f 119, f 120, f 121, f 122, f 123, f 124, f 125, f 126, f 127, f 128, f 129, f 130, f 131, f 132, f 133, f 134], []⟩ := rfl
                  replace hK : ∀ v W', Below W.heap.size W W' → phBl gw gv cs.length k kv r xn aL L.length kL 10 v W' → K ((mono.lit 135 f []).put (some 120) v) W' := hK
                  rw [eL] at hK ⊢
                  simp only [Act.put, List.setIfInBounds_toArray, List.set_cons_succ, List.set_cons_zero] at hK
                  have q4 := hD 4 114 (by kernel_rfl) (by kernel_rfl)
                  replace q4 : f 114 = (.slice aL L.length kL) := q4
                  have q9 := hD 9 119 (by kernel_rfl) (by kernel_rfl)
                  replace q9 : f 119 = (.int .i64 xn) := q9
                  rw [q4, q9] at hK ⊢
                  have cX := cH W hR
                  go_simp
                  refine cX.mono ?_
                  rintro e w9 ⟨rfl, hb⟩
                  exact hK _ _ hb rfl
                · refine mono.duty_of rfl ?_
                  intro f W hR hO hD K hK
                  have eL : mono.lit 135 f [] = ⟨#[f 0, f 1, f 2, f 3, f 4, f 5, f 6, f 7, f 8, f 9, f 10, f 11, f 12, f 13, f 14, f 15, f 16, f 17, f 18, f 19, f 20, f 21, f 22, f 23, f 24, f 25, f 26, f 27, f 28, f 29, f 30, f 31, f 32, f 33, f 34, f 35, f 36, f 37, f 38, f 39, f 40, f 41, f 42, f 43, f 44, f 45, f 46, f 47, f 48, f 49, f 50, f 51, f 52, f 53, f 54, f 55, f 56, f 57, f 58, f 59, f 60, f 61, f 62, f 63, f 64, f 65, f 66, f 67, f 68, f 69, f 70, f 71, f 72, f 73, f 74, f 75, f 76, f 77, f 78, f 79, f 80, f 81, f 82, f 83, f 84, f 85, f 86, f 87, f 88, f 89, f 90, f 91, f 92, f 93, f 94, f 95, f 96, f 97, f 98, f 99, f 100, f 101, f 102, f 103, f 104, f 105, f 106, f 107, f 108, f 109, f 110, f 111, f 112, f 113, f 114, f 115, f 116, f 117, f 118, f 119, f 120, f 121, f 122, f 123, f 124, f 125, f 126, f 127, f 128, f 129, f 130, f 131, f 132, f 133, f 134], []⟩ := rfl
                  replace hK : ∀ v W', Below W.heap.size W W' → phBl gw gv cs.length k kv r xn aL L.length kL 11 v W' → K ((mono.lit 135 f []).put (some 121) v) W' := hK
                  rw [eL] at hK ⊢
                  simp only [Act.put, List.setIfInBounds_toArray, List.set_cons_succ, List.set_cons_zero] at hK
                  have q3 := hD 3 113 (by kernel_rfl) (by kernel_rfl)
                  replace q3 : f 113 = (.bool r) := q3
                  have q10 := hD 10 120 (by kernel_rfl) (by kernel_rfl)
                  replace q10 : f 120 = (.bool r) := q10
                  rw [q3, q10] at hK ⊢
                  go_simp
                  exact hK _ _ (Below.refl _ _) rfl
                · intro f W hB hO hD
                  have r0 := hO 0 (by kernel_rfl)
                  have r1 := hO 1 (by kernel_rfl)
                  have r2 := hO 2 (by kernel_rfl)
                  have r3 := hO 3 (by kernel_rfl)
                  have r4 := hO 4 (by kernel_rfl)
                  have r5 := hO 5 (by kernel_rfl)
                  have r6 := hO 6 (by kernel_rfl)
                  have r7 := hO 7 (by kernel_rfl)
                  have r8 := hO 8 (by kernel_rfl)
                  have r9 := hO 9 (by kernel_rfl)
                  have r10 := hO 10 (by kernel_rfl)
                  have r11 := hO 11 (by kernel_rfl)
                  have r12 := hO 12 (by kernel_rfl)
                  have r13 := hO 13 (by kernel_rfl)
                  have r14 := hO 14 (by kernel_rfl)
                  have r15 := hO 15 (by kernel_rfl)
                  have r16 := hO 16 (by kernel_rfl)
                  have r17 := hO 17 (by kernel_rfl)
                  have r18 := hO 18 (by kernel_rfl)
                  have r19 := hO 19 (by kernel_rfl)
                  have r20 := hO 20 (by kernel_rfl)
                  have r21 := hO 21 (by kernel_rfl)
                  have r22 := hO 22 (by kernel_rfl)
                  have r23 := hO 23 (by kernel_rfl)
                  have r24 := hO 24 (by kernel_rfl)
                  have r25 := hO 25 (by kernel_rfl)
                  have r26 := hO 26 (by kernel_rfl)
                  have r27 := hO 27 (by kernel_rfl)
                  have r28 := hO 28 (by kernel_rfl)
                  have r29 := hO 29 (by kernel_rfl)
                  have r30 := hO 30 (by kernel_rfl)
                  have r31 := hO 31 (by kernel_rfl)
                  have r32 := hO 32 (by kernel_rfl)
                  have r33 := hO 33 (by kernel_rfl)
                  have r34 := hO 34 (by kernel_rfl)
                  have r35 := hO 35 (by kernel_rfl)
                  have r36 := hO 36 (by kernel_rfl)
                  have r37 := hO 37 (by kernel_rfl)
                  have r38 := hO 38 (by kernel_rfl)
                  have r39 := hO 39 (by kernel_rfl)
                  have r40 := hO 40 (by kernel_rfl)
                  have r41 := hO 41 (by kernel_rfl)
                  have r42 := hO 42 (by kernel_rfl)
                  have r43 := hO 43 (by kernel_rfl)
                  have r44 := hO 44 (by kernel_rfl)
                  have r45 := hO 45 (by kernel_rfl)
                  have r46 := hO 46 (by kernel_rfl)
                  have r47 := hO 47 (by kernel_rfl)
                  have r48 := hO 48 (by kernel_rfl)
                  have r49 := hO 49 (by kernel_rfl)
                  have r50 := hO 50 (by kernel_rfl)
                  have r51 := hO 51 (by kernel_rfl)
                  have r52 := hO 52 (by kernel_rfl)
                  have r53 := hO 53 (by kernel_rfl)
                  have r54 := hO 54 (by kernel_rfl)
                  have r55 := hO 55 (by kernel_rfl)
                  have r56 := hO 56 (by kernel_rfl)
                  have r57 := hO 57 (by kernel_rfl)
                  have r58 := hO 58 (by kernel_rfl)
                  have r59 := hO 59 (by kernel_rfl)
                  have r60 := hO 60 (by kernel_rfl)
                  have r61 := hO 61 (by kernel_rfl)
                  have r62 := hO 62 (by kernel_rfl)
                  have r63 := hO 63 (by kernel_rfl)
                  have r64 := hO 64 (by kernel_rfl)
                  have r65 := hO 65 (by kernel_rfl)
                  have r66 := hO 66 (by kernel_rfl)
                  have r67 := hO 67 (by kernel_rfl)
                  have r68 := hO 68 (by kernel_rfl)
                  have r69 := hO 69 (by kernel_rfl)
                  have r70 := hO 70 (by kernel_rfl)
                  have r71 := hO 71 (by kernel_rfl)
                  have r72 := hO 72 (by kernel_rfl)
                  have r73 := hO 73 (by kernel_rfl)
                  have r74 := hO 74 (by kernel_rfl)
                  have r75 := hO 75 (by kernel_rfl)
                  have r76 := hO 76 (by kernel_rfl)
                  have r77 := hO 77 (by kernel_rfl)
                  have r78 := hO 78 (by kernel_rfl)
                  have r79 := hO 79 (by kernel_rfl)
                  have r80 := hO 80 (by kernel_rfl)
                  have r81 := hO 81 (by kernel_rfl)
                  have r82 := hO 82 (by kernel_rfl)
                  have r83 := hO 83 (by kernel_rfl)
                  have r84 := hO 84 (by kernel_rfl)
                  have r85 := hO 85 (by kernel_rfl)
                  have r86 := hO 86 (by kernel_rfl)
                  have r87 := hO 87 (by kernel_rfl)
                  have r88 := hO 88 (by kernel_rfl)
                  have r89 := hO 89 (by kernel_rfl)
                  have r90 := hO 90 (by kernel_rfl)
                  have r91 := hO 91 (by kernel_rfl)
                  have r92 := hO 92 (by kernel_rfl)
                  have r93 := hO 93 (by kernel_rfl)
                  have r94 := hO 94 (by kernel_rfl)
                  have r95 := hO 95 (by kernel_rfl)
                  have r96 := hO 96 (by kernel_rfl)
                  have r97 := hO 97 (by kernel_rfl)
                  have r98 := hO 98 (by kernel_rfl)
                  have r99 := hO 99 (by kernel_rfl)
                  have r100 := hO 100 (by kernel_rfl)
                  have r101 := hO 101 (by kernel_rfl)
                  have r102 := hO 102 (by kernel_rfl)
                  have r103 := hO 103 (by kernel_rfl)
                  have r104 := hO 104 (by kernel_rfl)
                  have r105 := hO 105 (by kernel_rfl)
                  have r106 := hO 106 (by kernel_rfl)
                  have r107 := hO 107 (by kernel_rfl)
                  have r108 := hO 108 (by kernel_rfl)
                  have r109 := hO 109 (by kernel_rfl)
                  have r121 := hD 11 121 (by kernel_rfl)
                  replace r121 : f 121 = (.bool false) := r121
                  have r122 := hO 122 (by kernel_rfl)
                  have r123 := hO 123 (by kernel_rfl)
                  have r124 := hO 124 (by kernel_rfl)
                  have r125 := hO 125 (by kernel_rfl)
                  have r126 := hO 126 (by kernel_rfl)
                  have r127 := hO 127 (by kernel_rfl)
                  have r128 := hO 128 (by kernel_rfl)
                  have r129 := hO 129 (by kernel_rfl)
                  have r130 := hO 130 (by kernel_rfl)
                  have r131 := hO 131 (by kernel_rfl)
                  have r132 := hO 132 (by kernel_rfl)
                  have r133 := hO 133 (by kernel_rfl)
                  have r134 := hO 134 (by kernel_rfl)
                  have eL : mono.lit 135 f [] = ⟨#[f 0, f 1, f 2, f 3, f 4, f 5, f 6, f 7, f 8, f 9, f 10, f 11, f 12, f 13, f 14, f 15, f 16, f 17, f 18, f 19, f 20, f 21, f 22, f 23, f 24, f 25, f 26, f 27, f 28, f 29, f 30, f 31, f 32, f 33, f 34, f 35, f 36, f 37, f 38, f 39, f 40, f 41, f 42, f 43, f 44, f 45, f 46, f 47, f 48, f 49, f 50, f 51, f 52, f 53, f 54, f 55, f 56, f 57, f 58, f 59, f 60, f 61, f 62, f 63, f 64, f 65, f 66, f 67, f 68, f 69, f 70, f 71, f 72, f 73, f 74, f 75, f 76, f 77, f 78, f 79, f 80, f 81, f 82, f 83, f 84, f 85, f 86, f 87, f 88, f 89, f 90, f 91, f 92, f 93, f 94, f 95, f 96, f 97, f 98, f 99, f 100, f 101, f 102, f 103, f 104, f 105, f 106, f 107, f 108, f 109, f 110, f 111, f 112, f 113, f 114, f 115, f 116, f 117, f 118, f 119, f 120, f 121, f 122, f 123, f 124, f 125, f 126, f 127, f 128, f 129, f 130, f 131, f 132, f 133, f 134], []⟩ := rfl
                  rw [eL, r0, r1, r2, r3, r4, r5, r6, r7, r8, r9, r10, r11, r12, r13, r14, r15, r16, r17, r18, r19, r20, r21, r22, r23, r24, r25, r26, r27, r28, r29, r30, r31, r32, r33, r34, r35, r36, r37, r38, r39, r40, r41, r42, r43, r44, r45, r46, r47, r48, r49, r50, r51, r52, r53, r54, r55, r56, r57, r58, r59, r60, r61, r62, r63, r64, r65, r66, r67, r68, r69, r70, r71, r72, r73, r74, r75, r76, r77, r78, r79, r80, r81, r82, r83, r84, r85, r86, r87, r88, r89, r90, r91, r92, r93, r94, r95, r96, r97, r98, r99, r100, r101, r102, r103, r104, r105, r106, r107, r108, r109, r121, r122, r123, r124, r125, r126, r127, r128, r129, r130, r131, r132, r133, r134]
                  have hbW := hbd.trans (hB.mono hbd.size)
                  have cwW := (hB.cell (p := ⟨gw, k, none⟩) hgw).trans cw
                  clear hO hD cH hB cw cl hdw hbd
                  cases r with
                  | true =>
                    have HN3 : Hid (cc + 1 = (((cs.map CoD.n).take (k + 1)).filter (fun n => decide (n ∈ L))).length) := by
                      show _ = _
                      rw [HN2.out, ← HN.out]
                      rfl
                    clear HN HN2
                    go_wp2_with fail
                    exact ⟨⟨_, .int .i64 ((cc + 1 : Nat) : Int), .int .i64 ((k + 1 : Nat) : Int), ⟨k + 1, by omega, rfl, cc + 1, rfl, HN3⟩, rfl, by go_num, by go_num⟩, by simp [Go.RowKit.intOf]; omega⟩
                  | false =>
                    have HN3 : Hid (cc = (((cs.map CoD.n).take (k + 1)).filter (fun n => decide (n ∈ L))).length) := by
                      show _ = _
                      rw [HN2.out, ← HN.out]
                      rfl
                    clear HN HN2
                    go_wp2_with fail
                    exact ⟨⟨_, .int .i64 (cc : Int), .int .i64 ((k + 1 : Nat) : Int), ⟨k + 1, by omega, rfl, cc, rfl, HN3⟩, rfl, rfl, by go_num⟩, by simp [Go.RowKit.intOf]; omega⟩
              · have hlt' : ¬ (k : Int) < (cs.length : Int) := by omega
                have hcc : cc = L.length := by
                  have h1 := HN.out
                  rw [List.take_of_length_le (by rw [List.length_map]; omega), HC.out] at h1
                  exact h1
                subst hcc
                have cl := hcl wr
                clear HN HC hneed hcell hV hrL
                go_wp2_with fail
                refine cl.mono ?_
                rintro e w9 ⟨rfl, hb9⟩
                have hbl9 := hbl.trans (hb9.mono hbl.size)
                have hfin := hbF.trans (hbl9.mono hbF.size)
                go_wp2_with fail
                go_ret
                exact ⟨rfl, hfin⟩


theorem own : ownKnob Try.prog.godebug = none := by kernel_rfl
theorem laidOut : laidOutB Try.prog = true := by kernel_rfl

set_option maxRecDepth 20000 in
theorem contract (H : Type) (enc : TypeId × Value → H) (W : World) (base : Nat) (args : Array Value) (ds gs : List (DataW H)) (before : List MemPlace)
    (hval : ∀ (j : Nat) t v, Try.f5.params[j]? = some t → args[j]? = some v → Value.okWide Try.prog W .any base t v)
    (hW : DataW.Whole enc Try.prog Try.f5.params.toList Rows.gcAboveSpec.vars false W args.toList ds gs before) (hsz0 : (DataW.weightsEach Try.prog (Try.f5.params.toList ++ Rows.gcAboveSpec.plain.varTypes Try.prog) (ds ++ gs)).all (· ≤ reachBytes) = true) :
    Calls Try.prog 5 args W fun e W' => ∃ v, e = .returned v ∧ Rows.gcAboveSpec.post enc Try.prog Try.f5 false true false false W args v W' := by
  have hW' := hW
  obtain ⟨p, q, hA0, hV, rfl, hfz, hnd⟩ := hW
  have hA : DataW.TrodAll enc Try.prog W 0 (fun _ => true) true Try.f5.params.toList args.toList ds p := hA0
  rw [Try.params5] at hA hval hsz0
  obtain ⟨v0, vs0, d0, ds0, p0, q0, hargs, rfl, rfl, h0, r0⟩ := trodAll_cons hA
  obtain ⟨rfl, rfl, rfl⟩ := trodAll_nil r0
  obtain rfl : args = #[v0] := by cases args; simp_all
  obtain ⟨rfl, rfl⟩ := trodVars_none hV
  have k0 := h0
  have lt0 : ∀ x ∈ p0, x.block < W.heap.size := by obtain ⟨m, hm⟩ := k0; exact DataW.trod_lt m _ _ _ hm
  obtain ⟨fuel0, hf0⟩ := h0
  have z0 : Sz false 26 d0 := fun n hn => by simpa using List.all_eq_true.1 hsz0 n (DataW.weights_mem_each (j := 0) (t := 26) (d := d0) rfl rfl n hn)
  obtain ⟨S0, s0a, s0b, s0c, hc0, rd0, ok0⟩ := open_st od_false hf0 z0
  obtain rfl := st_val hc0
  clear hA0
  simp only [List.append_nil] at hW'
  refine (walk S0 s0a s0b s0c W rd0 ok0).mono fun e W' ⟨he, bel⟩ => ?_
  subst he
  exact ⟨_, rfl, _, _, _, [], _, [], hW', trodAll_mk1 (shut_bool Try.underlying4 _), (trodAll_cons_mk (Below.trod laidOut (by kernel_rfl) (of_decide_eq_true (by kernel_rfl)) k0 bel lt0) trodAll_mk0), rfl, bel.frame _, fun h => by cases h⟩

set_option maxRecDepth 100000 in
theorem lifted (os : Os) (started : os.Started) (H : Type) (enc : TypeId × Value → H) :
    ReturnsInHanded {} Try.checked os 5 .any (Rows.gcAboveSpec.pre6 enc Try.prog Try.f5 Rows.gcAboveRow.domain false) (Rows.gcAboveSpec.post enc Try.prog Try.f5 false true false false) := by
  refine returnsInHanded_of_change_sized (C := Try.checked) own started (by kernel_rfl) Try.func5
    (ChangeSpec.witness6 (enc := enc) (C := Try.checked) false ⟨#[], #[.agg #[.int .i64 0, .int .i64 0, .slice none 0 0, .slice none 0 0, .slice none 0 0]], []⟩ 8 (by kernel_rfl) (by kernel_rfl) (by kernel_rfl) (by kernel_rfl)) ?_
  intro W base args ds gs before hval hW _ hsz _
  exact contract H enc W base args ds gs before hval hW hsz

theorem holds : Rows.GcAboveSaid :=
  OpenClaim.holds_of_wide 5 Try.f5 rfl rfl rfl rfl rfl rfl rfl ⟨rfl, rfl, rfl, rfl, rfl⟩ rfl rfl rfl rfl rfl (by kernel_rfl) Try.func5 (by kernel_rfl)
    (of_decide_eq_true (by kernel_rfl)) (by unfold Func.isWrapper; first | (rw [if_pos (by decide +kernel)]; kernel_rfl) | (rw [if_neg (by decide +kernel)]; exact ⟨rfl, rfl⟩))
    (fun os started H enc _ => lifted os started H enc)
end Go.Proofs.Ythhdpabelcgfjaa.gcAbove
namespace Go.Proofs.Ythhdpabelcgfjaa
theorem gcAbove_holds : Rows.GcAboveSaid := gcAbove.holds
#print axioms gcAbove_holds
end Go.Proofs.Ythhdpabelcgfjaa
