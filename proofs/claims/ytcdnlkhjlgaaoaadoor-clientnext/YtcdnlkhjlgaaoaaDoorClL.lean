/-
  confirmed: the first edit has come in.
-/
import Derived.Test.YtcdnlkhjlgaaoaaDoorClP
namespace Go.Proofs.YtcdnlkhjlgaaoaaDoor
open Go.ChangeShapes Go.WideShapes Go.ChangeAt Go.RowKit Go.PlainAid

theorem sizeEdC (W : World) : Sem.run Tryd.prog (sizeOf 41) W = .ok 2 W := by
  obtain ⟨i0, hi, hz0, hz1, hz2⟩ := info_parts Tryd.infoEd
  simp [sizeOf, typeInfo, hi, hz1]
set_option maxRecDepth 20000 in
theorem slice_1 (g off n cp : Nat) (hc : n + 1 ≤ cp) : ∃ ao, (∀ W : World, (Instr.slice 24 (.slice (some ⟨g, off, none⟩) (n + 1) cp) (some (.int .i64 1)) none none).run Tryd.prog W = .ok (.slice ao n (cp - 1)) W) ∧ (0 < n → ao = some ⟨g, off + 2, none⟩) ∧ ao ≠ none := by
  have e : Tryd.prog.elem 24 = 41 := by kernel_rfl
  by_cases h : cp = 1
  · refine ⟨some ⟨g, off, none⟩, fun W => ?_, fun hn => by omega, by simp⟩
    rw [run_slice_l (P := Tryd.prog) W 24 (some ⟨g, off, none⟩) (n + 1) cp Tryd.underlying24 .i64 1 (by omega) (by omega), e, sizeEdC]
    subst h
    have hn : n = 0 := by omega
    subst hn
    simp [Result.andThen, sliced]
  · refine ⟨some ⟨g, off + 2, none⟩, fun W => ?_, fun _ => rfl, by simp⟩
    rw [run_slice_l (P := Tryd.prog) W 24 (some ⟨g, off, none⟩) (n + 1) cp Tryd.underlying24 .i64 1 (by omega) (by omega), e, sizeEdC]
    simp only [Result.andThen, sliced, Option.map_some, addrC]
    rw [if_neg (by simp; omega)]
    simp
theorem rded_tail {w : World} {g off n cp : Nat} {e : EdW} {q : List EdW} {ao : Option Addr} (hn : q.length = n) (h : RdEd w (.slice (some ⟨g, off, none⟩) (n + 1) cp) (e :: q)) (ha : 0 < n → ao = some ⟨g, off + 2, none⟩) (hz : ao ≠ none) : RdEd w (.slice ao n (cp - 1)) q := by
  obtain ⟨a', c', hv, ⟨h1, h2⟩, hc⟩ := h
  simp only [Value.slice.injEq] at hv
  obtain ⟨rfl, hl, rfl⟩ := hv
  simp only [List.length_cons] at h1
  refine ⟨ao, cp - 1, by rw [hn], ⟨by omega, fun h => absurd h hz⟩, fun i x hi => ?_⟩
  have hlt : i < q.length := (List.getElem?_eq_some_iff.1 hi).1
  obtain ⟨b, o, u, hb, hl, c0, c1, c2⟩ := hc (i + 1) x (by simpa using hi)
  simp only [Option.some.injEq, Addr.mk.injEq, and_true] at hb
  obtain ⟨rfl, rfl⟩ := hb
  refine ⟨g, off + 2, u, ha (by omega), hl, ?_, ?_, c2⟩
  · rw [show off + 2 + i * 2 = off + (i + 1) * 2 by omega]; exact c0
  · rw [show off + 2 + i * 2 + 1 = off + (i + 1) * 2 + 1 by omega]; exact c1

/-- confirmed's boxes, on their way. -/
structure BxF (w : World) (B : Nat) (c b s mr : Int) (t : ByteArray) (m : MsD) (mu ov : Value) (Lq : List EdW) (L : Nat → Bool) (W : World) : Prop where
  bel : Below w.heap.size w W
  sz : B ≤ W.heap.size
  m : MB W (w.heap.size + 1) m mu
  z : EB W (w.heap.size + 1 + 1) zeroE (.slice none 0 0)
  e : ∃ rr vv, EB W w.heap.size ⟨c, b, rr, t, s, []⟩ vv ∧ (L 12 = true → rr = mr) ∧ (L 14 = false → vv = ov) ∧ (L 14 = true → L 6 = true ∧ ∃ a k us, vv = .slice a Lq.length k ∧ OwEd W B vv Lq us)
section
variable {w : World} {B : Nat} {c b s mr : Int} {t : ByteArray} {m : MsD} {mu ov : Value} {Lq : List EdW} {L : Nat → Bool} {W W' : World} {i : Nat}
theorem BxF.old6 (h : BxF w B c b s mr t m mu ov Lq L W) (hi : L 6 = false) : W.cell? ⟨w.heap.size, 5, none⟩ = some ov := by
  obtain ⟨rr, vv, hE, -, h2, h3⟩ := h.e
  cases hs : L 14 with
  | false => rw [← h2 hs]; exact (cellsEB hE).2.2.2.2.2
  | true => have := (h3 hs).1; rw [hi] at this; cases this
theorem BxF.step (h : BxF w B c b s mr t m mu ov Lq L W) (h1 : 12 ≠ i) (h2 : 14 ≠ i) (_h3 : 10 ≠ i) (hb : Below W.heap.size W W') : BxF w B c b s mr t m mu ov Lq (fun j => if j = i then true else L j) W' := by
  obtain ⟨rr, vv, hE, e1, e2, e3⟩ := h.e
  refine ⟨chain h.bel hb, Nat.le_trans h.sz hb.size, h.m.below hb, h.z.below hb, rr, vv, hE.below hb, fun hs => e1 (by rwa [if_neg h1] at hs), fun hs => e2 (by rwa [if_neg h2] at hs), fun hs => ?_⟩
  rw [if_neg h2] at hs
  obtain ⟨q1, a, k, us, q2, q3⟩ := e3 hs
  exact ⟨by split <;> first | rfl | exact q1, a, k, us, q2, q3.below hb⟩
theorem BxF.sto3 (h : BxF w B c b s mr t m mu ov Lq L W) (hgB : w.heap.size < B) (hwg : w.heap.size ≤ w.heap.size) : BxF w B c b s mr t m mu ov Lq (fun j => if j = 10 then true else L j) (W.setCell ⟨w.heap.size, 3, none⟩ (.string t)) := by
  obtain ⟨rr, vv, hE, e1, e2, e3⟩ := h.e
  have hg := grown_set W w.heap.size 3 (.string t)
  refine ⟨h.bel.setCell hwg _, Nat.le_trans h.sz hg.size, (hg.block _ (EB.lt' h.m) (fun e => by simp at e)).trans h.m, (hg.block _ h.z.lt (fun e => by simp at e; omega)).trans h.z, rr, vv, heap_setCell hE 3 (.string t), fun hs => e1 (by simpa using hs), fun hs => e2 (by simpa using hs), fun hs => ?_⟩
  obtain ⟨q1, a, k, us, q2, q3⟩ := e3 (by simpa using hs)
  exact ⟨by simpa using q1, a, k, us, q2, q3.keptB hg hgB⟩
theorem BxF.sto2 (h : BxF w B c b s mr t m mu ov Lq L W) (hgB : w.heap.size < B) (hwg : w.heap.size ≤ w.heap.size) : BxF w B c b s mr t m mu ov Lq (fun j => if j = 12 then true else L j) (W.setCell ⟨w.heap.size, 2, none⟩ (.int .i64 mr)) := by
  obtain ⟨rr, vv, hE, e1, e2, e3⟩ := h.e
  have hg := grown_set W w.heap.size 2 (.int .i64 mr)
  refine ⟨h.bel.setCell hwg _, Nat.le_trans h.sz hg.size, (hg.block _ (EB.lt' h.m) (fun e => by simp at e)).trans h.m, (hg.block _ h.z.lt (fun e => by simp at e; omega)).trans h.z, mr, vv, heap_setCell hE 2 (.int .i64 mr), fun _ => rfl, fun hs => e2 (by simpa using hs), fun hs => ?_⟩
  obtain ⟨q1, a, k, us, q2, q3⟩ := e3 (by simpa using hs)
  exact ⟨by simpa using q1, a, k, us, q2, q3.keptB hg hgB⟩
theorem BxF.sto5 {a : Option Addr} {k : Nat} {us : List Value} (h : BxF w B c b s mr t m mu ov Lq L W) (hgB : w.heap.size < B) (hwg : w.heap.size ≤ w.heap.size) (h6 : L 6 = true) (ho : OwEd W B (.slice a Lq.length k) Lq us) : BxF w B c b s mr t m mu ov Lq (fun j => if j = 14 then true else L j) (W.setCell ⟨w.heap.size, 5, none⟩ (.slice a Lq.length k)) := by
  obtain ⟨rr, vv, hE, e1, e2, e3⟩ := h.e
  have hg := grown_set W w.heap.size 5 (.slice a Lq.length k)
  refine ⟨h.bel.setCell hwg _, Nat.le_trans h.sz hg.size, (hg.block _ (EB.lt' h.m) (fun e => by simp at e)).trans h.m, (hg.block _ h.z.lt (fun e => by simp at e; omega)).trans h.z, rr, .slice a Lq.length k, heap_setCell hE 5 _, fun hs => e1 (by simpa using hs), fun hs => by simp at hs, fun _ => ⟨by simpa using h6, a, k, us, rfl, ho.keptB hg hgB⟩⟩
end
def phCf (x B g off n cp : Nat) (ao : Option Addr) (t : ByteArray) (mr : Int) (Lq : List EdW) : Nat → Value → World → Prop
  | 0, v, _ => v = (.pointer (some ⟨x, 3, none⟩))
  | 1, v, _ => v = (.string t)
  | 2, v, _ => v = (.string t)
  | 3, v, _ => v = (.pointer (some ⟨(x + 1), 4, none⟩))
  | 4, v, _ => v = (.int .i64 mr)
  | 5, v, _ => v = (.pointer (some ⟨x, 5, none⟩))
  | 6, v, _ => v = (.slice (some ⟨g, off, none⟩) (n + 1) cp)
  | 7, v, _ => v = (.slice ao n (cp - 1))
  | 8, v, W => ∃ a k us, v = .slice a Lq.length k ∧ OwEd W B (.slice a Lq.length k) Lq us
  | 9, v, _ => v = (.pointer (some ⟨x, 3, none⟩))
  | 10, _, _ => True
  | 11, v, _ => v = (.pointer (some ⟨x, 2, none⟩))
  | 12, _, _ => True
  | 13, v, _ => v = (.pointer (some ⟨x, 5, none⟩))
  | 14, _, _ => True
  | _, _, _ => True
theorem phCf_stays {x B g off n cp : Nat} {ao : Option Addr} {t : ByteArray} {mr : Int} {Lq : List EdW} (hgB : x < B) (i : Nat) (v : Value) (w w' : World) (h : phCf x B g off n cp ao t mr Lq i v w) (hg : w.grownBy w' (some x)) : phCf x B g off n cp ao t mr Lq i v w' := by
  unfold phCf at h ⊢
  split at h
  all_goals first
    | exact h
    | (obtain ⟨a, k, us, e, ho⟩ := h; exact ⟨a, k, us, e, ho.keptB hg hgB⟩)
    | trivial
/-- What confirmed gives. -/
def conE (E : EdD) (m : MsD) : EdD × Int := match E.p with
  | [] => (zeroE, 200)
  | e :: q => if jn (stR m.d) = e.d then (⟨E.c, E.b, m.r, E.t, E.s, q.map EdW.cp⟩, 0) else (zeroE, 200)

set_option maxRecDepth 20000 in
set_option maxHeartbeats 1500000 in
theorem confirmed_any (c b r s mk mb mc ms mr my : Int) (t : ByteArray) (x : EdW) (q : List EdW) (md : List OpD) (v u : Value) (w : World) (hr : RdEd w v (x :: q)) (hd : RdD w u md) (hq8 : q.length ≤ 8) (hF : ∀ e ∈ q, e.Fit) (ht : t.size ≤ 1125899906842) (hdl : md.length ≤ maxLen) (hdi : ∀ o ∈ md, o.In) :
    Calls Tryd.prog 38 #[.agg (EdD.fs ⟨c, b, r, t, s, x :: q⟩ v), .agg (MsD.fs ⟨mk, mb, mc, ms, mr, my, md⟩ u)] w fun e w' => ∃ v' us, e = .returned (.tuple #[.agg ((conE ⟨c, b, r, t, s, x :: q⟩ ⟨mk, mb, mc, ms, mr, my, md⟩).1.fs v'), .int .i64 (conE ⟨c, b, r, t, s, x :: q⟩ ⟨mk, mb, mc, ms, mr, my, md⟩).2]) ∧ OwEd w' w.heap.size v' (conE ⟨c, b, r, t, s, x :: q⟩ ⟨mk, mb, mc, ms, mr, my, md⟩).1.p us ∧ Below w.heap.size w w' := by
  have h3 := l3_new w ⟨c, b, r, t, s, x :: q⟩ ⟨mk, mb, mc, ms, mr, my, md⟩ v u
  have hA := bel3 w (.cells (EdD.fs ⟨c, b, r, t, s, x :: q⟩ v) 26) (.cells (MsD.fs ⟨mk, mb, mc, ms, mr, my, md⟩ u) 38) (.cells (zeroE.fs (.slice none 0 0)) 26)
  have hsz : (((w.alloc (.cells (EdD.fs ⟨c, b, r, t, s, x :: q⟩ v) 26)).alloc (.cells (MsD.fs ⟨mk, mb, mc, ms, mr, my, md⟩ u) 38)).alloc (.cells (zeroE.fs (.slice none 0 0)) 26)).heap.size = w.heap.size + 3 := by simp
  have hr3 := hr.below hA
  have cN := normal_any u md _ (hd.below hA) hdl hdi
  obtain ⟨au, ku, rfl⟩ := rdd_len hd
  obtain ⟨ao, cp, rfl, ⟨hcp, -⟩, hc⟩ := id hr3
  obtain ⟨g, off, u0, rfl, hg, c0, c1, c2⟩ := hc 0 x rfl
  simp only [Nat.zero_mul, Nat.add_zero] at c0 c1
  simp only [List.length_cons] at *
  obtain ⟨ao, hsl, ha, hz⟩ := slice_1 g off q.length cp hcp
  have htl0 := rded_tail rfl hr ha hz
  obtain ⟨a1, k1, rfl⟩ := rdd_len c2
  have hjl := jn_in (stR_ok hdi) (stR_bd md).1 (stR_bd md).2
  clear hc hr3 hr hd
  obtain ⟨R, HR⟩ : ∃ R, Hid (R = conE ⟨c, b, r, t, s, x :: q⟩ ⟨mk, mb, mc, ms, mr, my, md⟩) := ⟨_, rfl⟩
  rw [← HR.out]
  simp only [EdD.fs, MsD.fs] at *
  generalize hw3 : ((w.alloc (.cells #[.int .i64 c, .int .i64 b, .int .i64 r, .string t, .int .i64 s, .slice (some ⟨g, off, none⟩) (q.length + 1) cp] 26)).alloc (.cells #[.int .i64 mk, .int .i64 mb, .int .i64 mc, .int .i64 ms, .int .i64 mr, .int .i64 my, .slice au md.length ku] 38)).alloc (.cells #[.int .i64 zeroE.c, .int .i64 zeroE.b, .int .i64 zeroE.r, .string zeroE.t, .int .i64 zeroE.s, .slice none 0 0] 26) = w3 at *
  obtain ⟨x0, x1, x2, x3, x4, x5⟩ := cellsEB h3.x
  obtain ⟨z0, z1, z2, z3, z4, z5, z6⟩ := cellsMB h3.y
  rw [← hw3] at x0 x1 x2 x3 x4 x5 z0 z1 z2 z3 z4 z5 z6
  simp only [zeroE] at x0 x1 x2 x3 x4 x5 z0 z1 z2 z3 z4 z5 z6
  go_enter Tryd.func38, Tryd.ntmps38
  go_wp2_with fail
  clear x0 x1 x2 x3 x4 x5 z0 z1 z2 z3 z4 z5 z6
  simp only [zeroE] at hw3
  rw [hw3]
  clear hw3
  refine cN.mono ?_
  rintro e w4 ⟨u4, rfl, ho4, hb4⟩
  have h34 := h3.below hb4
  have hB4 := chain hA hb4
  have hs4 := hb4.size
  obtain ⟨a4, k4, rfl⟩ := own_form ho4
  replace c1 := (hb4.cell (p := ⟨g, off + 1, none⟩) hg).trans c1
  have cE := equal_any _ _ (jn (stR md)) x.d w4 (rdd_own ho4) (c2.below hb4) (by have := hjl.1; unfold maxLen; omega)
  obtain ⟨x0, x1, x2, x3, x4, x5⟩ := cellsEB h34.x
  clear h3 cN c0 c2 ho4
  obtain ⟨Bq, hBq⟩ : ∃ Bq, Hid (decide (jn (stR md) = x.d) = Bq) := ⟨_, rfl⟩
  rw [hBq.out] at cE
  go_wp2_with fail
  refine cE.mono ?_
  rintro e w5 ⟨rfl, hb5⟩
  have h35 := h34.below hb5
  have hB5 := chain hB4 hb5
  have hs5 := hb5.size
  clear x0 x1 x2 x3 x4 x5 cE c1 h34 hB4 hb4 hb5 hA
  cases Bq with
  | true =>
    have e : R = (⟨c, b, mr, t, s, q.map EdW.cp⟩, 0) := by rw [HR.out, conE]; simp only; rw [if_pos (of_decide_eq_true hBq.out)]
    clear HR hBq
    have hgB : w.heap.size < w5.heap.size := by omega
    have hwg : w.heap.size ≤ w.heap.size := Nat.le_refl _
    have cW := fun W (h : Below w.heap.size w W) => waiting_any _ q W (htl0.below h) (by omega) hF
    generalize q.map EdW.cp = LQ at *
    subst e
    go_upto_region 4 with fail
    refine mono.region_monoS (fun W W' => World.grownBy W W' (some w.heap.size)) (gb_refl w.heap.size) (fun _ _ _ => gb_trans) (phCf w.heap.size w5.heap.size g off q.length cp ao t mr LQ) (BxF w w5.heap.size c b s mr t ⟨mk, mb, mc, ms, mr, my, md⟩ (.slice au md.length ku) (.slice (some ⟨g, off, none⟩) (q.length + 1) cp) LQ) 36 [] [0, 1, 2, 3, 4, 5, 6, 7, 8, 9, 10, 11, 12, 13, 14] (by kernel_rfl) rfl rfl (by kernel_rfl) [] (by kernel_rfl) (by simp) (phCf_stays hgB) (⟨hB5.drew, Nat.le_refl _, h35.y, h35.z, r, _, h35.x, (fun e => by cases e), (fun _ => rfl), (fun e => by cases e)⟩) (.cons ?_ (.cons ?_ (.cons ?_ (.cons ?_ (.cons ?_ (.cons ?_ (.cons ?_ (.cons ?_ (.cons ?_ (.cons ?_ (.cons ?_ (.cons ?_ (.cons ?_ (.cons ?_ (.cons ?_ (.nil)))))))))))))))) ?_
    · refine mono.dutyS_of rfl ?_
      intro f W L hR hO hD hL hi hX K hK
      have eL : mono.lit 36 f [] = ⟨#[f 0, f 1, f 2, f 3, f 4, f 5, f 6, f 7, f 8, f 9, f 10, f 11, f 12, f 13, f 14, f 15, f 16, f 17, f 18, f 19, f 20, f 21, f 22, f 23, f 24, f 25, f 26, f 27, f 28, f 29, f 30, f 31, f 32, f 33, f 34, f 35], []⟩ := rfl
      replace hK : ∀ v W', (fun W W' => World.grownBy W W' (some w.heap.size)) W W' → phCf w.heap.size w5.heap.size g off q.length cp ao t mr LQ 0 v W' → BxF w w5.heap.size c b s mr t ⟨mk, mb, mc, ms, mr, my, md⟩ (.slice au md.length ku) (.slice (some ⟨g, off, none⟩) (q.length + 1) cp) LQ (fun j => if j = 0 then true else L j) W' → K ((mono.lit 36 f []).put (some 23) v) W' := hK
      rw [eL] at hK ⊢
      simp only [Act.put, List.setIfInBounds_toArray, List.set_cons_succ, List.set_cons_zero] at hK
      have o2 : f 2 = (.pointer (some ⟨w.heap.size, 0, none⟩)) := hO 2 (by kernel_rfl)
      rw [o2] at hK ⊢
      go_simp
      exact hK _ _ (gb_refl _ _) rfl (hX.step (by decide) (by decide) (by decide) (Below.refl _ _))
    · refine mono.dutyS_of rfl ?_
      intro f W L hR hO hD hL hi hX K hK
      have eL : mono.lit 36 f [] = ⟨#[f 0, f 1, f 2, f 3, f 4, f 5, f 6, f 7, f 8, f 9, f 10, f 11, f 12, f 13, f 14, f 15, f 16, f 17, f 18, f 19, f 20, f 21, f 22, f 23, f 24, f 25, f 26, f 27, f 28, f 29, f 30, f 31, f 32, f 33, f 34, f 35], []⟩ := rfl
      replace hK : ∀ v W', (fun W W' => World.grownBy W W' (some w.heap.size)) W W' → phCf w.heap.size w5.heap.size g off q.length cp ao t mr LQ 1 v W' → BxF w w5.heap.size c b s mr t ⟨mk, mb, mc, ms, mr, my, md⟩ (.slice au md.length ku) (.slice (some ⟨g, off, none⟩) (q.length + 1) cp) LQ (fun j => if j = 1 then true else L j) W' → K ((mono.lit 36 f []).put (some 24) v) W' := hK
      rw [eL] at hK ⊢
      simp only [Act.put, List.setIfInBounds_toArray, List.set_cons_succ, List.set_cons_zero] at hK
      have q0 := hD 0 23 (by kernel_rfl) (by kernel_rfl)
      replace q0 : f 23 = (.pointer (some ⟨w.heap.size, 3, none⟩)) := q0
      rw [q0] at hK ⊢
      obtain ⟨rr, vv, hE, -, -, -⟩ := hX.e
      obtain ⟨x0, x1, x2, x3, x4, x5⟩ := cellsEB hE
      go_simp
      exact hK _ _ (gb_refl _ _) rfl (hX.step (by decide) (by decide) (by decide) (Below.refl _ _))
    · refine mono.dutyS_of rfl ?_
      intro f W L hR hO hD hL hi hX K hK
      have eL : mono.lit 36 f [] = ⟨#[f 0, f 1, f 2, f 3, f 4, f 5, f 6, f 7, f 8, f 9, f 10, f 11, f 12, f 13, f 14, f 15, f 16, f 17, f 18, f 19, f 20, f 21, f 22, f 23, f 24, f 25, f 26, f 27, f 28, f 29, f 30, f 31, f 32, f 33, f 34, f 35], []⟩ := rfl
      replace hK : ∀ v W', (fun W W' => World.grownBy W W' (some w.heap.size)) W W' → phCf w.heap.size w5.heap.size g off q.length cp ao t mr LQ 2 v W' → BxF w w5.heap.size c b s mr t ⟨mk, mb, mc, ms, mr, my, md⟩ (.slice au md.length ku) (.slice (some ⟨g, off, none⟩) (q.length + 1) cp) LQ (fun j => if j = 2 then true else L j) W' → K ((mono.lit 36 f []).put (some 25) v) W' := hK
      rw [eL] at hK ⊢
      simp only [Act.put, List.setIfInBounds_toArray, List.set_cons_succ, List.set_cons_zero] at hK
      have q1 := hD 1 24 (by kernel_rfl) (by kernel_rfl)
      replace q1 : f 24 = (.string t) := q1
      rw [q1] at hK ⊢
      have cX := clone_all t W ht
      go_simp
      refine cX.mono ?_
      rintro e w9 ⟨rfl, hb⟩
      exact hK _ _ (gb_below hb) rfl (hX.step (by decide) (by decide) (by decide) hb)
    · refine mono.dutyS_of rfl ?_
      intro f W L hR hO hD hL hi hX K hK
      have eL : mono.lit 36 f [] = ⟨#[f 0, f 1, f 2, f 3, f 4, f 5, f 6, f 7, f 8, f 9, f 10, f 11, f 12, f 13, f 14, f 15, f 16, f 17, f 18, f 19, f 20, f 21, f 22, f 23, f 24, f 25, f 26, f 27, f 28, f 29, f 30, f 31, f 32, f 33, f 34, f 35], []⟩ := rfl
      replace hK : ∀ v W', (fun W W' => World.grownBy W W' (some w.heap.size)) W W' → phCf w.heap.size w5.heap.size g off q.length cp ao t mr LQ 3 v W' → BxF w w5.heap.size c b s mr t ⟨mk, mb, mc, ms, mr, my, md⟩ (.slice au md.length ku) (.slice (some ⟨g, off, none⟩) (q.length + 1) cp) LQ (fun j => if j = 3 then true else L j) W' → K ((mono.lit 36 f []).put (some 26) v) W' := hK
      rw [eL] at hK ⊢
      simp only [Act.put, List.setIfInBounds_toArray, List.set_cons_succ, List.set_cons_zero] at hK
      have o3 : f 3 = (.pointer (some ⟨w.heap.size + 1, 0, none⟩)) := hO 3 (by kernel_rfl)
      rw [o3] at hK ⊢
      go_simp
      exact hK _ _ (gb_refl _ _) rfl (hX.step (by decide) (by decide) (by decide) (Below.refl _ _))
    · refine mono.dutyS_of rfl ?_
      intro f W L hR hO hD hL hi hX K hK
      have eL : mono.lit 36 f [] = ⟨#[f 0, f 1, f 2, f 3, f 4, f 5, f 6, f 7, f 8, f 9, f 10, f 11, f 12, f 13, f 14, f 15, f 16, f 17, f 18, f 19, f 20, f 21, f 22, f 23, f 24, f 25, f 26, f 27, f 28, f 29, f 30, f 31, f 32, f 33, f 34, f 35], []⟩ := rfl
      replace hK : ∀ v W', (fun W W' => World.grownBy W W' (some w.heap.size)) W W' → phCf w.heap.size w5.heap.size g off q.length cp ao t mr LQ 4 v W' → BxF w w5.heap.size c b s mr t ⟨mk, mb, mc, ms, mr, my, md⟩ (.slice au md.length ku) (.slice (some ⟨g, off, none⟩) (q.length + 1) cp) LQ (fun j => if j = 4 then true else L j) W' → K ((mono.lit 36 f []).put (some 27) v) W' := hK
      rw [eL] at hK ⊢
      simp only [Act.put, List.setIfInBounds_toArray, List.set_cons_succ, List.set_cons_zero] at hK
      have q3 := hD 3 26 (by kernel_rfl) (by kernel_rfl)
      replace q3 : f 26 = (.pointer (some ⟨w.heap.size + 1, 4, none⟩)) := q3
      rw [q3] at hK ⊢
      have z4 := (cellsMB hX.m).2.2.2.2.1
      go_simp
      exact hK _ _ (gb_refl _ _) rfl (hX.step (by decide) (by decide) (by decide) (Below.refl _ _))
    · refine mono.dutyS_of rfl ?_
      intro f W L hR hO hD hL hi hX K hK
      have eL : mono.lit 36 f [] = ⟨#[f 0, f 1, f 2, f 3, f 4, f 5, f 6, f 7, f 8, f 9, f 10, f 11, f 12, f 13, f 14, f 15, f 16, f 17, f 18, f 19, f 20, f 21, f 22, f 23, f 24, f 25, f 26, f 27, f 28, f 29, f 30, f 31, f 32, f 33, f 34, f 35], []⟩ := rfl
      replace hK : ∀ v W', (fun W W' => World.grownBy W W' (some w.heap.size)) W W' → phCf w.heap.size w5.heap.size g off q.length cp ao t mr LQ 5 v W' → BxF w w5.heap.size c b s mr t ⟨mk, mb, mc, ms, mr, my, md⟩ (.slice au md.length ku) (.slice (some ⟨g, off, none⟩) (q.length + 1) cp) LQ (fun j => if j = 5 then true else L j) W' → K ((mono.lit 36 f []).put (some 28) v) W' := hK
      rw [eL] at hK ⊢
      simp only [Act.put, List.setIfInBounds_toArray, List.set_cons_succ, List.set_cons_zero] at hK
      have o2 : f 2 = (.pointer (some ⟨w.heap.size, 0, none⟩)) := hO 2 (by kernel_rfl)
      rw [o2] at hK ⊢
      go_simp
      exact hK _ _ (gb_refl _ _) rfl (hX.step (by decide) (by decide) (by decide) (Below.refl _ _))
    · refine mono.dutyS_of rfl ?_
      intro f W L hR hO hD hL hi hX K hK
      have eL : mono.lit 36 f [] = ⟨#[f 0, f 1, f 2, f 3, f 4, f 5, f 6, f 7, f 8, f 9, f 10, f 11, f 12, f 13, f 14, f 15, f 16, f 17, f 18, f 19, f 20, f 21, f 22, f 23, f 24, f 25, f 26, f 27, f 28, f 29, f 30, f 31, f 32, f 33, f 34, f 35], []⟩ := rfl
      replace hK : ∀ v W', (fun W W' => World.grownBy W W' (some w.heap.size)) W W' → phCf w.heap.size w5.heap.size g off q.length cp ao t mr LQ 6 v W' → BxF w w5.heap.size c b s mr t ⟨mk, mb, mc, ms, mr, my, md⟩ (.slice au md.length ku) (.slice (some ⟨g, off, none⟩) (q.length + 1) cp) LQ (fun j => if j = 6 then true else L j) W' → K ((mono.lit 36 f []).put (some 29) v) W' := hK
      rw [eL] at hK ⊢
      simp only [Act.put, List.setIfInBounds_toArray, List.set_cons_succ, List.set_cons_zero] at hK
      have q5 := hD 5 28 (by kernel_rfl) (by kernel_rfl)
      replace q5 : f 28 = (.pointer (some ⟨w.heap.size, 5, none⟩)) := q5
      rw [q5] at hK ⊢
      have x5 := hX.old6 hi
      go_simp
      exact hK _ _ (gb_refl _ _) rfl (hX.step (by decide) (by decide) (by decide) (Below.refl _ _))
    · refine mono.dutyS_of rfl ?_
      intro f W L hR hO hD hL hi hX K hK
      have eL : mono.lit 36 f [] = ⟨#[f 0, f 1, f 2, f 3, f 4, f 5, f 6, f 7, f 8, f 9, f 10, f 11, f 12, f 13, f 14, f 15, f 16, f 17, f 18, f 19, f 20, f 21, f 22, f 23, f 24, f 25, f 26, f 27, f 28, f 29, f 30, f 31, f 32, f 33, f 34, f 35], []⟩ := rfl
      replace hK : ∀ v W', (fun W W' => World.grownBy W W' (some w.heap.size)) W W' → phCf w.heap.size w5.heap.size g off q.length cp ao t mr LQ 7 v W' → BxF w w5.heap.size c b s mr t ⟨mk, mb, mc, ms, mr, my, md⟩ (.slice au md.length ku) (.slice (some ⟨g, off, none⟩) (q.length + 1) cp) LQ (fun j => if j = 7 then true else L j) W' → K ((mono.lit 36 f []).put (some 30) v) W' := hK
      rw [eL] at hK ⊢
      simp only [Act.put, List.setIfInBounds_toArray, List.set_cons_succ, List.set_cons_zero] at hK
      have q6 := hD 6 29 (by kernel_rfl) (by kernel_rfl)
      replace q6 : f 29 = (.slice (some ⟨g, off, none⟩) (q.length + 1) cp) := q6
      rw [q6] at hK ⊢
      go_simp
      exact hK _ _ (gb_refl _ _) rfl (hX.step (by decide) (by decide) (by decide) (Below.refl _ _))
    · refine mono.dutyS_of rfl ?_
      intro f W L hR hO hD hL hi hX K hK
      have eL : mono.lit 36 f [] = ⟨#[f 0, f 1, f 2, f 3, f 4, f 5, f 6, f 7, f 8, f 9, f 10, f 11, f 12, f 13, f 14, f 15, f 16, f 17, f 18, f 19, f 20, f 21, f 22, f 23, f 24, f 25, f 26, f 27, f 28, f 29, f 30, f 31, f 32, f 33, f 34, f 35], []⟩ := rfl
      replace hK : ∀ v W', (fun W W' => World.grownBy W W' (some w.heap.size)) W W' → phCf w.heap.size w5.heap.size g off q.length cp ao t mr LQ 8 v W' → BxF w w5.heap.size c b s mr t ⟨mk, mb, mc, ms, mr, my, md⟩ (.slice au md.length ku) (.slice (some ⟨g, off, none⟩) (q.length + 1) cp) LQ (fun j => if j = 8 then true else L j) W' → K ((mono.lit 36 f []).put (some 31) v) W' := hK
      rw [eL] at hK ⊢
      simp only [Act.put, List.setIfInBounds_toArray, List.set_cons_succ, List.set_cons_zero] at hK
      have q7 := hD 7 30 (by kernel_rfl) (by kernel_rfl)
      replace q7 : f 30 = (.slice ao q.length (cp - 1)) := q7
      rw [q7] at hK ⊢
      have cX := cW W hX.bel
      go_simp
      refine cX.mono ?_
      rintro e w9 ⟨u9, us, rfl, ho, hb⟩
      obtain ⟨a9, k9, rfl⟩ := own_form ho.row
      exact hK _ _ (gb_below hb) ⟨_, _, us, rfl, ho.lower hX.sz⟩ (hX.step (by decide) (by decide) (by decide) hb)
    · refine mono.dutyS_of rfl ?_
      intro f W L hR hO hD hL hi hX K hK
      have eL : mono.lit 36 f [] = ⟨#[f 0, f 1, f 2, f 3, f 4, f 5, f 6, f 7, f 8, f 9, f 10, f 11, f 12, f 13, f 14, f 15, f 16, f 17, f 18, f 19, f 20, f 21, f 22, f 23, f 24, f 25, f 26, f 27, f 28, f 29, f 30, f 31, f 32, f 33, f 34, f 35], []⟩ := rfl
      replace hK : ∀ v W', (fun W W' => World.grownBy W W' (some w.heap.size)) W W' → phCf w.heap.size w5.heap.size g off q.length cp ao t mr LQ 9 v W' → BxF w w5.heap.size c b s mr t ⟨mk, mb, mc, ms, mr, my, md⟩ (.slice au md.length ku) (.slice (some ⟨g, off, none⟩) (q.length + 1) cp) LQ (fun j => if j = 9 then true else L j) W' → K ((mono.lit 36 f []).put (some 32) v) W' := hK
      rw [eL] at hK ⊢
      simp only [Act.put, List.setIfInBounds_toArray, List.set_cons_succ, List.set_cons_zero] at hK
      have o2 : f 2 = (.pointer (some ⟨w.heap.size, 0, none⟩)) := hO 2 (by kernel_rfl)
      rw [o2] at hK ⊢
      go_simp
      exact hK _ _ (gb_refl _ _) rfl (hX.step (by decide) (by decide) (by decide) (Below.refl _ _))
    · refine mono.dutyS_of rfl ?_
      intro f W L hR hO hD hL hi hX K hK
      have eL : mono.lit 36 f [] = ⟨#[f 0, f 1, f 2, f 3, f 4, f 5, f 6, f 7, f 8, f 9, f 10, f 11, f 12, f 13, f 14, f 15, f 16, f 17, f 18, f 19, f 20, f 21, f 22, f 23, f 24, f 25, f 26, f 27, f 28, f 29, f 30, f 31, f 32, f 33, f 34, f 35], []⟩ := rfl
      replace hK : ∀ v W', (fun W W' => World.grownBy W W' (some w.heap.size)) W W' → phCf w.heap.size w5.heap.size g off q.length cp ao t mr LQ 10 v W' → BxF w w5.heap.size c b s mr t ⟨mk, mb, mc, ms, mr, my, md⟩ (.slice au md.length ku) (.slice (some ⟨g, off, none⟩) (q.length + 1) cp) LQ (fun j => if j = 10 then true else L j) W' → K ((mono.lit 36 f []).put none v) W' := hK
      rw [eL] at hK ⊢
      simp only [Act.put] at hK
      have q2 := hD 2 25 (by kernel_rfl) (by kernel_rfl)
      replace q2 : f 25 = (.string t) := q2
      have q9 := hD 9 32 (by kernel_rfl) (by kernel_rfl)
      replace q9 : f 32 = (.pointer (some ⟨w.heap.size, 3, none⟩)) := q9
      rw [q2, q9] at hK ⊢
      obtain ⟨rr, vv, hE, -, -, -⟩ := hX.e
      obtain ⟨x0, x1, x2, x3, x4, x5⟩ := cellsEB hE
      obtain ⟨f0, f1, f2, f3, f4, f5⟩ := EB.frz hE
      go_simp
      exact hK undef _ (grown_set _ _ _ _) trivial (hX.sto3 hgB hwg)
    · refine mono.dutyS_of rfl ?_
      intro f W L hR hO hD hL hi hX K hK
      have eL : mono.lit 36 f [] = ⟨#[f 0, f 1, f 2, f 3, f 4, f 5, f 6, f 7, f 8, f 9, f 10, f 11, f 12, f 13, f 14, f 15, f 16, f 17, f 18, f 19, f 20, f 21, f 22, f 23, f 24, f 25, f 26, f 27, f 28, f 29, f 30, f 31, f 32, f 33, f 34, f 35], []⟩ := rfl
      replace hK : ∀ v W', (fun W W' => World.grownBy W W' (some w.heap.size)) W W' → phCf w.heap.size w5.heap.size g off q.length cp ao t mr LQ 11 v W' → BxF w w5.heap.size c b s mr t ⟨mk, mb, mc, ms, mr, my, md⟩ (.slice au md.length ku) (.slice (some ⟨g, off, none⟩) (q.length + 1) cp) LQ (fun j => if j = 11 then true else L j) W' → K ((mono.lit 36 f []).put (some 33) v) W' := hK
      rw [eL] at hK ⊢
      simp only [Act.put, List.setIfInBounds_toArray, List.set_cons_succ, List.set_cons_zero] at hK
      have o2 : f 2 = (.pointer (some ⟨w.heap.size, 0, none⟩)) := hO 2 (by kernel_rfl)
      rw [o2] at hK ⊢
      go_simp
      exact hK _ _ (gb_refl _ _) rfl (hX.step (by decide) (by decide) (by decide) (Below.refl _ _))
    · refine mono.dutyS_of rfl ?_
      intro f W L hR hO hD hL hi hX K hK
      have eL : mono.lit 36 f [] = ⟨#[f 0, f 1, f 2, f 3, f 4, f 5, f 6, f 7, f 8, f 9, f 10, f 11, f 12, f 13, f 14, f 15, f 16, f 17, f 18, f 19, f 20, f 21, f 22, f 23, f 24, f 25, f 26, f 27, f 28, f 29, f 30, f 31, f 32, f 33, f 34, f 35], []⟩ := rfl
      replace hK : ∀ v W', (fun W W' => World.grownBy W W' (some w.heap.size)) W W' → phCf w.heap.size w5.heap.size g off q.length cp ao t mr LQ 12 v W' → BxF w w5.heap.size c b s mr t ⟨mk, mb, mc, ms, mr, my, md⟩ (.slice au md.length ku) (.slice (some ⟨g, off, none⟩) (q.length + 1) cp) LQ (fun j => if j = 12 then true else L j) W' → K ((mono.lit 36 f []).put none v) W' := hK
      rw [eL] at hK ⊢
      simp only [Act.put] at hK
      have q4 := hD 4 27 (by kernel_rfl) (by kernel_rfl)
      replace q4 : f 27 = (.int .i64 mr) := q4
      have q11 := hD 11 33 (by kernel_rfl) (by kernel_rfl)
      replace q11 : f 33 = (.pointer (some ⟨w.heap.size, 2, none⟩)) := q11
      rw [q4, q11] at hK ⊢
      obtain ⟨rr, vv, hE, -, -, -⟩ := hX.e
      obtain ⟨x0, x1, x2, x3, x4, x5⟩ := cellsEB hE
      obtain ⟨f0, f1, f2, f3, f4, f5⟩ := EB.frz hE
      go_simp
      exact hK undef _ (grown_set _ _ _ _) trivial (hX.sto2 hgB hwg)
    · refine mono.dutyS_of rfl ?_
      intro f W L hR hO hD hL hi hX K hK
      have eL : mono.lit 36 f [] = ⟨#[f 0, f 1, f 2, f 3, f 4, f 5, f 6, f 7, f 8, f 9, f 10, f 11, f 12, f 13, f 14, f 15, f 16, f 17, f 18, f 19, f 20, f 21, f 22, f 23, f 24, f 25, f 26, f 27, f 28, f 29, f 30, f 31, f 32, f 33, f 34, f 35], []⟩ := rfl
      replace hK : ∀ v W', (fun W W' => World.grownBy W W' (some w.heap.size)) W W' → phCf w.heap.size w5.heap.size g off q.length cp ao t mr LQ 13 v W' → BxF w w5.heap.size c b s mr t ⟨mk, mb, mc, ms, mr, my, md⟩ (.slice au md.length ku) (.slice (some ⟨g, off, none⟩) (q.length + 1) cp) LQ (fun j => if j = 13 then true else L j) W' → K ((mono.lit 36 f []).put (some 34) v) W' := hK
      rw [eL] at hK ⊢
      simp only [Act.put, List.setIfInBounds_toArray, List.set_cons_succ, List.set_cons_zero] at hK
      have o2 : f 2 = (.pointer (some ⟨w.heap.size, 0, none⟩)) := hO 2 (by kernel_rfl)
      rw [o2] at hK ⊢
      go_simp
      exact hK _ _ (gb_refl _ _) rfl (hX.step (by decide) (by decide) (by decide) (Below.refl _ _))
    · refine mono.dutyS_of rfl ?_
      intro f W L hR hO hD hL hi hX K hK
      have eL : mono.lit 36 f [] = ⟨#[f 0, f 1, f 2, f 3, f 4, f 5, f 6, f 7, f 8, f 9, f 10, f 11, f 12, f 13, f 14, f 15, f 16, f 17, f 18, f 19, f 20, f 21, f 22, f 23, f 24, f 25, f 26, f 27, f 28, f 29, f 30, f 31, f 32, f 33, f 34, f 35], []⟩ := rfl
      replace hK : ∀ v W', (fun W W' => World.grownBy W W' (some w.heap.size)) W W' → phCf w.heap.size w5.heap.size g off q.length cp ao t mr LQ 14 v W' → BxF w w5.heap.size c b s mr t ⟨mk, mb, mc, ms, mr, my, md⟩ (.slice au md.length ku) (.slice (some ⟨g, off, none⟩) (q.length + 1) cp) LQ (fun j => if j = 14 then true else L j) W' → K ((mono.lit 36 f []).put none v) W' := hK
      rw [eL] at hK ⊢
      simp only [Act.put] at hK
      have q8 := hD 8 31 (by kernel_rfl) (by kernel_rfl)
      obtain ⟨a8, k8, us8, e8, o8⟩ := q8
      have q13 := hD 13 34 (by kernel_rfl) (by kernel_rfl)
      replace q13 : f 34 = (.pointer (some ⟨w.heap.size, 5, none⟩)) := q13
      rw [e8, q13] at hK ⊢
      obtain ⟨rr, vv, hE, -, -, -⟩ := hX.e
      obtain ⟨x0, x1, x2, x3, x4, x5⟩ := cellsEB hE
      obtain ⟨f0, f1, f2, f3, f4, f5⟩ := EB.frz hE
      go_simp
      exact hK undef _ (grown_set _ _ _ _) trivial (hX.sto5 hgB hwg (hL 6 (by kernel_rfl)) o8)
    · intro f W L hR hO hD hL hX
      have r0 := hO 0 (by kernel_rfl)
      have r1 := hO 1 (by kernel_rfl)
      have r2 := hO 2 (by kernel_rfl)
      have r3 := hO 3 (by kernel_rfl)
      have r4 := hO 4 (by kernel_rfl)
      have r5 := hO 5 (by kernel_rfl)
      have r6 := hO 6 (by kernel_rfl)
      have r7 := hO 7 (by kernel_rfl)
      have r8 := hO 8 (by kernel_rfl)
      have r9 := hO 9 (by kernel_rfl)
      have r10 := hO 10 (by kernel_rfl)
      have r11 := hO 11 (by kernel_rfl)
      have r12 := hO 12 (by kernel_rfl)
      have r13 := hO 13 (by kernel_rfl)
      have r14 := hO 14 (by kernel_rfl)
      have r15 := hO 15 (by kernel_rfl)
      have r16 := hO 16 (by kernel_rfl)
      have r17 := hO 17 (by kernel_rfl)
      have r18 := hO 18 (by kernel_rfl)
      have r19 := hO 19 (by kernel_rfl)
      have r20 := hO 20 (by kernel_rfl)
      have r21 := hO 21 (by kernel_rfl)
      have r22 := hO 22 (by kernel_rfl)
      have r35 := hO 35 (by kernel_rfl)
      have eL : mono.lit 36 f [] = ⟨#[f 0, f 1, f 2, f 3, f 4, f 5, f 6, f 7, f 8, f 9, f 10, f 11, f 12, f 13, f 14, f 15, f 16, f 17, f 18, f 19, f 20, f 21, f 22, f 23, f 24, f 25, f 26, f 27, f 28, f 29, f 30, f 31, f 32, f 33, f 34, f 35], []⟩ := rfl
      rw [eL, r0, r1, r2, r3, r4, r5, r6, r7, r8, r9, r10, r11, r12, r13, r14, r15, r16, r17, r18, r19, r20, r21, r22, r35]
      obtain ⟨rr, vv, hE, e1, -, e3⟩ := hX.e
      obtain rfl := e1 (hL 12 (by decide))
      obtain ⟨-, a6, k6, us, rfl, ho6⟩ := e3 (hL 14 (by decide))
      have hz6 := hX.z
      have hB6 := hX.bel
      obtain ⟨x0, x1, x2, x3, x4, x5⟩ := cellsEB hE
      obtain ⟨e0, e1, e2, e3, e4, e5⟩ := cellsEB hz6
      obtain ⟨f0, f1, f2, f3, f4, f5⟩ := EB.frz hz6
      clear hX hR hO hD hL
      go_wp2_with fail
      have hfin := hz6.put ⟨c, b, rr, t, s, LQ⟩ (.slice a6 LQ.length k6)
      refine bodyPost_ret (results_row_tmpC rfl _ _ (w.heap.size + 1 + 1) 26 _ (0, 0) _ rfl hfin Tryd.underlying26 rfl Tryd.sizeEr) rfl ?_
      refine ⟨_, rfl, ⟨us, ?_⟩, below_putE hB6 (by omega) ⟨c, b, rr, t, s, LQ⟩ _⟩
      refine OwEd.lower (B := w5.heap.size) ?_ (by omega)
      exact (((((ho6.set (a := ⟨w.heap.size + 1 + 1, 0, none⟩) (by simp only; omega) _).set (a := ⟨w.heap.size + 1 + 1, 1, none⟩) (by simp only; omega) _).set (a := ⟨w.heap.size + 1 + 1, 2, none⟩) (by simp only; omega) _).set (a := ⟨w.heap.size + 1 + 1, 3, none⟩) (by simp only; omega) _).set (a := ⟨w.heap.size + 1 + 1, 4, none⟩) (by simp only; omega) _).set (a := ⟨w.heap.size + 1 + 1, 5, none⟩) (by simp only; omega) _
  | false =>
    have e : R = (zeroE, 200) := by rw [HR.out, conE]; simp only; rw [if_neg (of_decide_eq_false hBq.out)]
    clear hBq
    subst e
    obtain ⟨e0, e1, e2, e3, e4, e5⟩ := cellsEB h35.z
    obtain ⟨f0, f1, f2, f3, f4, f5⟩ := EB.frz h35.z
    clear HR
    go_wp2_with fail
    have hfin := h35.z.put zeroE (.slice none 0 0)
    refine bodyPost_ret (results_row_tmpC rfl _ _ (w.heap.size + 1 + 1) 26 _ (0, 0) _ rfl hfin Tryd.underlying26 rfl Tryd.sizeEr) rfl ?_
    exact ⟨_, rfl, ⟨_, OwEd.nil _ _⟩, below_putE hB5 (by omega) zeroE (.slice none 0 0)⟩
end Go.Proofs.YtcdnlkhjlgaaoaaDoor

/-
  Next, whole.
-/
namespace Go.Proofs.YtcdnlkhjlgaaoaaDoor
open Go.ChangeShapes Go.WideShapes Go.ChangeAt Go.RowKit Go.PlainAid

theorem conf_any (E : EdD) (m : MsD) (v u : Value) (w : World) (hr : RdEd w v E.p) (hd : RdD w u m.d) (hF : E.Fit) (hp8 : E.p.length ≤ 8) (ht : E.t.size ≤ 1125899906842) (hdl : m.d.length ≤ maxLen) (hdi : ∀ o ∈ m.d, o.In) (ho : ownC E m = true) :
    Calls Tryd.prog 38 #[.agg (E.fs v), .agg (m.fs u)] w fun e w' => ∃ v' us, e = .returned (.tuple #[.agg ((conE E m).1.fs v'), .int .i64 (conE E m).2]) ∧ OwEd w' w.heap.size v' (conE E m).1.p us ∧ Below w.heap.size w w' := by
  obtain ⟨c, b, r, t, s, p⟩ := E
  obtain ⟨mk, mb, mc, ms, mr, my, md⟩ := m
  cases p with
  | nil => cases ho
  | cons x q => exact confirmed_any c b r s mk mb mc ms mr my t x q md v u w hr hd (by simp at hp8; omega) (fun e he => hF.pf e (by simp [he])) ht hdl hdi
set_option maxRecDepth 20000 in
set_option maxHeartbeats 2000000 in
theorem next_own (E : EdD) (m : MsD) (v u : Value) (w : World) (hr : RdEd w v E.p) (hd : RdD w u m.d) (hV : VS w) (hF : E.Fit) (hdl : m.d.length ≤ maxLen) (hdi : ∀ o ∈ m.d, o.In) (hm : mayE E = true) (hc : fitC E m = 0) (ho : ownC E m = true) (R : EdD × Int) (hR : conE E m = R) :
    Calls Tryd.prog 15 #[.agg (E.fs v), .agg (m.fs u)] w fun e w' => ∃ v' us, e = .returned (.tuple #[.agg (R.1.fs v'), .int .i64 R.2]) ∧ OwEd w' w.heap.size v' R.1.p us ∧ Below w.heap.size w w' := by
  have h3 := l3_new w E m v u
  have hA := bel3 w (.cells (E.fs v) 26) (.cells (m.fs u) 38) (.cells (zeroE.fs (.slice none 0 0)) 26)
  have hsz : (((w.alloc (.cells (E.fs v) 26)).alloc (.cells (m.fs u) 38)).alloc (.cells (zeroE.fs (.slice none 0 0)) 26)).heap.size = w.heap.size + 3 := by simp
  obtain ⟨au, ku, rfl⟩ := rdd_len hd
  obtain ⟨av, kv, rfl⟩ := rded_len hr
  have cM := fun W (h : Below w.heap.size w W) => mayBe_any E _ W (hr.below h) (hV.below h) hF
  have cF := fun W (h : Below w.heap.size w W) => fits_any E m _ _ W (hr.below h) (hd.below h) (hV.below h) hF hdl hdi ((may_iff E).1 hm).r0 ((may_iff E).1 hm).r1
  rw [hm] at cM
  have cO := fun W (h : Below w.heap.size w W) => isOwn_any E m _ _ W (hr.below h) (hd.below h) hF.pl
  have cX := fun W (h : Below w.heap.size w W) => conf_any E m _ _ W (hr.below h) (hd.below h) hF ((may_iff E).1 hm).p8 (by have := size_smallL ((may_iff E).1 hm).t0 ((may_iff E).1 hm).t1; omega) hdl hdi ho
  rw [hc] at cF
  rw [ho] at cO
  rw [hR] at cX
  clear hR
  simp only [EdD.fs, MsD.fs] at *
  generalize hw3 : ((w.alloc (.cells #[.int .i64 E.c, .int .i64 E.b, .int .i64 E.r, .string E.t, .int .i64 E.s, .slice av E.p.length kv] 26)).alloc (.cells #[.int .i64 m.k, .int .i64 m.b, .int .i64 m.c, .int .i64 m.s, .int .i64 m.r, .int .i64 m.y, .slice au m.d.length ku] 38)).alloc (.cells #[.int .i64 zeroE.c, .int .i64 zeroE.b, .int .i64 zeroE.r, .string zeroE.t, .int .i64 zeroE.s, .slice none 0 0] 26) = w3 at *
  obtain ⟨x0, x1, x2, x3, x4, x5⟩ := cellsEB h3.x
  rw [← hw3] at x0 x1 x2 x3 x4 x5
  simp only [zeroE] at x0 x1 x2 x3 x4 x5
  go_enter Tryd.func15, Tryd.ntmps15
  go_wp2_with fail
  clear x0 x1 x2 x3 x4 x5
  simp only [zeroE] at hw3
  rw [hw3]
  clear hw3
  refine (cM _ hA).mono ?_
  rintro e w4 ⟨rfl, hb4⟩
  have h34 := h3.below hb4
  have hB4 := chain hA hb4
  have hs4 := hb4.size
  clear cM h3 hb4
  obtain ⟨x0, x1, x2, x3, x4, x5⟩ := cellsEB h34.x
  obtain ⟨z0, z1, z2, z3, z4, z5, z6⟩ := cellsMB h34.y
  go_wp2_with fail
  refine (cF _ hB4).mono ?_
  rintro e w5 ⟨rfl, hb5⟩
  have h35 := h34.below hb5
  have hB5 := chain hB4 hb5
  have hs5 := hb5.size
  clear x0 x1 x2 x3 x4 x5 z0 z1 z2 z3 z4 z5 z6 cF h34 hB4 hb5
  obtain ⟨x0, x1, x2, x3, x4, x5⟩ := cellsEB h35.x
  obtain ⟨z0, z1, z2, z3, z4, z5, z6⟩ := cellsMB h35.y
  go_wp2_with fail
  refine (cO _ hB5).mono ?_
  rintro e w6 ⟨rfl, hb6⟩
  have h36 := h35.below hb6
  have hB6 := chain hB5 hb6
  have hs6 := hb6.size
  clear x0 x1 x2 x3 x4 x5 z0 z1 z2 z3 z4 z5 z6 cO h35 hB5 hb6
  obtain ⟨x0, x1, x2, x3, x4, x5⟩ := cellsEB h36.x
  obtain ⟨z0, z1, z2, z3, z4, z5, z6⟩ := cellsMB h36.y
  go_wp2_with fail
  refine (cX _ hB6).mono ?_
  rintro e w7 ⟨v7, us, rfl, ho7, hb7⟩
  have h37 := h36.below hb7
  have hB7 := chain hB6 hb7
  have hs7 := hb7.size
  obtain ⟨a7, k7, rfl⟩ := own_form ho7.row
  clear x0 x1 x2 x3 x4 x5 z0 z1 z2 z3 z4 z5 z6 cX h36 hB6 hb7
  obtain ⟨e0, e1, e2, e3, e4, e5⟩ := cellsEB h37.z
  obtain ⟨f0, f1, f2, f3, f4, f5⟩ := EB.frz h37.z
  go_wp2_with fail
  have hfin := h37.z.put R.1 (.slice a7 R.1.p.length k7)
  refine bodyPost_ret (results_row_tmpC rfl _ _ (w.heap.size + 1 + 1) 26 _ (0, 0) _ rfl hfin Tryd.underlying26 rfl Tryd.sizeEr) rfl ?_
  refine ⟨_, us, rfl, ?_, below_putE hB7 (by omega) R.1 _⟩
  refine OwEd.lower (B := w6.heap.size) ?_ (by omega)
  exact (((((ho7.set (a := ⟨w.heap.size + 1 + 1, 0, none⟩) (by simp only; omega) _).set (a := ⟨w.heap.size + 1 + 1, 1, none⟩) (by simp only; omega) _).set (a := ⟨w.heap.size + 1 + 1, 2, none⟩) (by simp only; omega) _).set (a := ⟨w.heap.size + 1 + 1, 3, none⟩) (by simp only; omega) _).set (a := ⟨w.heap.size + 1 + 1, 4, none⟩) (by simp only; omega) _).set (a := ⟨w.heap.size + 1 + 1, 5, none⟩) (by simp only; omega) _
/-- What Next gives. -/
def nxtE (E : EdD) (m : MsD) : EdD × Int :=
  if mayE E = false then (zeroE, 200) else if fitC E m ≠ 0 then (zeroE, fitC E m) else if ownC E m = true then conE E m else ledE E m
theorem next_all (E : EdD) (m : MsD) (v u : Value) (w : World) (hr : RdEd w v E.p) (hd : RdD w u m.d) (hV : VS w) (hF : E.Fit) (hdl : m.d.length ≤ maxLen) (hdi : ∀ o ∈ m.d, o.In) :
    Calls Tryd.prog 15 #[.agg (E.fs v), .agg (m.fs u)] w fun e w' => ∃ v' us, e = .returned (.tuple #[.agg ((nxtE E m).1.fs v'), .int .i64 (nxtE E m).2]) ∧ OwEd w' w.heap.size v' (nxtE E m).1.p us ∧ Below w.heap.size w w' := by
  unfold nxtE
  by_cases hm : mayE E = false
  · rw [if_pos hm]
    refine (next_form E m v u w hr hd hV hF hdl hdi hm).mono ?_
    rintro e w' ⟨rfl, hb⟩
    exact ⟨_, _, rfl, OwEd.nil _ _, hb⟩
  · rw [if_neg hm]
    have hm' : mayE E = true := by simpa using hm
    by_cases hc : fitC E m ≠ 0
    · rw [if_pos hc]
      refine (next_fits E m v u w hr hd hV hF hdl hdi hm' hc).mono ?_
      rintro e w' ⟨rfl, hb⟩
      exact ⟨_, _, rfl, OwEd.nil _ _, hb⟩
    · rw [if_neg hc]
      have hc' : fitC E m = 0 := Classical.not_not.1 hc
      by_cases ho : ownC E m = true
      · rw [if_pos ho]
        exact next_own E m v u w hr hd hV hF hdl hdi hm' hc' ho _ rfl
      · rw [if_neg ho]
        exact next_led E m v u w hr hd hV hF hdl hdi hm' hc' (by simpa using ho) _ rfl
end Go.Proofs.YtcdnlkhjlgaaoaaDoor
