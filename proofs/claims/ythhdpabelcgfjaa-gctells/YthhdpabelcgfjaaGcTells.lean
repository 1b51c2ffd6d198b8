/-
  Proved: what is needed and what is swept is what the document says, and the swept state lies in memory of its own (the law GcTells), for every input.
-/
import Derived.Test.YthhdpabelcgfjaaGcK
import Derived.Test.YthhdpabelcgfjaaStF
import Derived.Test.YthhdpabelcgfjaaRows
namespace Go.Proofs.Ythhdpabelcgfjaa.gcTells
open Go.Maps Go.ChangeShapes Go.WideShapes Go.ChangeAt Go.RowKit Go.PlainAid

theorem srt_len {cs : List CoD} {bs : List BrD} {L : List Int} (h : SrtNeed cs bs L) : L.length ≤ cs.length := by
  have h := nodup_len (K := cs.map CoD.n) (h.1.imp (fun h => Int.ne_of_lt h)) (fun n hn => (fdC_mem cs n).1 ((h.2 n).1 hn).fd)
  rwa [List.length_map] at h
theorem kept_same {cs : List CoD} {bs : List BrD} {M L : List Int} (hM : IsNeed cs bs M) (hL : SrtNeed cs bs L) : kept L cs = kept M cs := by
  unfold kept
  congr 1
  funext x
  exact decide_eq_decide.2 ((hL.2 x.n).trans (hM.iff x.n).symm)
set_option maxRecDepth 20000 in
set_option maxHeartbeats 3000000 in
theorem walk (S : StD) (v1 v2 v3 : Value) (w : World) (hr : RdSt w v1 v2 v3 S) (hU : StU false S) :
    Calls Try.prog 3 #[.agg (S.fs v1 v2 v3)] w fun e w' => e = .returned (.bool true) ∧ Below w.heap.size w w' := by
  obtain ⟨a1, k1, e1, -⟩ := id hr.c
  subst e1
  obtain ⟨a2, k2, e2, -⟩ := id hr.b
  subst e2
  obtain ⟨a3, k3, e3, -⟩ := id hr.u
  subst e3
  have hp0 := sb_new w S (.slice a1 S.cs.length k1) (.slice a2 S.bs.length k2) (.slice a3 S.us.length k3)
  have hb0 := alloc_bR w (.cells (S.fs (.slice a1 S.cs.length k1) (.slice a2 S.bs.length k2) (.slice a3 S.us.length k3)) 26)
  have hlc := hU.cl.1
  have hlb := hU.bl.1
  have hlu := hU.ul.1
  have cC := fun W (h : Below w.heap.size w W) => copied15_any S _ _ _ W (hr.below h) hU
  have cR := fun W (h : Below w.heap.size w W) => rsweep_any S _ _ _ W (hr.below h) hU
  have cM := fun W (h : Below w.heap.size w W) => rneeded_any S _ _ _ W (hr.below h) hU
  have cN := fun u1 u2 u3 W (h : RdSt W u1 u2 u3 S) => needed_any S u1 u2 u3 W h hU
  have cS := fun u1 u2 u3 W (h : RdSt W u1 u2 u3 S) => sweep_any S u1 u2 u3 W h hU
  have cE := fun u1 u2 u3 W (h : RdSt W u1 u2 u3 S) (h0 : Below w.heap.size w W) => same15_true S u1 u2 u3 _ _ _ W h (hr.below h0) hU.fit ⟨by omega, by omega, by omega⟩
  have cF := fun M u1 u2 u3 x1 x2 x3 W (h : RdSt W u1 u2 u3 ⟨S.nc, S.nb, kept M S.cs, S.bs, S.us⟩) (h2 : RdSt W x1 x2 x3 ⟨S.nc, S.nb, kept M S.cs, S.bs, S.us⟩) => same15_true ⟨S.nc, S.nb, kept M S.cs, S.bs, S.us⟩ u1 u2 u3 x1 x2 x3 W h h2 (hU.kept M).fit ⟨by have : (kept M S.cs).length ≤ S.cs.length := List.length_filter_le _ _; simp only; omega, by simp only; omega, by simp only; omega⟩
  clear hU hr
  obtain ⟨nc, nb, cs, bs, us⟩ := S
  simp only [StD.fs] at *
  obtain ⟨x0, x1, x2, x3, x4⟩ := cellsSB hp0
  go_enter Try.func3, Try.ntmps3
  go_wp2_with fail
  generalize w.alloc (.cells #[.int .i64 nc, .int .i64 nb, .slice a1 cs.length k1, .slice a2 bs.length k2, .slice a3 us.length k3] 26) = w1 at *
  refine (cC w1 hb0).mono ?_
  rintro e w2 ⟨u1, u2, u3, rfl, ⟨z1, z2, hO2⟩, hb2⟩
  have hp2 := hp0.below hb2
  have hB2 := hb0.trans (hb2.mono hb0.size)
  obtain ⟨c1, m1, rfl⟩ := own_form hO2.c.row
  obtain ⟨c2, m2, rfl⟩ := own_form hO2.b.row
  obtain ⟨c3, m3, rfl⟩ := own_form hO2.u
  have hal := alloc_bR w2 (.cells #[.int .i64 nc, .int .i64 nb, .slice c1 cs.length m1, .slice c2 bs.length m2, .slice c3 us.length m3] 26)
  have hq3 : SB (w2.alloc (.cells #[.int .i64 nc, .int .i64 nb, .slice c1 cs.length m1, .slice c2 bs.length m2, .slice c3 us.length m3] 26)) w2.heap.size ⟨nc, nb, cs, bs, us⟩ (.slice c1 cs.length m1) (.slice c2 bs.length m2) (.slice c3 us.length m3) := sb_new w2 ⟨nc, nb, cs, bs, us⟩ _ _ _
  have hp3 := hp2.below hal
  have hB3 := hB2.trans (hal.mono hB2.size)
  have hR3 := hO2.rd.below hal
  clear x0 x1 x2 x3 x4 cC hp0 hp2 hb2 hB2 hal hO2 hb0
  go_upto_region 2 with fail
  generalize w2.heap.size = q3 at *
  generalize w2.alloc (.cells #[.int .i64 nc, .int .i64 nb, .slice c1 cs.length m1, .slice c2 bs.length m2, .slice c3 us.length m3] 26) = w3 at *
  obtain ⟨x0, x1, x2, x3, x4⟩ := cellsSB hq3
  go_wp2_with fail
  refine (cN _ _ _ w3 hR3).mono ?_
  rintro e w4 ⟨vL, L, rfl, hL4, hN, hb4⟩
  obtain ⟨aL, kL, rfl⟩ := own_form hL4
  have hll := srt_len hN
  have hq4 := hq3.below hb4
  have hR4 := hR3.below hb4
  clear x0 x1 x2 x3 x4 cN
  obtain ⟨x0, x1, x2, x3, x4⟩ := cellsSB hq4
  go_wp2_with fail
  refine (cS _ _ _ w4 hR4).mono ?_
  rintro e w5 ⟨d1, d2, d3, M, rfl, hM, ⟨z3, z4, hO5⟩, hb5⟩
  have hkk := kept_same hM hN
  obtain ⟨f1, n1, rfl⟩ := own_form hO5.c.row
  obtain ⟨f2, n2, rfl⟩ := own_form hO5.b.row
  obtain ⟨f3, n3, rfl⟩ := own_form hO5.u
  simp only at *
  have cF := cF M
  generalize hKM : kept M cs = Kp at *
  have hal := alloc_bR w5 (.cells #[.int .i64 nc, .int .i64 nb, .slice f1 Kp.length n1, .slice f2 bs.length n2, .slice f3 us.length n3] 26)
  have hq6 : SB (w5.alloc (.cells #[.int .i64 nc, .int .i64 nb, .slice f1 Kp.length n1, .slice f2 bs.length n2, .slice f3 us.length n3] 26)) w5.heap.size ⟨nc, nb, Kp, bs, us⟩ (.slice f1 Kp.length n1) (.slice f2 bs.length n2) (.slice f3 us.length n3) := sb_new w5 ⟨nc, nb, Kp, bs, us⟩ _ _ _
  have hb46 := hb5.trans (hal.mono hb5.size)
  have hO6 := hO5.below hal
  clear x0 x1 x2 x3 x4 cS hO5 hal hb5
  go_upto_region 4 with fail
  generalize w5.heap.size = q6 at *
  generalize w5.alloc (.cells #[.int .i64 nc, .int .i64 nb, .slice f1 Kp.length n1, .slice f2 bs.length n2, .slice f3 us.length n3] 26) = w6 at *
  have hb36 := hb4.trans (hb46.mono hb4.size)
  obtain ⟨x0, x1, x2, x3, x4⟩ := cellsSB (hp3.below hb36)
  go_wp2_with fail
  refine (cR w6 (hB3.trans (hb36.mono hB3.size))).mono ?_
  rintro e w7 ⟨g1, g2, g3, L2, rfl, hN2, hR7, hb7⟩
  have e2 : L2 = L := srtneed_eq hN2 hN
  subst e2
  rw [hkk] at hR7 ⊢
  obtain ⟨y1, l1, ey1, -⟩ := id hR7.c
  obtain ⟨y2, l2, ey2, -⟩ := id hR7.b
  obtain ⟨y3, l3, ey3, -⟩ := id hR7.u
  subst ey1 ey2 ey3
  simp only at hR7 ⊢
  have hal := alloc_bR w7 (.cells #[.int .i64 nc, .int .i64 nb, .slice y1 Kp.length l1, .slice y2 bs.length l2, .slice y3 us.length l3] 26)
  have hq8 : SB (w7.alloc (.cells #[.int .i64 nc, .int .i64 nb, .slice y1 Kp.length l1, .slice y2 bs.length l2, .slice y3 us.length l3] 26)) w7.heap.size ⟨nc, nb, Kp, bs, us⟩ (.slice y1 Kp.length l1) (.slice y2 bs.length l2) (.slice y3 us.length l3) := sb_new w7 ⟨nc, nb, Kp, bs, us⟩ _ _ _
  have hb68 := hb7.trans (hal.mono hb7.size)
  have hR8 := hR7.below hal
  clear x0 x1 x2 x3 x4 cR hal hb7 hR7
  go_upto_region 5 with fail
  generalize w7.heap.size = q8 at *
  generalize w7.alloc (.cells #[.int .i64 nc, .int .i64 nb, .slice y1 Kp.length l1, .slice y2 bs.length l2, .slice y3 us.length l3] 26) = w8 at *
  have hb38 := hb36.trans (hb68.mono hb36.size)
  go_wp2_with fail
  refine (live21_any w8).mono ?_
  rintro e w9 ⟨rfl, hb89⟩
  have hb39 := hb38.trans (hb89.mono hb38.size)
  have hb69 := hb68.trans (hb89.mono hb68.size)
  obtain ⟨x0, x1, x2, x3, x4⟩ := cellsSB (hp3.below hb39)
  go_wp2_with fail
  refine (cM w9 (hB3.trans (hb39.mono hB3.size))).mono ?_
  rintro e wA ⟨L3, v9, rfl, hN3, hL9, hb9A⟩
  have e3 : L3 = L2 := srtneed_eq hN3 hN
  subst e3
  have hb8A := hb89.trans (hb9A.mono hb89.size)
  have hb6A := hb69.trans (hb9A.mono hb69.size)
  have hb4A := hb46.trans (hb6A.mono hb46.size)
  have hLA := own_belowG hL4 hb4A
  clear x0 x1 x2 x3 x4 cM
  go_wp2_with fail
  refine (same21_true _ _ _ wA (rdi_own hLA) (rdi_own hL9) (by omega)).mono ?_
  rintro e wB ⟨rfl, hbAB⟩
  have hb8B := hb8A.trans (hbAB.mono hb8A.size)
  have hb6B := hb6A.trans (hbAB.mono hb6A.size)
  obtain ⟨x0, x1, x2, x3, x4⟩ := cellsSB (hq6.below hb6B)
  obtain ⟨y0, y4, y5, y6, y7⟩ := cellsSB (hq8.below hb8B)
  have hOB := hO6.below hb6B
  go_wp2_with fail
  refine (cF _ _ _ _ _ _ wB hOB.rd (hR8.below hb8B)).mono ?_
  rintro e wC ⟨rfl, hbBC⟩
  have hb6C := hb6B.trans (hbBC.mono hb6B.size)
  have hOC := hO6.below hb6C
  have hb4C := hb46.trans (hb6C.mono hb46.size)
  clear x0 x1 x2 x3 x4 y0 y4 y5 y6 y7
  obtain ⟨x0, x1, x2, x3, x4⟩ := cellsSB (hq6.below hb6C)
  have cX := spoils_any hOC hb4C.size
  simp only [StD.fs] at cX
  go_wp2_with fail
  refine cX.mono ?_
  rintro e wD ⟨rfl, hbCD⟩
  have hb4D : Below w4.heap.size w4 wD := hb4C.trans hbCD
  clear x0 x1 x2 x3 x4
  have hLD : AnyR wD w3.heap.size 3 1 (.slice aL L3.length kL) L3.length := ⟨_, own_belowG hL4 hb4D⟩
  have hb3D := hb4.trans (hb4D.mono hb4.size)
  have hln : L3.length ≤ 17592186044416 := by omega
  clear cX cF hb4C hOC hb6C hbBC hOB hb6B hb8B hbAB hLA hb6A hb8A hb9A hL9 hN3 hb69 hb39 hb89 hb38 hR8 hb68 hq8 hN2 hb36 hO6 hb46 hq6 hM hkk hN hll hL4 hq4 hR4 hb4D hb4 hbCD
  generalize L3.length = n at *
  go_upto_region 8 with fail
  go_loopw [10] (fun i wr => ∃ k : Nat, k ≤ n ∧ i = .int .i64 (k : Int) ∧ AnyR wr w3.heap.size 3 1 (.slice aL n kL) n ∧ Below w3.heap.size w3 wr) (fun i _ => n - (Go.RowKit.intOf i).toNat)
  case atStart => exact ⟨0, by omega, rfl, hLD, hb3D⟩
  case round =>
    clear hLD hb3D
    obtain ⟨k, hk, rfl, hA, hb⟩ := hrel
    by_cases hlt : k < n
    · have hlt' : (k : Int) < (n : Int) := by omega
      obtain ⟨g, ea, hB, -, hx⟩ := hA.at_ (by omega)
      obtain ⟨y, y1, y2⟩ := hx k (by omega)
      subst ea
      have hA2 := fun x => hA.set g k x
      have hb2 := fun x => hb.setCell (p := ⟨g, k, none⟩) hB x
      clear hA hx hb
      go_wp2_with fail
      exact ⟨⟨k + 1, by omega, by go_num, hA2 _, hb2 _⟩, by simp [Go.RowKit.intOf]; omega⟩
    · have hlt' : ¬ (k : Int) < (n : Int) := by omega
      have hb0 := hB3.trans (hb.mono hB3.size)
      obtain ⟨x0, x1, x2, x3, x4⟩ := cellsSB (hq3.below hb)
      obtain ⟨y0, y1', y2', y3', y4⟩ := cellsSB (hp3.below hb)
      have cX := cE _ _ _ wr (hR3.below hb) hb0
      clear cE hA
      go_wp2_with fail
      refine cX.mono ?_
      rintro e wE ⟨rfl, hbE⟩
      have hfin := hb0.trans (hbE.mono hb0.size)
      go_wp2_with fail
      go_ret
      exact ⟨rfl, hfin⟩


theorem own : ownKnob Try.prog.godebug = none := by kernel_rfl
theorem laidOut : laidOutB Try.prog = true := by kernel_rfl

set_option maxRecDepth 20000 in
theorem contract (H : Type) (enc : TypeId × Value → H) (W : World) (base : Nat) (args : Array Value) (ds gs : List (DataW H)) (before : List MemPlace)
    (hval : ∀ (j : Nat) t v, Try.f3.params[j]? = some t → args[j]? = some v → Value.okWide Try.prog W .any base t v)
    (hW : DataW.Whole enc Try.prog Try.f3.params.toList Rows.gcTellsSpec.vars false W args.toList ds gs before) (hsz0 : (DataW.weightsEach Try.prog (Try.f3.params.toList ++ Rows.gcTellsSpec.plain.varTypes Try.prog) (ds ++ gs)).all (· ≤ reachBytes) = true) :
    Calls Try.prog 3 args W fun e W' => ∃ v, e = .returned v ∧ Rows.gcTellsSpec.post enc Try.prog Try.f3 false true false false W args v W' := by
  have hW' := hW
  obtain ⟨p, q, hA0, hV, rfl, hfz, hnd⟩ := hW
  have hA : DataW.TrodAll enc Try.prog W 0 (fun _ => true) true Try.f3.params.toList args.toList ds p := hA0
  rw [Try.params3] at hA hval hsz0
  obtain ⟨v0, vs0, d0, ds0, p0, q0, hargs, rfl, rfl, h0, r0⟩ := trodAll_cons hA
  obtain ⟨rfl, rfl, rfl⟩ := trodAll_nil r0
  obtain rfl : args = #[v0] := by cases args; simp_all
  obtain ⟨rfl, rfl⟩ := trodVars_none hV
  have k0 := h0
  have lt0 : ∀ x ∈ p0, x.block < W.heap.size := by obtain ⟨m, hm⟩ := k0; exact DataW.trod_lt m _ _ _ hm
  obtain ⟨fuel0, hf0⟩ := h0
  have z0 : Sz false 26 d0 := fun n hn => by simpa using List.all_eq_true.1 hsz0 n (DataW.weights_mem_each (j := 0) (t := 26) (d := d0) rfl rfl n hn)
  obtain ⟨S0, s0a, s0b, s0c, hc0, rd0, ok0⟩ := open_st od_false hf0 z0
  obtain rfl := st_val hc0
  clear hA0
  simp only [List.append_nil] at hW'
  refine (walk S0 s0a s0b s0c W rd0 ok0).mono fun e W' ⟨he, bel⟩ => ?_
  subst he
  exact ⟨_, rfl, _, _, _, [], _, [], hW', trodAll_mk1 (shut_bool Try.underlying4 _), (trodAll_cons_mk (Below.trod laidOut (by kernel_rfl) (of_decide_eq_true (by kernel_rfl)) k0 bel lt0) trodAll_mk0), rfl, bel.frame _, fun h => by cases h⟩

set_option maxRecDepth 100000 in
theorem lifted (os : Os) (started : os.Started) (H : Type) (enc : TypeId × Value → H) :
    ReturnsInHanded {} Try.checked os 3 .any (Rows.gcTellsSpec.pre6 enc Try.prog Try.f3 Rows.gcTellsRow.domain false) (Rows.gcTellsSpec.post enc Try.prog Try.f3 false true false false) := by
  refine returnsInHanded_of_change_sized (C := Try.checked) own started (by kernel_rfl) Try.func3
    (ChangeSpec.witness6 (enc := enc) (C := Try.checked) false ⟨#[], #[.agg #[.int .i64 0, .int .i64 0, .slice none 0 0, .slice none 0 0, .slice none 0 0]], []⟩ 8 (by kernel_rfl) (by kernel_rfl) (by kernel_rfl) (by kernel_rfl)) ?_
  intro W base args ds gs before hval hW _ hsz _
  exact contract H enc W base args ds gs before hval hW hsz

theorem holds : Rows.GcTellsSaid :=
  OpenClaim.holds_of_wide 3 Try.f3 rfl rfl rfl rfl rfl rfl rfl ⟨rfl, rfl, rfl, rfl, rfl⟩ rfl rfl rfl rfl rfl (by kernel_rfl) Try.func3 (by kernel_rfl)
    (of_decide_eq_true (by kernel_rfl)) (by unfold Func.isWrapper; first | (rw [if_pos (by decide +kernel)]; kernel_rfl) | (rw [if_neg (by decide +kernel)]; exact ⟨rfl, rfl⟩))
    (fun os started H enc _ => lifted os started H enc)
end Go.Proofs.Ythhdpabelcgfjaa.gcTells
namespace Go.Proofs.Ythhdpabelcgfjaa
theorem gcTells_holds : Rows.GcTellsSaid := gcTells.holds
#print axioms gcTells_holds
end Go.Proofs.Ythhdpabelcgfjaa
