/-
  commits, of a journal that is not lost, on a device that is up.
-/
import Derived.Test.YtblhmfkohbdmeaaWLawK
namespace Go.Proofs.Ytblhmfkohbdmeaa
open Go.RowKit Go.Maps

section
variable {P : Program} {ops : Array Oper} {rest : List Oper} {o : Oper} {a : Act} {w : World} {Q : Act → Prop}
theorem wpStill_slice (hg : o.guard = none) (t : TypeId) (x : Operand) (lo hi mx : Option Operand) (hop : o.op = Op.slice t x lo hi mx) (v : Value) (hrun : (Instr.sliceAt t (a.eval x) (lo.map a.eval) (hi.map a.eval) (mx.map a.eval)).run P w = .ok v w)
    (hK : wpStill P ops w Q rest (a.put o.dst v)) : wpStill P ops w Q (o :: rest) a := by
  have hw : Region.wanted o (yielded ops a.tmps) = true := by simp [Region.wanted, hg]
  simp only [wpStill, hw, if_true, Oper.still]
  have hr : (execOp a.eval o).run P w = .ok (.value v) w := by
    simp [execOp, hop, hrun, Result.andThen]
  rw [hr]
  exact ⟨rfl, hK⟩
end
theorem Try.uSt : Try.prog.underlying 62 = some (.slice (Try.prog.elem 62)) := by kernel_rfl
theorem run_one (g n cp : Nat) (hc : 1 ≤ cp) (w : World) : (Instr.sliceAt 62 (.slice (some ⟨g, 0, none⟩) (n + 1) cp) none (some (.int .i64 1)) none).run Try.prog w = .ok (.slice (some ⟨g, 0, none⟩) 1 cp) w := by
  rw [run_sliceAt_slice _ _ _ _ _ _ Try.uSt, run_slice_h w 62 (some ⟨g, 0, none⟩) (n + 1) cp Try.uSt .i64 1 (by omega) (by omega)]
  have e : Try.prog.elem 62 = 9 := by kernel_rfl
  have hs : (sizeOf 9).run Try.prog w = .ok 1 w := Try.sizeOf9 w
  rw [e, hs]
  simp [Result.andThen, sliced, Addr.add_mid]
theorem IsPa.cut1 {ja : Int} {W0 W : World} {A : PA} {wl pl : Bool} {s : DevS} {M : Nat → List ByteArray} {vl : Value} {late : List WrD} (h : IsPa W0 W A wl pl s ja M vl late) (i : Nat) (hi : i < A.N) {x : ByteArray} {L : List ByteArray} (hM : M i = x :: L) : ∃ g n cp, W.cell? ⟨A.gm, i, none⟩ = some (.slice (some ⟨g, 0, none⟩) (n + 1) cp) ∧ 1 ≤ cp ∧ RdT W (.slice (some ⟨g, 0, none⟩) 1 cp) [x] ∧ W.frozen? ⟨A.gm, i, none⟩ = false := by
  obtain ⟨ao, cp, h1, h2, h4⟩ := h.mayAt i hi
  obtain ⟨_, _, e, hc, h3⟩ := h2
  cases e
  obtain ⟨g, cur, e1, hg, hcc⟩ := h3 0 x (by rw [hM]; rfl)
  have hl : (M i).length = L.length + 1 := by rw [hM]; rfl
  refine ⟨g, L.length, cp, by rw [h1, e1, hl], by omega, ⟨_, cp, rfl, by simp; omega, fun j y hy => ?_⟩, h4⟩
  match j, hy with
  | 0, hy => simp at hy; subst hy; exact ⟨g, cur, rfl, hg, hcc⟩

section
variable {W0 W : World} {A : PA} {s : DevS} {M : Nat → List ByteArray} {vl v : Value} {late l : List WrD} {B : Nat}

set_option maxRecDepth 20000 in
set_option maxHeartbeats 4000000 in
theorem commits_arg (h : IsP W0 W A false false s M vl late) (hI : PI A.N false s M late B) (hvb : ∀ W, Below W0.heap.size W0 W → RdWr W v l) (hl : l.length ≤ 5864062014800) (ho : ∀ o ∈ l, o.Ok) (hu : s.up = true) (hE : apartE A.N l ≠ 0) :
    Calls Try.prog 49 #[.pointer (some ⟨A.q, 0, none⟩), v] W fun e w' => e = .returned (.bool true) ∧ After W0 w' A B := by
  have hv := hvb W h.b
  obtain ⟨ao0, cp0, rfl, _, _⟩ := id hv
  have hN8 : A.N ≤ 8192 := by have := h.dev.hi; have := h.n; omega
  have hNn := h.n
  have hcap := h.cap
  have HI : Hid (PI A.N false s M late B) := hI
  have HO : Hid (∀ o ∈ l, o.Ok) := ho
  have hlM : l.length ≤ maxLen := by unfold maxLen; omega
  clear hI ho
  go_enter Try.func49, Try.ntmps49
  go_wp2_with (first | (at_builtin; refine wpList_copyW rfl _ _ rfl rfl rfl hv hl ?_; intro vo w1 hvo hb1; have hP1 := h.below hb1; obtain ⟨c0, c1, c2, c3, c4⟩ := hP1.cells; have cU := up_any hP1.dev; rw [hu] at cU; clear hb1 h; go_frame))
  refine cU.mono ?_
  rintro e w' ⟨rfl, hw⟩
  rw [hw]
  clear hw w' cU
  have cK := ccopy_any hP1.dev
  go_wp2_with fail
  refine cK.mono ?_
  rintro e w2 ⟨pb, bsb, bwb, rfl, hNb⟩
  have hP2 := hP1.below hNb.b
  have hvo2 := hvo.keepT (keepT_below hNb.b)
  have x1 := heap_lt hP1.wal
  have x2 := hP1.dev.ltp
  have x3 := hP1.dev.lts
  have x4 := hP1.dev.ltw
  have x5 := hNb.lp
  have x6 := hNb.ls
  have x7 := hNb.lw
  clear cK hP1 hvo c0 c1 c2 c3 c4
  obtain ⟨d0, d1, d2, d3, d4⟩ := hP2.cells
  have cM := commit_arg hP2.wal hP2.dev hvo2.rd hlM HO.out hNn (rdy_true hu) hE
  go_wp2_with fail
  refine cM.mono ?_
  rintro e w3 ⟨rfl, hw3, hd3, ho3⟩
  have hP3 := hP2.step hd3 hw3 ho3 rfl
  have hvo3 := hvo2.keepT (hP2.keepT ho3)
  have hdb : IsDev w3 pb bsb bwb s := hNb.dev.kept ho3 (by simp; omega) (by simp; omega) (by simp; omega)
  clear cM hP2 hvo2 hw3 hd3 ho3 d0 d1 d2 d3 d4 hNb
  have cL := alike_any hvo3.rd (hvb _ hP3.b) hl
  go_wp2_with fail
  refine cL.mono ?_
  rintro e w4 ⟨rfl, hb4⟩
  have hP4 := hP3.below hb4
  have hdb4 := hdb.below hb4
  clear cL hP3 hvo3 hb4 hdb
  obtain ⟨d0, d1, d2, d3, d4⟩ := hP4.cells
  have cG := wrong_any A.N hN8 (hvb _ hP4.b) hlM HO.out
  go_wp2_with fail
  refine cG.mono ?_
  rintro e w5 ⟨rfl, hb5⟩
  have hP5 := hP4.below hb5
  have hdb5 := hdb4.below hb5
  clear cG hP4 hdb4 hb5 d0 d1 d2 d3 d4
  obtain ⟨d0, d1, d2, d3, d4⟩ := hP5.cells
  have cT := untouched_any hdb5 hP5.dev
  have hne : (apartE A.N l != 0) = true := by simpa using hE
  have hee : (apartE A.N l == apartE A.N l) = true := by simp
  clear hE
  generalize apartE A.N l = er at *
  go_wp2_with fail
  refine cT.mono ?_
  rintro e w6 ⟨rfl, hb6⟩
  have hP6 := hP5.below hb6
  clear cT hP5 hb6
  go_wp2_with fail
  go_ret
  exact ⟨rfl, false, s, M, vl, late, hP6, HI.out⟩

set_option maxRecDepth 20000 in
set_option maxHeartbeats 4000000 in
theorem commits_go (h : IsP W0 W A false false s M vl late) (hI : PI A.N false s M late B) (hvb : ∀ W, Below W0.heap.size W0 W → RdWr W v l) (hl : l.length ≤ 5864062014800) (ho : ∀ o ∈ l, o.Ok) (hu : s.up = true) (hE : apartE A.N l = 0) :
    Calls Try.prog 49 #[.pointer (some ⟨A.q, 0, none⟩), v] W fun e w' => e = .returned (.bool true) ∧ After W0 w' A B := by
  have hv := hvb W h.b
  obtain ⟨ao0, cp0, rfl, _, _⟩ := id hv
  have hN8 : A.N ≤ 8192 := by have := h.dev.hi; have := h.n; omega
  have hNn := h.n
  have hcap := h.cap
  have HI : Hid (PI A.N false s M late B) := hI
  have HO : Hid (∀ o ∈ l, o.Ok) := ho
  have hlM : l.length ≤ maxLen := by unfold maxLen; omega
  clear hI ho
  go_enter Try.func49, Try.ntmps49
  go_wp2_with (first | (at_builtin; refine wpList_copyW rfl _ _ rfl rfl rfl hv hl ?_; intro vo w1 hvo hb1; have hP1 := h.below hb1; obtain ⟨c0, c1, c2, c3, c4⟩ := hP1.cells; have cU := up_any hP1.dev; rw [hu] at cU; clear hb1 h; go_frame))
  refine cU.mono ?_
  rintro e w' ⟨rfl, hw⟩
  rw [hw]
  clear hw w' cU
  have cK := ccopy_any hP1.dev
  go_wp2_with fail
  refine cK.mono ?_
  rintro e w2 ⟨pb, bsb, bwb, rfl, hNb⟩
  have hP2 := hP1.below hNb.b
  have hvo2 := hvo.keepT (keepT_below hNb.b)
  clear cK hP1 hvo c0 c1 c2 c3 c4
  obtain ⟨d0, d1, d2, d3, d4⟩ := hP2.cells
  obtain ⟨hLv, _⟩ := HI.out.live rfl
  have cM := wcommit_any hP2.wal hP2.dev hu hNn hLv.hs hLv.hr hvo2.rd hlM HO.out hE
  go_wp2_with fail
  refine cM.mono ?_
  rintro e w3 ⟨s3, hd3, ho3, ha3, hn3, hcase⟩
  obtain ⟨hok, h24⟩ := apartE_zero hE
  have HE : Hid (apartE A.N l = 0) := hE
  have HOK : Hid (OkW A.N l) := hok
  clear hE hok
  rcases hcase with ⟨rfl, hw3, hC3, hk3, _⟩ | ⟨_, rfl, hw3, hdn, hne, hcut⟩
  · have hP3 : IsP W0 w3 A false false s3 M vl late := hP2.step hd3 (by rw [ha3]; exact hw3) ho3 (hn3.trans hNn.symm)
    have hvo3 := hvo2.keepT (hP2.keepT ho3)
    clear cM hP2 hvo2 hw3 hd3 ho3 d0 d1 d2 d3 d4 hNb
    have HL : Hid (Live A.N s3 (Mk (Mc l M) A.N)) := live_of hLv l hC3
    have HH : Hid (∀ i, i < A.N → ∃ L, Mc l M i = mk (put l s.readAt i) :: L) := fun i hi => Mc_head hLv l i hi
    clear hC3 hk3 hLv hn3 ha3
    have cL := alike_any hvo3.rd (hvb _ hP3.b) hl
    go_wp2_with fail
    refine cL.mono ?_
    rintro e w4 ⟨rfl, hb4⟩
    have hP4 := hP3.below hb4
    clear cL hP3 hvo3 hb4
    obtain ⟨d0, d1, d2, d3, d4⟩ := hP4.cells
    have cG := wrong_any A.N hN8 (hvb _ hP4.b) hlM HO.out
    rw [HE.out] at cG
    go_wp2_with fail
    refine cG.mono ?_
    rintro e w5 ⟨rfl, hb5⟩
    have hP5 := hP4.below hb5
    clear cG hP4 hb5 d0 d1 d2 d3 d4
    go_wp2_with fail
    go_loopw [10] (fun i wr => ∃ k : Nat, k ≤ l.length ∧ i = .int .i64 (k : Int) ∧ IsP W0 wr A false false s3 (Mc (l.take k) M) vl late) (fun i _ => l.length - (intOf i).toNat)
    case atStart => exact ⟨0, Nat.zero_le _, rfl, hP5⟩
    case round =>
      obtain ⟨k, hk, rfl, hP⟩ := hrel
      clear hP5
      by_cases hlt : k < l.length
      · have hlt' : (k : Int) < (l.length : Int) := by omega
        obtain ⟨_, _, ee, _, hop⟩ := hvb wr hP.b
        obtain ⟨b, off, hbo, hbl, e0, e1⟩ := hop k l[k] (by simp [hlt])
        cases ee
        have hb0 : b < W0.heap.size := by
          obtain ⟨_, _, ee0, _, hop0⟩ := hvb W0 (Below.refl _ _)
          obtain ⟨b0, off0, hbo0, hb0, _, _⟩ := hop0 k l[k] (by simp [hlt])
          cases ee0
          rw [hbo] at hbo0
          cases hbo0
          exact hb0
        obtain rfl := hbo
        have hg := good_parts (HOK.out.1 l[k] (List.getElem_mem hlt))
        obtain ⟨j, hj⟩ := Int.eq_ofNat_of_zero_le hg.1
        have hjN : j < A.N := by omega
        have hjI : (j : Int) < (A.N : Int) := by omega
        have HS : Hid (Mc (l.take (k + 1)) M = setM (Mc (l.take k) M) j [l[k].x]) := by
          show Mc (l.take (k + 1)) M = _
          rw [take_snoc l k hlt, Mc_snoc, hj]
          rfl
        rw [hj] at e0
        clear hop hg hj
        generalize l[k].x = ox at *
        have hPd : IsP W0 ((wr.alloc (.cells #[.string ox] 9)).drew) A false false s3 (Mc (l.take k) M) vl late := hP.below (((Below.refl _ wr).alloc (Nat.le_refl _) _).drew)
        have hru : RdT ((wr.alloc (.cells #[.string ox] 9)).drew) (.slice (some ⟨wr.heap.size, 0, none⟩) 1 1) [ox] := ⟨_, _, rfl, Nat.le_refl _, fun i x hx => by
          match i, hx with
          | 0, hx => simp at hx; subst hx; exact ⟨wr.heap.size, _, rfl, heap_alloc_last wr _, rfl⟩⟩
        have hPn := hPd.setMay hjN hru
        rw [← HS.out] at hPn
        obtain ⟨aoj, cpj, hcj, _, hfj⟩ := hPd.mayAt j hjN
        have HPn : Hid _ := hPn
        obtain ⟨d0, d1, d2, d3, d4⟩ := hP.cells
        have hS0 : wr.drew.cell? ⟨A.q, 2, none⟩ = some (.slice (some ⟨A.gm, 0, none⟩) A.N A.cp) ∧ wr.drew.cell? ⟨b, off + k * 2, none⟩ = some (.int .i64 (j : Int)) ∧ wr.drew.cell? ⟨b, off + k * 2 + 1, none⟩ = some (.string ox) := ⟨d2, e0, e1⟩
        have hS1 : ((wr.alloc (.cells #[.string ox] 9)).drew).cell? ⟨A.q, 2, none⟩ = some (.slice (some ⟨A.gm, 0, none⟩) A.N A.cp) ∧ ((wr.alloc (.cells #[.string ox] 9)).drew).cell? ⟨b, off + k * 2, none⟩ = some (.int .i64 (j : Int)) ∧ ((wr.alloc (.cells #[.string ox] 9)).drew).cell? ⟨b, off + k * 2 + 1, none⟩ = some (.string ox) := by
          have hbb : Below wr.heap.size wr ((wr.alloc (.cells #[.string ox] 9)).drew) := ((Below.refl _ wr).alloc (Nat.le_refl _) _).drew
          exact ⟨(hbb.cell (p := ⟨A.q, 2, none⟩) (heap_lt hP.str)).trans d2, (hbb.cell (p := ⟨b, off + k * 2, none⟩) hbl).trans e0, (hbb.cell (p := ⟨b, off + k * 2 + 1, none⟩) hbl).trans e1⟩
        have hbg : b ≠ A.gm := by
          have := hP.lg
          have : b < W0.heap.size := hb0
          omega
        have hqg : A.q ≠ A.gm := by
          obtain ⟨cur, hc, _⟩ := hP.may
          exact q_ne hP.str hc (by decide)
        have hS2 : (((wr.alloc (.cells #[.string ox] 9)).drew).setCell ⟨A.gm, j, none⟩ (.slice (some ⟨wr.heap.size, 0, none⟩) 1 1)).cell? ⟨A.q, 2, none⟩ = some (.slice (some ⟨A.gm, 0, none⟩) A.N A.cp) ∧ (((wr.alloc (.cells #[.string ox] 9)).drew).setCell ⟨A.gm, j, none⟩ (.slice (some ⟨wr.heap.size, 0, none⟩) 1 1)).cell? ⟨b, off + k * 2, none⟩ = some (.int .i64 (j : Int)) ∧ (((wr.alloc (.cells #[.string ox] 9)).drew).setCell ⟨A.gm, j, none⟩ (.slice (some ⟨wr.heap.size, 0, none⟩) 1 1)).cell? ⟨b, off + k * 2 + 1, none⟩ = some (.string ox) := by
          have hoo : ∀ x, x < ((wr.alloc (.cells #[.string ox] 9)).drew).heap.size → x ≠ A.gm → ∀ y, (((wr.alloc (.cells #[.string ox] 9)).drew).setCell ⟨A.gm, j, none⟩ (.slice (some ⟨wr.heap.size, 0, none⟩) 1 1)).cell? ⟨x, y, none⟩ = ((wr.alloc (.cells #[.string ox] 9)).drew).cell? ⟨x, y, none⟩ := fun x hx hn y =>
            World.cell?_of_block (a := ⟨x, y, none⟩) ((Only.setCell (S := [A.gm]) _ (p := ⟨A.gm, j, none⟩) (by simp) _).block x hx (by simpa using hn))
          have hz : ((wr.alloc (.cells #[.string ox] 9)).drew).heap.size = wr.heap.size + 1 := World.size_alloc _ _
          exact ⟨(hoo A.q (by have := heap_lt hP.str; omega) hqg 2).trans hS1.1, (hoo b (by omega) hbg _).trans hS1.2.1, (hoo b (by omega) hbg _).trans hS1.2.2⟩
        clear hbg hqg hbl hb0
        clear hPn hPd hru hP HS d0 d1 d3 d4
        go_wp2_with fail
        clear d2 e0 e1
        go_region_held3 (fun W => W.cell? ⟨A.q, 2, none⟩ = some (.slice (some ⟨A.gm, 0, none⟩) A.N A.cp) ∧ W.cell? ⟨b, off + k * 2, none⟩ = some (.int .i64 (j : Int)) ∧ W.cell? ⟨b, off + k * 2 + 1, none⟩ = some (.string ox)) (first | assumption | go_keep) (fail)
        clear hS0 hS1 hS2 hcj hfj
        go_wp2_with fail
        go_roundw
        case rel => exact ⟨k + 1, by omega, by go_num, HPn.out⟩
        case measure => simp [intOf]; omega
      · obtain rfl : k = l.length := by omega
        have hlt' : ¬ (l.length : Int) < (l.length : Int) := by omega
        rw [List.take_length] at hP
        have HP0 : Hid (IsP W0 wr A false false s3 (Mk (Mc l M) 0) vl late) := by
          show IsP W0 wr A false false s3 (Mk (Mc l M) 0) vl late
          rw [Mk_zero]
          exact hP
        clear hP
        go_wp2_with fail
        go_loopw [11] (fun i wr => ∃ k : Nat, k ≤ A.N ∧ i = .int .i64 (k : Int) ∧ IsP W0 wr A false false s3 (Mk (Mc l M) k) vl late) (fun i _ => A.N - (intOf i).toNat)
        case atStart => exact ⟨0, Nat.zero_le _, rfl, HP0.out⟩
        case round =>
          obtain ⟨k, hk2, rfl, hP⟩ := hrel
          clear HP0
          obtain ⟨d0, d1, d2, d3, d4⟩ := hP.cells
          by_cases hkN : k < A.N
          · have hkN' : (k : Int) < (A.N : Int) := by omega
            obtain ⟨L, hL⟩ := HH.out k hkN
            have hMk : Mk (Mc l M) k k = mk (put l s.readAt k) :: L := by
              unfold Mk
              rw [if_neg (by omega)]
              exact hL
            obtain ⟨g, n, cp, f1, f2, f3, f4⟩ := hP.cut1 k hkN hMk
            have hsl := run_one g n cp f2
            have hPd : IsP W0 wr.drew A false false s3 (Mk (Mc l M) k) vl late := hP.below (Below.refl _ _).drew
            have hPn := hPd.setMay hkN (f3.keepT (keepT_below (Below.refl _ wr).drew))
            have hst : setM (Mk (Mc l M) k) k [mk (put l s.readAt k)] = Mk (Mc l M) (k + 1) := by
              rw [Mk_succ, hL]
              rfl
            rw [hst] at hPn
            have HPn : Hid _ := hPn
            clear hPn hPd hst hMk hL f3 hP d0 d1 d3 d4
            go_wp2_with fail
            refine region_tail 14 Try.mixed (by kernel_rfl) ?_
            simp only [List.take_succ_cons, List.take_zero, List.drop_succ_cons, List.drop_zero]
            iterate 12 still_step
            refine wpStill_slice rfl 62 _ _ _ _ rfl _ (hsl _) ?_
            iterate 1 still_step
            refine wpStill_nil ?_
            go_wp2_with fail
            go_roundw
            case rel => exact ⟨k + 1, by omega, by go_num, HPn.out⟩
            case measure => simp [intOf]; omega
          · obtain rfl : k = A.N := by omega
            have hkN' : ¬ (A.N : Int) < (A.N : Int) := by omega
            have cR := reads2_any hP HL.out.hd
            clear hP
            go_wp2_with fail
            refine cR.mono ?_
            rintro e w9 ⟨rfl, hP9⟩
            clear cR
            have hl0 := (HI.out.live rfl).2
            have hI9 : PI A.N false s3 (Mk (Mc l M) A.N) late B := ⟨fun _ => ⟨HL.out, hl0⟩, HL.out.cr late, fun i => Mk_len _ _ _ _ (Mc_len _ _ _ _ (HI.out.len i) HI.out.one), HI.out.one, HI.out.ll⟩
            clear hl0
            go_wp2_with fail
            go_ret
            exact ⟨rfl, false, s3, _, vl, late, hP9, hI9⟩
  · have hP3 : IsP W0 w3 A true false s3 M vl late := hP2.step hd3 (by rw [ha3]; exact hw3) ho3 (hn3.trans hNn.symm)
    have hvo3 := hvo2.keepT (hP2.keepT ho3)
    have HI3 : Hid (PI A.N true s3 M l B) := ⟨fun h => (by cases h), hLv.cut HOK.out hne hcut, HI.out.len, HI.out.one, hl⟩
    clear cM hP2 hvo2 hw3 hd3 ho3 d0 d1 d2 d3 d4 hNb hLv hcut hne hn3 ha3
    have cL := alike_any hvo3.rd (hvb _ hP3.b) hl
    go_wp2_with fail
    refine cL.mono ?_
    rintro e w4 ⟨rfl, hb4⟩
    have hP4 := hP3.below hb4
    have hvo4 := hvo3.keepT (keepT_below hb4)
    clear cL hP3 hvo3 hb4
    obtain ⟨d0, d1, d2, d3, d4⟩ := hP4.cells
    have cG := wrong_any A.N hN8 (hvb _ hP4.b) hlM HO.out
    rw [HE.out] at cG
    go_wp2_with fail
    refine cG.mono ?_
    rintro e w5 ⟨rfl, hb5⟩
    have hP5 := hP4.below hb5
    have hvo5 := hvo4.keepT (keepT_below hb5)
    clear cG hP4 hb5 d0 d1 d2 d3 d4 hvo4
    obtain ⟨d0, d1, d2, d3, d4⟩ := hP5.cells
    obtain ⟨aoV, cpV, rfl, _, _⟩ := id hvo5
    have hz4 := hP5.frz 4
    have hP6 := hP5.setLost true
    have hvo6 := hvo5.keepT (hP5.keptQ (.bool true) 4)
    obtain ⟨f0, f1, f2, f3, f4⟩ := hP6.cells
    have hz3 := hP6.frz 3
    have hP7 := hP6.setLate hvo6
    obtain ⟨g0, g1, g2, g3, g4⟩ := hP7.cells
    have cU := up_any hP7.dev
    rw [hdn] at cU
    have HP7 : Hid _ := hP7
    clear hP5 hP6 hP7 hvo5 hvo6
    go_wp2_with fail
    refine cU.mono ?_
    rintro e w' ⟨rfl, hw⟩
    rw [hw]
    clear hw w' cU
    go_wp2_with fail
    go_ret
    exact ⟨rfl, true, s3, M, _, l, HP7.out, HI3.out⟩

end
end Go.Proofs.Ytblhmfkohbdmeaa
