/-
  Proved: cut off at any point, whatever survives, a Commit is there wholly or not at all; and so behind an Open that is cut off at any point (the law WalEvery), for every input.
-/
import Derived.Test.YtblhmfkohbdmeaaWLawF
namespace Go.Proofs.Ytblhmfkohbdmeaa
open Go.RowKit Go.Maps
theorem RdT.src {W : World} {ao : Option Addr} {N cp : Nat} {T : List ByteArray} (h : RdT W (.slice ao N cp) T) (h0 : 0 < N) : T.length = N ∧ ∃ g, ao = some ⟨g, 0, none⟩ ∧ g < W.heap.size ∧ ∀ (j : Nat) (u : Value), (sv T)[j]? = some u → W.cell? ((⟨g, 0, none⟩ : Addr).add j) = some u := by
  obtain ⟨ao', cp', e, hc, h1⟩ := h
  cases e
  obtain ⟨g, cur, e1, hg, _⟩ := h1 0 T[0] (by simp [h0])
  refine ⟨rfl, g, e1, heap_lt hg, fun j u hu => ?_⟩
  have hj : j < T.length := by
    have := (List.getElem?_eq_some_iff.1 hu).1
    simpa [sv] using this
  have hu' : u = .string T[j] := by
    simp [sv, hj] at hu
    exact hu.symm
  subst hu'
  obtain ⟨g', cur', e2, hg', hc'⟩ := h1 j T[j] (by simp [hj])
  rw [e1] at e2
  cases e2
  rw [Addr.add_mid, cell_at hg', Nat.zero_add]
  exact hc'

/-- A Commit that may be, with a fuse or without, and what is behind a crash. -/
theorem ecommit {W0 W : World} {r p bs bw N : Nat} {s : DevS} {x : Nat → Sec} {v : Value} {lw : List WrD} (hN : ND W0 W p bs bw s) (hw : IsWal W r p s.age false) (hr : W0.heap.size ≤ r) (hC : Clean N x s) (hv : RdWr W v lw) (hl : lw.length ≤ maxLen) (ho : ∀ o ∈ lw, o.Ok) (hE : apartE N lw = 0) :
    Calls Try.prog 28 #[.pointer (some ⟨r, 0, none⟩), v] W fun e w' => ∃ (er : Int) (s' : DevS), e = .returned (.int .i64 er) ∧ ND W0 w' p bs bw s' ∧ ∀ m, ∃ y, Rest N (s'.crashed m) y ∧ ((∀ i, i < N → y i = put lw x i) ∨ (er ≠ 0 ∧ ∀ i, i < N → y i = x i)) := by
  rcases up_cases s with hu | hu
  · refine (commit_down hw hN.dev v (by simp [rdy, hu])).mono fun e w' ⟨h1, _, h3, h4⟩ => ⟨3, s, h1, hN.down h3 h4 hr, fun m => ⟨x, hC.crash m, .inr ⟨by decide, fun _ _ => rfl⟩⟩⟩
  · refine (wcommit_any hw hN.dev hu hC.n hC.hs hC.hr hv hl ho hE).mono fun e w' ⟨s', h1, h2, _, _, h5⟩ => ?_
    rcases h5 with ⟨he, _, hc, _, _⟩ | ⟨_, he, _, _, _, hcut⟩
    · refine ⟨0, s', he, hN.down h1 h2 hr, fun m => ⟨_, hc.crash m, .inl fun i hi => put_congr lw (hC.rest i hi).2⟩⟩
    · refine ⟨3, s', he, hN.down h1 h2 hr, fun m => ?_⟩
      obtain ⟨y, hy, hz⟩ := hcut m
      refine ⟨y, hy, ?_⟩
      rcases hz with hz | hz
      · exact .inl fun i hi => (hz i hi).trans (put_congr lw (hC.rest i hi).2)
      · refine .inr ⟨by decide, fun i hi => ?_⟩
        rcases hz i hi with e | e
        · exact e.trans (hC.rest i hi).1
        · exact e.trans (hC.rest i hi).2
end Go.Proofs.Ytblhmfkohbdmeaa
namespace Go.Proofs.Ytblhmfkohbdmeaa.walEvery
open Go.RowKit Go.Maps Go.ChangeShapes Go.WideShapes Go.ChangeAt Go.PlainAid
open Go.ChangeMaps (open_string shut_string)

set_option maxRecDepth 20000 in
set_option maxHeartbeats 4000000 in
theorem walk (v1 : Value) (l1 : List WrD) (v : Value) (l : List WrD) (mask late : ByteArray) (w : World) (hv1 : RdWr w v1 l1) (hl1 : l1.length ≤ maxLen) (ho1 : ∀ o ∈ l1, o.Ok) (hv : RdWr w v l) (hl : l.length ≤ maxLen) (ho : ∀ o ∈ l, o.Ok) (hm : mask.size ≤ maxLen) (hlt : late.size ≤ maxLen) :
    Calls Try.prog 7 #[v1, v, .string mask, .string late] w fun e w' => e = .returned (.bool true) ∧ Below w.heap.size w w' := by
  obtain ⟨ao, cp, rfl, ⟨hcp, _⟩, _⟩ := id hv
  obtain ⟨aoF, cpF, rfl, _, _⟩ := id hv1
  have hvb : ∀ W, Below w.heap.size w W → RdWr W (.slice ao l.length cp) l := fun W h => hv.below h rfl
  have HO : Hid (∀ o ∈ l, o.Ok) := ho
  have hl' := hl
  unfold maxLen at hl'
  have cB := base_any hv1 hl1 ho1
  clear hv1 hl1 ho1 ho
  go_enter Try.func7, Try.ntmps7
  go_wp2_with fail
  refine cB.mono ?_
  rintro e w1 ⟨p, bs, bw, s, rfl, hD1, hC1, hk1, hf1⟩
  clear cB
  have cK := ccopy_any hD1.dev
  go_wp2_with fail
  refine cK.mono ?_
  rintro e w2 ⟨p2, bs2, bw2, rfl, hN2⟩
  clear cK
  have cT := ccontent_any hN2 (hC1.at_rest hk1) (by decide) hf1
  go_wp2_with fail
  refine cT.mono ?_
  rintro e w3 ⟨aoW, cpW, rfl, hW3, hb3⟩
  have hD3 := hD1.below hb3
  clear cT hD1 hN2 hb3
  go_wp2_with fail
  refine (begun_any _).mono ?_
  rintro e w4 ⟨rfl, hb4⟩
  have hD4 := hD3.below hb4
  have hW4 := hW3.below hb4
  clear hD3 hW3 hb4
  by_cases hE1 : apartE 23 l1 = 0
  · have hX : based l1 = put l1 (fun _ => zeroS) := if_pos hE1
    have hb1 : (apartE 23 l1 == 0) = true := by simpa using hE1
    rw [hb1]
    rw [hX] at hC1 hW4
    generalize (put l1 fun _ => zeroS) = X at *
    clear hE1 hX hb1
    have cG : Calls Try.prog 27 #[.slice ao l.length cp, .int .i64 23] w4 fun e w' => e = .returned (.int .i64 (apartE 23 l)) ∧ Below w4.heap.size w4 w' := wrong_any 23 (by decide) (hvb _ hD4.b) hl HO.out
    go_wp2_with fail
    refine cG.mono ?_
    rintro e w5 ⟨rfl, hb5⟩
    have hD5 := hD4.below hb5
    have hW5 := hW4.below hb5
    clear cG hD4 hW4 hb5
    by_cases hE : apartE 23 l = 0
    · obtain ⟨hok, h24⟩ := apartE_zero hE
      have HE : Hid (apartE 23 l = 0) := hE
      have HK : Hid (OkW 23 l) := hok
      rw [hE]
      clear hE hok
      have hlI : (l.length : Int) ≤ 24 := by omega
      obtain ⟨i0, hi, hz0, hz1, hz2⟩ := info_parts Try.infoS
      obtain ⟨hTl, gW, rfl, hgW, hcW⟩ := hW5.src (by decide)
      have hcW' : ∀ (j : Nat) (u : Value), (sv (txs 23 X))[j]? = some u → w5.cell? ((⟨gW, 0, none⟩ : Addr).add j) = some u := hcW
      have HCW : Hid (∀ (j : Nat) (u : Value), (sv (txs 23 X))[j]? = some u → w5.cell? ((⟨gW, 0, none⟩ : Addr).add j) = some u) := hcW'
      have HW5 : Hid (RdT w5 (.slice (some ⟨gW, 0, none⟩) 23 cpW) (txs 23 X)) := hW5
      clear hcW hcW' hW5
      have hs1 : ∀ u ∈ sv (txs 23 X), u.oneCell' = true := by
        intro u hu
        obtain ⟨b, _, rfl⟩ := List.mem_map.1 hu
        rfl
      have hsl : (sv (txs 23 X)).length = 23 * 1 := by rw [sv_len, txs_len]
      have HS1 : Hid (∀ u ∈ sv (txs 23 X), u.oneCell' = true) := hs1
      clear hs1
      go_wp2_with (first | (at_builtin; refine wpList_append_own _ rfl (.tmp 52) (.tmp 53) 62 rfl w5.heap.size 9 i0 (.string ⟨#[]⟩) 1 16 Try.underlying62 hi hz0 hz1 hz2 rfl (by decide) _ 0 [] rfl (World.ownsRow_nil _ _ _ _) ⟨gW, 0, none⟩ 23 cpW (sv (txs 23 X)) rfl hsl HCW.out HS1.out (by unfold maxLen; omega) (by omega) (by omega) ?_) | go_in)
      intro v' w6 hown6 hgrow6 _
      have hb6 : Below w5.heap.size w5 w6 := (Below.refl _ _).grown hgrow6 (Nat.le_refl _) (by intro k hk; cases hk)
      have hown6' : w6.ownsRow w5.heap.size 9 1 v' 23 (sv (txs 23 (put (l.take 0) X))) := by simpa [put_nil] using hown6
      obtain ⟨aoN, cpN, rfl, haoN⟩ := own_shape hown6'
      obtain ⟨gN, rfl, hgN0, hgN1, _, _⟩ := haoN (by decide)
      clear hown6 hgrow6 haoN hgW
      have HN6 : Hid (w6.ownsRow w5.heap.size 9 1 (.slice (some ⟨gN, 0, none⟩) 23 cpN) 23 (sv (txs 23 (put (l.take 0) X)))) := hown6'
      clear hown6'
      go_wp2_with fail
      go_loopw [14] (fun i wr => ∃ k : Nat, k ≤ l.length ∧ i = .int .i64 (k : Int) ∧ wr.ownsRow w5.heap.size 9 1 (.slice (some ⟨gN, 0, none⟩) 23 cpN) 23 (sv (txs 23 (put (l.take k) X))) ∧ Below w5.heap.size w5 wr) (fun i _ => l.length - (intOf i).toNat)
      case atStart => exact ⟨0, Nat.zero_le _, rfl, HN6.out, hb6⟩
      case round =>
        obtain ⟨k, hk, rfl, hown, hb⟩ := hrel
        clear HN6 hb6
        by_cases hlk : k < l.length
        · have hlk' : (k : Int) < (l.length : Int) := by omega
          obtain ⟨ao', cp', e', _, hop⟩ := hvb wr (hD5.b.trans (hb.mono hD5.b.size))
          obtain ⟨b, off, hbo, _, e0, e1⟩ := hop k l[k] (by simp [hlk])
          cases e'
          obtain rfl := hbo
          have hg := good_parts (HK.out.1 l[k] (List.getElem_mem hlk))
          obtain ⟨j, hj⟩ := Int.eq_ofNat_of_zero_le hg.1
          have hj23 : j < 23 := by omega
          obtain ⟨hset, ⟨u, hcu⟩, hfz, hgl⟩ := own_set hown hj23 (.string l[k].x)
          have HS : Hid (l.take (k + 1) = l.take k ++ [l[k]]) := take_snoc l k hlk
          rw [txs_set 23 (l.take k) l[k] X j (by omega), ← HS.out] at hset
          have HR : Hid _ := hset
          have hbn : Below w5.heap.size w5 ((wr.drew).setCell ⟨gN, j, none⟩ (.string l[k].x)) := hb.drew.setCell (p := ⟨gN, j, none⟩) hgl _
          have hjI : (j : Int) < 23 := by omega
          rw [hj] at e0
          clear hop hown hset hg hj HS hb
          generalize l[k].x = ox at *
          go_wp2_with fail
          refine region_tail 12 Try.mixed (by kernel_rfl) ?_
          simp only [List.take_succ_cons, List.take_zero, List.drop_succ_cons, List.drop_zero]
          iterate 12 still_step
          refine wpStill_nil ?_
          go_wp2_with fail
          go_roundw
          case rel => exact ⟨k + 1, by omega, by go_num, HR.out, hbn⟩
          case measure => simp [intOf]; omega
        · obtain rfl : k = l.length := by omega
          have hlk' : ¬ (l.length : Int) < (l.length : Int) := by omega
          rw [List.take_length] at hown
          have hNx : RdT wr (.slice (some ⟨gN, 0, none⟩) 23 cpN) (txs 23 (put l X)) := by
            have := RdT.of_own (W := wr) (B := w5.heap.size) (v := .slice (some ⟨gN, 0, none⟩) 23 cpN) (l := txs 23 (put l X)) (by rw [txs_len]; exact hown)
            exact this
          have hWr := HW5.out.below hb
          have hDr := hD5.below hb
          clear hown hb HW5 HCW HS1 hsl hD5
          go_wp2_with fail
          go_loopw [15] (fun i wq => ∃ k : Nat, k ≤ 201 ∧ i = .int .i64 (k : Int) ∧ ND w wq p bs bw s ∧ RdT wq (.slice (some ⟨gW, 0, none⟩) 23 cpW) (txs 23 X) ∧ RdT wq (.slice (some ⟨gN, 0, none⟩) 23 cpN) (txs 23 (put l X))) (fun i _ => 201 - (intOf i).toNat)
          case atStart => exact ⟨0, by omega, rfl, hDr, hWr, hNx⟩
          case round =>
            obtain ⟨k, hk201, rfl, hDq, hWq, hNq⟩ := hrel
            clear hDr hWr hNx
            by_cases hk200 : k ≤ 200
            · have hk200' : (k : Int) ≤ 200 := by omega
              have cK := ccopy_any hDq.dev
              go_wp2_with fail
              refine cK.mono ?_
              rintro e wa ⟨pc, bsc, bwc, rfl, hNa⟩
              clear cK
              have cO := nopen_inf hNa (hC1.at_rest hk1) (by decide) hf1
              clear hNa
              go_wp2_with fail
              refine cO.mono ?_
              rintro e wb ⟨r, s2, rfl, hJb, hCb, _, _⟩
              clear cO
              have cF := cfuse_any hJb.toND k (by omega)
              have hap := hJb.wal.apart hJb.dev
              have hlr := hJb.lr
              have hwb := hJb.wal
              clear hJb
              go_wp2_with fail
              refine cF.mono ?_
              rintro e wc ⟨rfl, hNc, hoc⟩
              have hwc : IsWal wc r pc ({ s2 with fuse := (k : Int) } : DevS).age false := hwb.kept hoc hap
              clear cF hoc hap hwb
              have cM := ecommit hNc hwc hlr (hCb.fuse (k : Int)) (hvb _ (hDq.b.trans (hNc.b.mono hDq.b.size))) hl HO.out HE.out
              clear hNc hwc hlr hCb
              go_wp2_with fail
              refine cM.mono ?_
              rintro e wd ⟨er, s5, rfl, hNd, hcr⟩
              clear cM
              have cX := ncrash_any hNd mask hm
              obtain ⟨y, hRy, hy⟩ := hcr mask.data.toList
              clear hNd hcr
              go_wp2_with fail
              refine cX.mono ?_
              rintro e we ⟨⟨ke, rfl⟩, hNe⟩
              clear cX
              have cK := ccopy_any hNe.dev
              go_wp2_with fail
              refine cK.mono ?_
              rintro e wf ⟨pd, bsd, bwd, rfl, hNf⟩
              clear cK
              have cT := ccontent_any hNf hRy (by decide) rfl
              clear hNf
              go_wp2_with fail
              refine cT.mono ?_
              rintro e wg ⟨aoI, cpI, rfl, hIg, hbg⟩
              have hNg := hNe.below hbg
              clear cT hNe hbg
              have hWg := hWq.below hNg.b
              have hXg := hNq.below hNg.b
              by_cases hw : txs 23 y = txs 23 (put l X)
              · have cS : Calls Try.prog 33 #[.slice aoI 23 cpI, .slice (some ⟨gN, 0, none⟩) 23 cpN] wg fun e w' => e = .returned (.bool true) ∧ ∃ q, w' = wg.drewN q := by
                  have := same_any hIg.rd hXg.rd (by rw [txs_len]; decide) (by rw [txs_len]; decide)
                  rw [show decide (txs 23 y = txs 23 (put l X)) = true by simp [hw]] at this
                  exact this
                by_cases her : er = 0
                · have heb : (er == 0) = true := by simpa using her
                  clear her
                  clear hWg hXg hw hy
                  go_wp2_with fail
                  refine cS.mono ?_
                  rintro e w' ⟨rfl, qg, hw'⟩
                  rw [hw']
                  clear hw' w' cS
                  have hdg : Below wg.heap.size wg (wg.drewN qg) := (Only.drewN [] wg qg).nil_below
                  have hNg' := hNg.below hdg
                  have hIg' := hIg.below hdg
                  clear hNg hIg hdg
                  go_wp2_with fail
                  go_loopw [23] (fun i wi => ∃ m : Nat, m ≤ 61 ∧ i = .int .i64 (m : Int) ∧ ND wr wi pc bsc bwc (s5.crashed mask.data.toList) ∧ RdT wi (.slice aoI 23 cpI) (txs 23 y)) (fun i _ => 61 - (intOf i).toNat)
                  case atStart => exact ⟨0, by omega, rfl, hNg', hIg'⟩
                  case round =>
                    obtain ⟨m, hm61, rfl, hCi, hIi⟩ := hrel
                    clear hNg' hIg'
                    by_cases hm60 : m ≤ 60
                    · have hm60' : (m : Int) ≤ 60 := by omega
                      have cK := ccopy_any hCi.dev
                      go_wp2_with fail
                      refine cK.mono ?_
                      rintro e wj ⟨px, bsx, bwx, rfl, hXj⟩
                      clear cK
                      have cF := cfuse_any hXj m (by omega)
                      clear hXj
                      go_wp2_with fail
                      refine cF.mono ?_
                      rintro e wk ⟨rfl, hXk, _⟩
                      clear cF
                      have cO := wopen_any hXk.dev (hRy.fuse (m : Int)) (by have := hRy.n; show 32 ≤ (s5.crashed mask.data.toList).n; omega)
                      go_wp2_with fail
                      refine cO.mono ?_
                      rintro e wl ⟨s8, hd8, ho8, hOp, hbr⟩
                      have hOo := hXk.only hd8 ho8
                      clear cO hXk hd8 ho8
                      rcases hbr with ⟨_, rfl⟩ | ⟨rx, rfl, _⟩
                      · have cX := ncrash_any hOo late hlt
                        have hRx := hOp.rest late.data.toList
                        clear hOo hOp
                        go_wp2_with fail
                        refine cX.mono ?_
                        rintro e wo ⟨⟨ko, rfl⟩, hNo⟩
                        clear cX
                        have cT := ccontent_any hNo hRx (by decide) rfl
                        clear hNo hRx
                        go_wp2_with fail
                        refine cT.mono ?_
                        rintro e wp ⟨aoA, cpA, rfl, hAp, hbp⟩
                        have hCp := hCi.below hbp
                        have hIp := hIi.below hbp
                        clear cT hbp
                        have cS : Calls Try.prog 33 #[.slice aoA 23 cpA, .slice aoI 23 cpI] wp fun e w' => e = .returned (.bool true) ∧ ∃ q, w' = wp.drewN q := by
                          have := same_any hAp.rd hIp.rd (by rw [txs_len]; decide) (by rw [txs_len]; decide)
                          rw [show decide (txs 23 y = txs 23 y) = true by simp] at this
                          exact this
                        clear hAp
                        go_wp2_with fail
                        refine cS.mono ?_
                        rintro e w' ⟨rfl, qs, hw'⟩
                        rw [hw']
                        clear hw' w' cS
                        have hdr : Below wp.heap.size wp (wp.drewN qs) := (Only.drewN [] wp qs).nil_below
                        have hCs := hCp.below hdr
                        have hIs := hIp.below hdr
                        clear hCp hIp hdr
                        go_wp2_with fail
                        go_roundw
                        case rel => exact ⟨m + 1, by omega, by go_num, hCs, hIs⟩
                        case measure => simp [intOf]; omega
                      · have cX := ncrash_any hOo late hlt
                        have hRx := hOp.rest late.data.toList
                        clear hOo hOp
                        go_wp2_with fail
                        refine cX.mono ?_
                        rintro e wo ⟨⟨ko, rfl⟩, hNo⟩
                        clear cX
                        have cT := ccontent_any hNo hRx (by decide) rfl
                        clear hNo hRx
                        go_wp2_with fail
                        refine cT.mono ?_
                        rintro e wp ⟨aoA, cpA, rfl, hAp, hbp⟩
                        have hCp := hCi.below hbp
                        have hIp := hIi.below hbp
                        clear cT hbp
                        have cS : Calls Try.prog 33 #[.slice aoA 23 cpA, .slice aoI 23 cpI] wp fun e w' => e = .returned (.bool true) ∧ ∃ q, w' = wp.drewN q := by
                          have := same_any hAp.rd hIp.rd (by rw [txs_len]; decide) (by rw [txs_len]; decide)
                          rw [show decide (txs 23 y = txs 23 y) = true by simp] at this
                          exact this
                        clear hAp
                        go_wp2_with fail
                        refine cS.mono ?_
                        rintro e w' ⟨rfl, qs, hw'⟩
                        rw [hw']
                        clear hw' w' cS
                        have hdr : Below wp.heap.size wp (wp.drewN qs) := (Only.drewN [] wp qs).nil_below
                        have hCs := hCp.below hdr
                        have hIs := hIp.below hdr
                        clear hCp hIp hdr
                        have HB := hCs.b
                        go_wp2_with fail
                        go_ret
                        exact ⟨rfl, (hDq.below HB).b⟩
                    · have hm60' : ¬ (m : Int) ≤ 60 := by omega
                      have HB := hCi.b
                      go_wp2_with fail
                      go_ret
                      exact ⟨rfl, (hDq.below HB).b⟩
                · have heb : (er == 0) = false := by simpa using her
                  clear her
                  clear hWg hXg hw hy
                  go_wp2_with fail
                  refine cS.mono ?_
                  rintro e w' ⟨rfl, qg, hw'⟩
                  rw [hw']
                  clear hw' w' cS
                  have hdg : Below wg.heap.size wg (wg.drewN qg) := (Only.drewN [] wg qg).nil_below
                  have hNg' := hNg.below hdg
                  have hIg' := hIg.below hdg
                  clear hNg hIg hdg
                  go_wp2_with fail
                  go_loopw [23] (fun i wi => ∃ m : Nat, m ≤ 61 ∧ i = .int .i64 (m : Int) ∧ ND wr wi pc bsc bwc (s5.crashed mask.data.toList) ∧ RdT wi (.slice aoI 23 cpI) (txs 23 y)) (fun i _ => 61 - (intOf i).toNat)
                  case atStart => exact ⟨0, by omega, rfl, hNg', hIg'⟩
                  case round =>
                    obtain ⟨m, hm61, rfl, hCi, hIi⟩ := hrel
                    clear hNg' hIg'
                    by_cases hm60 : m ≤ 60
                    · have hm60' : (m : Int) ≤ 60 := by omega
                      have cK := ccopy_any hCi.dev
                      go_wp2_with fail
                      refine cK.mono ?_
                      rintro e wj ⟨px, bsx, bwx, rfl, hXj⟩
                      clear cK
                      have cF := cfuse_any hXj m (by omega)
                      clear hXj
                      go_wp2_with fail
                      refine cF.mono ?_
                      rintro e wk ⟨rfl, hXk, _⟩
                      clear cF
                      have cO := wopen_any hXk.dev (hRy.fuse (m : Int)) (by have := hRy.n; show 32 ≤ (s5.crashed mask.data.toList).n; omega)
                      go_wp2_with fail
                      refine cO.mono ?_
                      rintro e wl ⟨s8, hd8, ho8, hOp, hbr⟩
                      have hOo := hXk.only hd8 ho8
                      clear cO hXk hd8 ho8
                      rcases hbr with ⟨_, rfl⟩ | ⟨rx, rfl, _⟩
                      · have cX := ncrash_any hOo late hlt
                        have hRx := hOp.rest late.data.toList
                        clear hOo hOp
                        go_wp2_with fail
                        refine cX.mono ?_
                        rintro e wo ⟨⟨ko, rfl⟩, hNo⟩
                        clear cX
                        have cT := ccontent_any hNo hRx (by decide) rfl
                        clear hNo hRx
                        go_wp2_with fail
                        refine cT.mono ?_
                        rintro e wp ⟨aoA, cpA, rfl, hAp, hbp⟩
                        have hCp := hCi.below hbp
                        have hIp := hIi.below hbp
                        clear cT hbp
                        have cS : Calls Try.prog 33 #[.slice aoA 23 cpA, .slice aoI 23 cpI] wp fun e w' => e = .returned (.bool true) ∧ ∃ q, w' = wp.drewN q := by
                          have := same_any hAp.rd hIp.rd (by rw [txs_len]; decide) (by rw [txs_len]; decide)
                          rw [show decide (txs 23 y = txs 23 y) = true by simp] at this
                          exact this
                        clear hAp
                        go_wp2_with fail
                        refine cS.mono ?_
                        rintro e w' ⟨rfl, qs, hw'⟩
                        rw [hw']
                        clear hw' w' cS
                        have hdr : Below wp.heap.size wp (wp.drewN qs) := (Only.drewN [] wp qs).nil_below
                        have hCs := hCp.below hdr
                        have hIs := hIp.below hdr
                        clear hCp hIp hdr
                        go_wp2_with fail
                        go_roundw
                        case rel => exact ⟨m + 1, by omega, by go_num, hCs, hIs⟩
                        case measure => simp [intOf]; omega
                      · have cX := ncrash_any hOo late hlt
                        have hRx := hOp.rest late.data.toList
                        clear hOo hOp
                        go_wp2_with fail
                        refine cX.mono ?_
                        rintro e wo ⟨⟨ko, rfl⟩, hNo⟩
                        clear cX
                        have cT := ccontent_any hNo hRx (by decide) rfl
                        clear hNo hRx
                        go_wp2_with fail
                        refine cT.mono ?_
                        rintro e wp ⟨aoA, cpA, rfl, hAp, hbp⟩
                        have hCp := hCi.below hbp
                        have hIp := hIi.below hbp
                        clear cT hbp
                        have cS : Calls Try.prog 33 #[.slice aoA 23 cpA, .slice aoI 23 cpI] wp fun e w' => e = .returned (.bool true) ∧ ∃ q, w' = wp.drewN q := by
                          have := same_any hAp.rd hIp.rd (by rw [txs_len]; decide) (by rw [txs_len]; decide)
                          rw [show decide (txs 23 y = txs 23 y) = true by simp] at this
                          exact this
                        clear hAp
                        go_wp2_with fail
                        refine cS.mono ?_
                        rintro e w' ⟨rfl, qs, hw'⟩
                        rw [hw']
                        clear hw' w' cS
                        have hdr : Below wp.heap.size wp (wp.drewN qs) := (Only.drewN [] wp qs).nil_below
                        have hCs := hCp.below hdr
                        have hIs := hIp.below hdr
                        clear hCp hIp hdr
                        have HB := hCs.b
                        have hDz := hDq.below HB
                        have hWz := hWq.below HB
                        have hNz := hNq.below HB
                        go_wp2_with fail
                        go_roundw
                        case rel => exact ⟨k + 1, by omega, by go_num, hDz, hWz, hNz⟩
                        case measure => simp [intOf]; omega
                    · have hm60' : ¬ (m : Int) ≤ 60 := by omega
                      have HB := hCi.b
                      have hDz := hDq.below HB
                      have hWz := hWq.below HB
                      have hNz := hNq.below HB
                      go_wp2_with fail
                      go_roundw
                      case rel => exact ⟨k + 1, by omega, by go_num, hDz, hWz, hNz⟩
                      case measure => simp [intOf]; omega
              · have hyX : er ≠ 0 ∧ txs 23 y = txs 23 X := by
                  rcases hy with hy | ⟨h1, h2⟩
                  · exact absurd (txs_congr hy) hw
                  · exact ⟨h1, txs_congr h2⟩
                have cS : Calls Try.prog 33 #[.slice aoI 23 cpI, .slice (some ⟨gN, 0, none⟩) 23 cpN] wg fun e w' => e = .returned (.bool false) ∧ ∃ q, w' = wg.drewN q := by
                  have := same_any hIg.rd hXg.rd (by rw [txs_len]; decide) (by rw [txs_len]; decide)
                  rw [show decide (txs 23 y = txs 23 (put l X)) = false by simp [hw]] at this
                  exact this
                have heb0 : (er == 0) = false := by simpa using hyX.1
                have hTe : Hid (txs 23 y = txs 23 X) := hyX.2
                clear hXg hw hy hyX
                go_wp2_with fail
                refine cS.mono ?_
                rintro e w' ⟨rfl, qh, hw'⟩
                rw [hw']
                clear hw' w' cS
                have hdh : Below wg.heap.size wg (wg.drewN qh) := (Only.drewN [] wg qh).nil_below
                have hNh := hNg.below hdh
                have hIh := hIg.below hdh
                have hWh := hWg.below hdh
                clear hNg hIg hWg hdh
                have cS : Calls Try.prog 33 #[.slice aoI 23 cpI, .slice (some ⟨gW, 0, none⟩) 23 cpW] (wg.drewN qh) fun e w' => e = .returned (.bool true) ∧ ∃ q, w' = (wg.drewN qh).drewN q := by
                  have := same_any hIh.rd hWh.rd (by rw [txs_len]; decide) (by rw [txs_len]; decide)
                  rw [show decide (txs 23 y = txs 23 X) = true by simp [hTe.out]] at this
                  exact this
                clear hWh
                go_wp2_with fail
                refine cS.mono ?_
                rintro e w' ⟨rfl, qg, hw'⟩
                rw [hw']
                clear hw' w' cS
                have hdg : Below (wg.drewN qh).heap.size (wg.drewN qh) (wg.drewN (qh + qg)) := by rw [← World.drewN_drewN]; exact (Only.drewN [] _ qg).nil_below
                have hNg' := hNh.below hdg
                have hIg' := hIh.below hdg
                clear hNh hIh hdg
                go_wp2_with fail
                go_loopw [23] (fun i wi => ∃ m : Nat, m ≤ 61 ∧ i = .int .i64 (m : Int) ∧ ND wr wi pc bsc bwc (s5.crashed mask.data.toList) ∧ RdT wi (.slice aoI 23 cpI) (txs 23 y)) (fun i _ => 61 - (intOf i).toNat)
                case atStart => exact ⟨0, by omega, rfl, hNg', hIg'⟩
                case round =>
                  obtain ⟨m, hm61, rfl, hCi, hIi⟩ := hrel
                  clear hNg' hIg'
                  by_cases hm60 : m ≤ 60
                  · have hm60' : (m : Int) ≤ 60 := by omega
                    have cK := ccopy_any hCi.dev
                    go_wp2_with fail
                    refine cK.mono ?_
                    rintro e wj ⟨px, bsx, bwx, rfl, hXj⟩
                    clear cK
                    have cF := cfuse_any hXj m (by omega)
                    clear hXj
                    go_wp2_with fail
                    refine cF.mono ?_
                    rintro e wk ⟨rfl, hXk, _⟩
                    clear cF
                    have cO := wopen_any hXk.dev (hRy.fuse (m : Int)) (by have := hRy.n; show 32 ≤ (s5.crashed mask.data.toList).n; omega)
                    go_wp2_with fail
                    refine cO.mono ?_
                    rintro e wl ⟨s8, hd8, ho8, hOp, hbr⟩
                    have hOo := hXk.only hd8 ho8
                    clear cO hXk hd8 ho8
                    rcases hbr with ⟨_, rfl⟩ | ⟨rx, rfl, _⟩
                    · have cX := ncrash_any hOo late hlt
                      have hRx := hOp.rest late.data.toList
                      clear hOo hOp
                      go_wp2_with fail
                      refine cX.mono ?_
                      rintro e wo ⟨⟨ko, rfl⟩, hNo⟩
                      clear cX
                      have cT := ccontent_any hNo hRx (by decide) rfl
                      clear hNo hRx
                      go_wp2_with fail
                      refine cT.mono ?_
                      rintro e wp ⟨aoA, cpA, rfl, hAp, hbp⟩
                      have hCp := hCi.below hbp
                      have hIp := hIi.below hbp
                      clear cT hbp
                      have cS : Calls Try.prog 33 #[.slice aoA 23 cpA, .slice aoI 23 cpI] wp fun e w' => e = .returned (.bool true) ∧ ∃ q, w' = wp.drewN q := by
                        have := same_any hAp.rd hIp.rd (by rw [txs_len]; decide) (by rw [txs_len]; decide)
                        rw [show decide (txs 23 y = txs 23 y) = true by simp] at this
                        exact this
                      clear hAp
                      go_wp2_with fail
                      refine cS.mono ?_
                      rintro e w' ⟨rfl, qs, hw'⟩
                      rw [hw']
                      clear hw' w' cS
                      have hdr : Below wp.heap.size wp (wp.drewN qs) := (Only.drewN [] wp qs).nil_below
                      have hCs := hCp.below hdr
                      have hIs := hIp.below hdr
                      clear hCp hIp hdr
                      go_wp2_with fail
                      go_roundw
                      case rel => exact ⟨m + 1, by omega, by go_num, hCs, hIs⟩
                      case measure => simp [intOf]; omega
                    · have cX := ncrash_any hOo late hlt
                      have hRx := hOp.rest late.data.toList
                      clear hOo hOp
                      go_wp2_with fail
                      refine cX.mono ?_
                      rintro e wo ⟨⟨ko, rfl⟩, hNo⟩
                      clear cX
                      have cT := ccontent_any hNo hRx (by decide) rfl
                      clear hNo hRx
                      go_wp2_with fail
                      refine cT.mono ?_
                      rintro e wp ⟨aoA, cpA, rfl, hAp, hbp⟩
                      have hCp := hCi.below hbp
                      have hIp := hIi.below hbp
                      clear cT hbp
                      have cS : Calls Try.prog 33 #[.slice aoA 23 cpA, .slice aoI 23 cpI] wp fun e w' => e = .returned (.bool true) ∧ ∃ q, w' = wp.drewN q := by
                        have := same_any hAp.rd hIp.rd (by rw [txs_len]; decide) (by rw [txs_len]; decide)
                        rw [show decide (txs 23 y = txs 23 y) = true by simp] at this
                        exact this
                      clear hAp
                      go_wp2_with fail
                      refine cS.mono ?_
                      rintro e w' ⟨rfl, qs, hw'⟩
                      rw [hw']
                      clear hw' w' cS
                      have hdr : Below wp.heap.size wp (wp.drewN qs) := (Only.drewN [] wp qs).nil_below
                      have hCs := hCp.below hdr
                      have hIs := hIp.below hdr
                      clear hCp hIp hdr
                      have HB := hCs.b
                      have hDz := hDq.below HB
                      have hWz := hWq.below HB
                      have hNz := hNq.below HB
                      go_wp2_with fail
                      go_roundw
                      case rel => exact ⟨k + 1, by omega, by go_num, hDz, hWz, hNz⟩
                      case measure => simp [intOf]; omega
                  · have hm60' : ¬ (m : Int) ≤ 60 := by omega
                    have HB := hCi.b
                    have hDz := hDq.below HB
                    have hWz := hWq.below HB
                    have hNz := hNq.below HB
                    go_wp2_with fail
                    go_roundw
                    case rel => exact ⟨k + 1, by omega, by go_num, hDz, hWz, hNz⟩
                    case measure => simp [intOf]; omega
            · have hk200' : ¬ (k : Int) ≤ 200 := by omega
              go_wp2_with fail
              go_ret
              exact ⟨rfl, hDq.b⟩
    · have hne : (apartE 23 l != 0) = true := by simpa using hE
      clear hE
      generalize apartE 23 l = er at hne ⊢
      go_wp2_with fail
      go_ret
      exact ⟨rfl, hD5.b⟩
  · have hb1 : (apartE 23 l1 == 0) = false := by simpa using hE1
    rw [hb1]
    clear hE1 hb1 hC1
    go_wp2_with fail
    go_ret
    exact ⟨rfl, hD4.b⟩

theorem own : ownKnob Try.prog.godebug = none := by kernel_rfl
theorem laidOut : laidOutB Try.prog = true := by kernel_rfl

set_option maxRecDepth 20000 in
theorem contract (H : Type) (enc : TypeId × Value → H) (W : World) (base : Nat) (args : Array Value) (ds gs : List (DataW H)) (before : List MemPlace)
    (hval : ∀ (j : Nat) t v, Try.f7.params[j]? = some t → args[j]? = some v → Value.okWide Try.prog W .any base t v)
    (hW : DataW.Whole enc Try.prog Try.f7.params.toList Rows.walEverySpec.vars false W args.toList ds gs before) :
    Calls Try.prog 7 args W fun e W' => ∃ v, e = .returned v ∧ Rows.walEverySpec.post enc Try.prog Try.f7 false true false false W args v W' := by
  have hW' := hW
  obtain ⟨p, q, hA0, hV, rfl, hfz, hnd⟩ := hW
  have hA : DataW.TrodAll enc Try.prog W 0 (fun _ => true) true Try.f7.params.toList args.toList ds p := hA0
  rw [Try.params7] at hA hval
  obtain ⟨v0, vs0, d0, ds0, p0, q0, hargs, rfl, rfl, h0, r0⟩ := trodAll_cons hA
  obtain ⟨v1, vs1, d1, ds1, p1, q1, rfl, rfl, rfl, h1, r1⟩ := trodAll_cons r0
  obtain ⟨v2, vs2, d2, ds2, p2, q2, rfl, rfl, rfl, h2, r2⟩ := trodAll_cons r1
  obtain ⟨v3, vs3, d3, ds3, p3, q3, rfl, rfl, rfl, h3, r3⟩ := trodAll_cons r2
  obtain ⟨rfl, rfl, rfl⟩ := trodAll_nil r3
  obtain rfl : args = #[v0, v1, v2, v3] := by cases args; simp_all
  obtain ⟨rfl, rfl⟩ := trodVars_none hV
  have k0 := h0
  have lt0 : ∀ x ∈ p0, x.block < W.heap.size := by obtain ⟨m, hm⟩ := k0; exact DataW.trod_lt m _ _ _ hm
  have k1 := h1
  have lt1 : ∀ x ∈ p1, x.block < W.heap.size := by obtain ⟨m, hm⟩ := k1; exact DataW.trod_lt m _ _ _ hm
  have k2 := h2
  have lt2 : ∀ x ∈ p2, x.block < W.heap.size := by obtain ⟨m, hm⟩ := k2; exact DataW.trod_lt m _ _ _ hm
  have k3 := h3
  have lt3 : ∀ x ∈ p3, x.block < W.heap.size := by obtain ⟨m, hm⟩ := k3; exact DataW.trod_lt m _ _ _ hm
  obtain ⟨a0, len0, cap0, rfl⟩ := okWide_slice Try.underlying48 (hval 0 48 v0 rfl rfl)
  obtain ⟨fuel0, hf0⟩ := h0
  obtain ⟨l0, rd0, ln0, ok0⟩ := open_wrs hf0
  obtain ⟨a1, len1, cap1, rfl⟩ := okWide_slice Try.underlying48 (hval 1 48 v1 rfl rfl)
  obtain ⟨fuel1, hf1⟩ := h1
  obtain ⟨l1, rd1, ln1, ok1⟩ := open_wrs hf1
  obtain ⟨a2, rfl, rfl, rfl, w2⟩ := open_string Try.underlying9 (hval 2 9 v2 rfl rfl) h2
  obtain ⟨a3, rfl, rfl, rfl, w3⟩ := open_string Try.underlying9 (hval 3 9 v3 rfl rfl) h3
  clear hA0
  simp only [List.append_nil] at hW'
  refine (walk (.slice a0 len0 cap0) l0 (.slice a1 len1 cap1) l1 a2 a3 W rd0 ln0 ok0 rd1 ln1 ok1 w2 w3).mono fun e W' ⟨he, bel⟩ => ?_
  subst he
  exact ⟨_, rfl, _, _, _, [], _, [], hW', trodAll_mk1 (shut_bool Try.underlying4 _), (trodAll_cons_mk (Below.trod laidOut (by kernel_rfl) (of_decide_eq_true (by kernel_rfl)) k0 bel lt0) (trodAll_cons_mk (Below.trod laidOut (by kernel_rfl) (of_decide_eq_true (by kernel_rfl)) k1 bel lt1) (trodAll_cons_mk (Below.trod laidOut (by kernel_rfl) (of_decide_eq_true (by kernel_rfl)) k2 bel lt2) (trodAll_cons_mk (Below.trod laidOut (by kernel_rfl) (of_decide_eq_true (by kernel_rfl)) k3 bel lt3) trodAll_mk0)))), rfl, bel.frame _, fun h => by cases h⟩

set_option maxRecDepth 100000 in
theorem lifted (os : Os) (started : os.Started) (H : Type) (enc : TypeId × Value → H) :
    ReturnsInHanded {} Try.checked os 7 .any (Rows.walEverySpec.pre6 enc Try.prog Try.f7 Rows.walEveryRow.domain false) (Rows.walEverySpec.post enc Try.prog Try.f7 false true false false) := by
  refine returnsInHanded_of_change (C := Try.checked) own started (by kernel_rfl) Try.func7
    (ChangeSpec.witness6 (enc := enc) (C := Try.checked) false ⟨#[], #[.slice none 0 0, .slice none 0 0, .string .empty, .string .empty], []⟩ 8 (by kernel_rfl) (by kernel_rfl) (by kernel_rfl) (by kernel_rfl)) ?_
  intro W base args ds gs before hval hW _ _
  exact contract H enc W base args ds gs before hval hW

theorem holds : Rows.WalEverySaid :=
  OpenClaim.holds_of_wide 7 Try.f7 rfl rfl rfl rfl rfl rfl rfl ⟨rfl, rfl, rfl, rfl, rfl⟩ rfl rfl rfl rfl rfl (by kernel_rfl) Try.func7 (by kernel_rfl)
    (of_decide_eq_true (by kernel_rfl)) (by unfold Func.isWrapper; first | (rw [if_pos (by decide +kernel)]; kernel_rfl) | (rw [if_neg (by decide +kernel)]; exact ⟨rfl, rfl⟩))
    (fun os started H enc _ => lifted os started H enc)
end Go.Proofs.Ytblhmfkohbdmeaa.walEvery
namespace Go.Proofs.Ytblhmfkohbdmeaa
theorem walEvery_holds : Rows.WalEverySaid := walEvery.holds
#print axioms walEvery_holds
end Go.Proofs.Ytblhmfkohbdmeaa
