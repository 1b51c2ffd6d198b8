/-
  The reference: Check.
-/
import Derived.Test.YtdpkcmagegiadaaDgQ
namespace Go.Proofs.Ytdpkcmagegiadaa
open Go.Maps Go.WideShapes Go.RowKit Go.ChangeShapes Go.ChangeAt Go.PlainAid

theorem below_drewN (w : World) (n : Nat) : Below w.heap.size w (w.drewN n) := by
  induction n with
  | zero => exact Below.refl _ _
  | succ n ih => exact ih.drew
theorem Try.infoLkS : (Try.prog.info? 36).map (fun i => (i.zero, i.size, i.bytes)) = some (some (.agg #[.int .i64 0, .slice none 0 0]), 2, 32) := by kernel_rfl
theorem sizeLk (W : World) : Sem.run Try.prog (sizeOf 36) W = .ok 2 W := by
  obtain ⟨i0, hi, hz0, hz1, hz2⟩ := info_parts Try.infoLkS
  simp [sizeOf, typeInfo, hi, hz1]
theorem addr2 (b o j : Nat) : (⟨b, o, none⟩ : Addr).add j = ⟨b, o + j, none⟩ := by unfold Addr.add; split <;> simp_all
set_option maxRecDepth 20000 in
theorem slice_head (b o len cp n : Nat) (hn : n ≤ len) (hc : len ≤ cp) (h0 : 0 < cp) (W : World) :
    (Instr.slice 22 (.slice (some ⟨b, o, none⟩) len cp) none (some (.int .i64 (n : Int))) none).run Try.prog W = .ok (.slice (some ⟨b, o, none⟩) n cp) W := by
  rw [run_slice_h (P := Try.prog) W 22 (some ⟨b, o, none⟩) len cp Try.underlying22 .i64 (n : Int) (by omega) (by omega)]
  have e : Try.prog.elem 22 = 36 := by kernel_rfl
  rw [e, sizeLk]
  simp only [Result.andThen, sliced, Int.toNat_natCast, Option.map_some, Nat.zero_mul, addr2]
  rw [if_neg (by omega)]
  simp
theorem RdL.take {W : World} {b o len cp : Nat} {L : List Lk} (h : RdL W (.slice (some ⟨b, o, none⟩) len cp) L) {n : Nat} (hn : n ≤ L.length) : RdL W (.slice (some ⟨b, o, none⟩) n cp) (L.take n) := by
  obtain ⟨_, _, e, ⟨h0, _⟩, hc⟩ := h
  cases e
  refine ⟨_, cp, by rw [List.length_take, Nat.min_eq_left hn], ⟨by rw [List.length_take]; omega, fun h => by cases h⟩, fun i k hk => ?_⟩
  have hi := (List.getElem?_eq_some_iff.1 hk).1
  rw [List.length_take] at hi
  rw [List.getElem?_take, if_pos (by omega)] at hk
  exact hc i k hk

/-- Of the first j no two that follow one another are the same. -/
def AdjOk (ps : List Int) (j : Nat) : Prop := ∀ i (hi : i < ps.length), i < j → 0 < i → ps[i] ≠ ps[i - 1]
theorem chkR_bad {L : List Lk} (h : ¬ Good L) : chkR L = 130 := by unfold chkR; rw [goodB_false h]; rfl
theorem chkR_ok {L : List Lk} (h : Good L) : chkR L = 0 := by unfold chkR; rw [goodB_true h]; rfl
theorem lastN_take {L : List Lk} {k : Nat} (hk : k ≤ L.length) (h0 : 0 < k) : lastN (L.take k) = (L[k - 1]'(by omega)).num := by
  have e : L.take k = L.take (k - 1) ++ [L[k - 1]'(by omega)] := by
    have := List.take_succ_eq_append_getElem (l := L) (i := k - 1) (by omega)
    rwa [show k - 1 + 1 = k by omega] at this
  rw [e, lastN_snoc]

set_option maxRecDepth 20000 in
set_option maxHeartbeats 2000000 in
theorem rcheck_any {w : World} {v : Value} {L : List Lk} (hv : RdL w v L) (hl : L.length ≤ maxLen) (hok : ∀ k ∈ L, k.Ok) :
    Calls Try.prog 13 #[v] w fun e w' => e = .returned (.int .i64 (chkR L)) ∧ Below w.heap.size w w' := by
  have hrd : ∀ W, Below w.heap.size w W → RdL W v L := fun W ho => hv.below ho
  unfold maxLen at hl
  obtain ⟨ao, cp, rfl, ⟨hcp, -⟩, -⟩ := id hv
  clear hv
  by_cases h3 : (300 : Int) < (L.length : Int)
  · have HB : Hid (chkR L = 130) := chkR_bad (fun hg => by have := good_300 hg; omega)
    clear hok hrd
    go_enter Try.func13, Try.ntmps13
    go_wp2_with fail
    go_ret
    exact ⟨ret_int HB.out.symm, Below.refl _ _⟩
  · go_enter Try.func13, Try.ntmps13
    go_wp2_with fail
    go_loopw [3] (fun i wr => ∃ k : Nat, k ≤ L.length ∧ i = .int .i64 (k : Int) ∧ Good (L.take k) ∧ Below w.heap.size w wr) (fun i _ => L.length - (Go.RowKit.intOf i).toNat)
    case atStart => exact ⟨0, Nat.zero_le _, rfl, by rw [List.take_zero]; exact good_nil, Below.refl _ _⟩
    case round =>
      obtain ⟨k, hk, rfl, hG, hbel⟩ := hrel
      by_cases c : k < L.length
      · have c' : (k : Int) < (L.length : Int) := by omega
        obtain ⟨_, _, e1, -, hcs⟩ := hrd wr hbel
        obtain ⟨g, off, pv, e2, hg, c0, c1, hps⟩ := hcs k L[k] (by simp [c])
        simp at e1
        obtain ⟨rfl, rfl⟩ := e1
        subst e2
        have hpv : Hid (0 < k → wr.cell? ⟨g, off + (k - 1) * 2, none⟩ = some (.int .i64 (lastN (L.take k)))) := fun h0 => by
          obtain ⟨g', off', pv', e3, _, d0, _⟩ := hcs (k - 1) (L[k - 1]'(by omega)) (by rw [List.getElem?_eq_getElem (by omega)])
          simp at e3
          obtain ⟨rfl, rfl⟩ := e3
          rw [lastN_take (by omega) h0]
          exact d0
        have hl0 : Hid (k = 0 → lastN (L.take k) = 0) := fun h => by subst h; rfl
        have hgb := good_bd hG
        have HNG : Hid (¬ Fits (L.take k) L[k] → chkR L = 130) := fun h => chkR_bad (not_good c h)
        have HT : Hid (Fits (L.take k) L[k] → Good (L.take (k + 1))) := good_snoc hG c
        have HGK : Hid (Good (L.take k)) := hG
        have hkO := hok L[k] (by simp)
        have hRT := (hrd wr hbel).take hk
        clear hcs hok
        generalize L[k] = lk at *
        have hn0 := hkO.n0
        have hn1 := hkO.n1
        have hpl := hkO.pl
        unfold maxLen at hpl
        have hpb := hkO.pb
        clear hkO
        obtain ⟨pao, pcp, rfl, -⟩ := id hps
        obtain ⟨-, hb2, -, hb4⟩ := hgb
        have hX := Box.new wr lk.num (.slice pao lk.ps.length pcp)
        have hA := alloc_below wr (.cells #[.int .i64 lk.num, .slice pao lk.ps.length pcp] 36)
        have hbel1 := chain hbel hA
        have hps1 := hps.below hA
        have hRT1 := hRT.below hA
        have hgl : g < wr.heap.size := hg
        have x0 := hX.c0
        have x1 := hX.c1
        have hpl' : (lk.ps.length : Int) ≤ 9223372036854775807 := by omega
        clear hps hRT hrd
        have hX1 := hX
        by_cases a1 : lk.num < 1
        · have hbad : Hid (chkR L = 130) := HNG.out (fun hf => by have := hf.lo; omega)
          have a1' : decide (lk.num < 1) = true := decide_eq_true a1
          clear HNG HT hRT1 hps1
          go_wp2_with fail
          go_quiet (fail)
          go_wp2_with fail
          go_ret
          exact ⟨ret_int hbad.out.symm, chain hbel1 (below_drewN _ _)⟩
        · have a1' : decide (lk.num < 1) = false := decide_eq_false a1
          by_cases a2 : 300 < lk.num
          · have hbad : Hid (chkR L = 130) := HNG.out (fun hf => by have := hf.hi; omega)
            have a2' : decide (300 < lk.num) = true := decide_eq_true a2
            clear HNG HT hRT1 hps1
            go_wp2_with fail
            go_quiet (fail)
            go_wp2_with fail
            go_ret
            exact ⟨ret_int hbad.out.symm, chain hbel1 (below_drewN _ _)⟩
          · have a2' : decide (300 < lk.num) = false := decide_eq_false a2
            by_cases a3 : (0 : Int) < (k : Int)
            · have a3' : decide (0 < k) = true := decide_eq_true (by omega)
              have hp0 := hpv.out (by omega)
              have y0 : (wr.alloc (.cells #[.int .i64 lk.num, .slice pao lk.ps.length pcp] 36)).cell? ⟨g, off + (k - 1) * 2, none⟩ = some (.int .i64 (lastN (L.take k))) := (hA.cell (p := ⟨g, off + (k - 1) * 2, none⟩) hgl).trans hp0
              clear hp0
              by_cases a4 : lk.num ≤ lastN (L.take k)
              · have hbad : Hid (chkR L = 130) := HNG.out (fun hf => by have := hf.lo; omega)
                have a4' : decide (lk.num ≤ lastN (L.take k)) = true := decide_eq_true a4
                clear HNG HT hRT1 hps1
                go_wp2_with fail
                go_quiet (fail)
                go_wp2_with fail
                go_ret
                exact ⟨ret_int hbad.out.symm, chain hbel1 (below_drewN _ _)⟩
              · have a4' : decide (lk.num ≤ lastN (L.take k)) = false := decide_eq_false a4
                by_cases a5 : (2 : Int) < (lk.ps.length : Int)
                · have hbad : Hid (chkR L = 130) := HNG.out (fun hf => by have := hf.two; omega)
                  have a5' : decide ((2 : Int) < (lk.ps.length : Int)) = true := decide_eq_true a5
                  clear HNG HT hRT1 hps1
                  go_wp2_with fail
                  go_quiet (fail)
                  go_wp2_with fail
                  go_ret
                  exact ⟨ret_int hbad.out.symm, chain hbel1 (below_drewN _ _)⟩
                · have a5' : decide ((2 : Int) < (lk.ps.length : Int)) = false := decide_eq_false a5
                  have HLO : Hid (lastN (L.take k) < lk.num) := by show _ < _; omega
                  clear hbel hA hX hpv hl0 hb2 hb4
                  go_wp2_with fail
                  go_quiet (fail)
                  clear x0 x1 c0 c1
                  have hD := below_drewN (wr.alloc (.cells #[.int .i64 lk.num, .slice pao lk.ps.length pcp] 36)) nq
                  have hbel2 := chain hbel1 hD
                  have hX2 := hX1.below hD
                  have hps2 := hps1.below hD
                  have hRT2 := hRT1.below hD
                  clear hbel1 hX1 hps1 hRT1 hD
                  generalize (wr.alloc (.cells #[.int .i64 lk.num, .slice pao lk.ps.length pcp] 36)).drewN nq = w2 at *
                  obtain ⟨w0, rfl⟩ : ∃ x, x = wr := ⟨_, rfl⟩
                  have hx2 := hX2.c1
                  go_wp2_with fail
                  clear hx2
                  go_loopw [5] (fun i wx => ∃ j : Nat, j ≤ lk.ps.length ∧ i = .int .i64 (j : Int) ∧ Below w.heap.size w wx ∧ Box wx w0.heap.size lk.num (.slice pao lk.ps.length pcp) ∧ RdI wx (.slice pao lk.ps.length pcp) lk.ps ∧ RdL wx (.slice (some ⟨g, off, none⟩) k cp) (L.take k) ∧ (∀ p ∈ lk.ps.take j, p ∈ nums (L.take k)) ∧ (AdjOk lk.ps j)) (fun i _ => lk.ps.length - (Go.RowKit.intOf i).toNat)
                  case atStart => exact ⟨0, Nat.zero_le _, rfl, hbel2, hX2, hps2, hRT2, by simp, fun i _ h => by omega⟩
                  case round =>
                    obtain ⟨j, hj, rfl, hbel3, hX3, hps3, hRT3, HM, HA⟩ := hrel
                    have HM' : Hid (∀ p ∈ lk.ps.take j, p ∈ nums (L.take k)) := HM
                    have HA' : Hid (AdjOk lk.ps j) := HA
                    clear HM HA hbel2 hX2 hps2 hRT2
                    have x1 := hX3.c1
                    by_cases cj : j < lk.ps.length
                    · have cj' : (j : Int) < (lk.ps.length : Int) := by omega
                      obtain ⟨_, _, e1, hcs⟩ := id hps3
                      obtain ⟨pg, poff, e2, hpg, d0⟩ := hcs j lk.ps[j] (by simp [cj])
                      simp at e1
                      obtain ⟨rfl, rfl⟩ := e1
                      subst e2
                      have cF : ∀ n, Calls Try.prog 22 #[.slice (some ⟨g, off, none⟩) k cp, .int .i64 lk.ps[j]] (wr.drewN n) fun e w' => e = .returned (.int .i64 (fdI (L.take k) lk.ps[j])) ∧ w' = wr.drewN n := fun n => find_any lk.ps[j] (hRT3.below (below_drewN wr n)) (by rw [List.length_take]; omega)
                      have hfd := fdI_neg HGK.out lk.ps[j]
                      have hsl := slice_head g off L.length cp k hk hcp (by omega)
                      have hk3 : (k : Int) ≤ (L.length : Int) := by omega
                      by_cases hr : fdI (L.take k) lk.ps[j] < 0
                      · have hr' : decide (fdI (L.take k) lk.ps[j] < 0) = true := decide_eq_true hr
                        have hbad : Hid (chkR L = 130) := HNG.out (fun hf => (hfd.1 hr) (hf.mem lk.ps[j] (by simp)))
                        clear HNG HT hfd hcs HM' HA' hpb hr
                        generalize fdI (L.take k) lk.ps[j] = r at *
                        generalize lk.ps[j] = p at *
                        go_wp2_with fail
                        go_quiet ((go_at_call 22; exact Calls.quiet_of_same (cF _)))
                        go_wp2_with fail
                        go_ret
                        exact ⟨ret_int hbad.out.symm, chain hbel3 (below_drewN _ _)⟩
                      · have hr' : decide (fdI (L.take k) lk.ps[j] < 0) = false := decide_eq_false hr
                        have HM2 : Hid (∀ p ∈ lk.ps.take (j + 1), p ∈ nums (L.take k)) := by
                          intro p hp
                          rw [List.take_succ_eq_append_getElem cj] at hp
                          rcases List.mem_append.1 hp with hp | hp
                          · exact HM'.out p hp
                          · simp at hp
                            subst hp
                            exact Classical.byContradiction fun h => hr (hfd.2 h)
                        clear hfd HM' hr
                        by_cases j0 : j = 0
                        · have j0' : decide (0 < j) = false := decide_eq_false (by omega)
                          have HA2 : Hid (AdjOk lk.ps (j + 1)) := fun i _ h1 h2 => by omega
                          clear HNG HT hcs HA' hpb j0
                          generalize fdI (L.take k) lk.ps[j] = r at *
                          generalize lk.ps[j] = p at *
                          go_wp2_with fail
                          go_quiet ((go_at_call 22; exact Calls.quiet_of_same (cF _)))
                          go_wp2_with fail
                          exact ⟨⟨j + 1, by omega, by go_num, chain hbel3 (below_drewN _ _), hX3.below (below_drewN _ _), hps3.below (below_drewN _ _), hRT3.below (below_drewN _ _), HM2.out, HA2.out⟩, by simp only [Go.RowKit.intOf]; omega⟩
                        · have j0' : decide (0 < j) = true := decide_eq_true (by omega)
                          have j1 : j = 1 := by omega
                          have l1 : (1 : Int) < (lk.ps.length : Int) := by omega
                          have l0 : (0 : Int) < (lk.ps.length : Int) := by omega
                          obtain ⟨pg0, poff0, e3, _, q0⟩ := hcs 0 (lk.ps[0]'(by omega)) (by rw [List.getElem?_eq_getElem (by omega)])
                          simp at e3
                          obtain ⟨rfl, rfl⟩ := e3
                          obtain ⟨pg1, poff1, e4, _, q1⟩ := hcs 1 (lk.ps[1]'(by omega)) (by rw [List.getElem?_eq_getElem (by omega)])
                          simp at e4
                          obtain ⟨rfl, rfl⟩ := e4
                          rw [Nat.add_zero] at q0
                          have HEQ : Hid ((lk.ps[0]'(by omega)) = (lk.ps[1]'(by omega)) → chkR L = 130) := fun he => HNG.out (fun hf => nodup_adj hf.nd 1 (by omega) (by omega) he.symm)
                          have HNE : Hid ((lk.ps[0]'(by omega)) ≠ (lk.ps[1]'(by omega)) → AdjOk lk.ps (j + 1)) := fun he i hi h1 h2 => by
                            have : i = 1 := by omega
                            subst this
                            exact fun e => he e.symm
                          clear HNG HT hcs HA' hpb j0
                          generalize fdI (L.take k) lk.ps[j] = r at *
                          generalize lk.ps[j] = p at *
                          generalize (lk.ps[0]'(by omega)) = p0 at *
                          generalize (lk.ps[1]'(by omega)) = p1 at *
                          clear j1
                          by_cases he : p0 = p1
                          · have hbad' := HEQ.out he
                            have hbad : Hid (chkR L = 130) := hbad'
                            have he' : (p0 == p1) = true := by simpa using he
                            clear HEQ HNE hbad' he HM2
                            go_wp2_with fail
                            go_quiet ((go_at_call 22; exact Calls.quiet_of_same (cF _)))
                            go_wp2_with fail
                            go_ret
                            exact ⟨ret_int hbad.out.symm, chain hbel3 (below_drewN _ _)⟩
                          · have HA2' := HNE.out he
                            have HA2 : Hid (AdjOk lk.ps (j + 1)) := HA2'
                            have he' : (p0 == p1) = false := by simpa using he
                            clear HEQ HNE HA2' he
                            go_wp2_with fail
                            go_quiet ((go_at_call 22; exact Calls.quiet_of_same (cF _)))
                            go_wp2_with fail
                            exact ⟨⟨j + 1, by omega, by go_num, chain hbel3 (below_drewN _ _), hX3.below (below_drewN _ _), hps3.below (below_drewN _ _), hRT3.below (below_drewN _ _), HM2.out, HA2.out⟩, by simp only [Go.RowKit.intOf]; omega⟩
                    · obtain rfl : j = lk.ps.length := by omega
                      have hf : Fits (L.take k) lk := ⟨HLO.out, by omega, by omega, fun p hp => HM'.out p (by rw [List.take_length]; exact hp), nodup_two (by omega) (fun i hi h0 => HA'.out i hi hi h0)⟩
                      have HG2 : Hid (Good (L.take (k + 1))) := HT.out hf
                      clear HT HNG HM' HA' hf hps3 hRT3
                      go_wp2_with fail
                      exact ⟨⟨k + 1, by omega, by go_num, HG2.out, hbel3⟩, by simp only [Go.RowKit.intOf]; omega⟩
            · have a3' : decide (0 < k) = false := decide_eq_false (by omega)
              have hlz := hl0.out (by omega)
              by_cases a5 : (2 : Int) < (lk.ps.length : Int)
              · have hbad : Hid (chkR L = 130) := HNG.out (fun hf => by have := hf.two; omega)
                have a5' : decide ((2 : Int) < (lk.ps.length : Int)) = true := decide_eq_true a5
                clear hlz
                clear HNG HT hRT1 hps1
                go_wp2_with fail
                go_quiet (fail)
                go_wp2_with fail
                go_ret
                exact ⟨ret_int hbad.out.symm, chain hbel1 (below_drewN _ _)⟩
              · have a5' : decide ((2 : Int) < (lk.ps.length : Int)) = false := decide_eq_false a5
                have HLO : Hid (lastN (L.take k) < lk.num) := by show _ < _; omega
                clear hlz
                clear hbel hA hX hpv hl0 hb2 hb4
                go_wp2_with fail
                go_quiet (fail)
                clear x0 x1 c0 c1
                have hD := below_drewN (wr.alloc (.cells #[.int .i64 lk.num, .slice pao lk.ps.length pcp] 36)) nq
                have hbel2 := chain hbel1 hD
                have hX2 := hX1.below hD
                have hps2 := hps1.below hD
                have hRT2 := hRT1.below hD
                clear hbel1 hX1 hps1 hRT1 hD
                generalize (wr.alloc (.cells #[.int .i64 lk.num, .slice pao lk.ps.length pcp] 36)).drewN nq = w2 at *
                obtain ⟨w0, rfl⟩ : ∃ x, x = wr := ⟨_, rfl⟩
                have hx2 := hX2.c1
                go_wp2_with fail
                clear hx2
                go_loopw [5] (fun i wx => ∃ j : Nat, j ≤ lk.ps.length ∧ i = .int .i64 (j : Int) ∧ Below w.heap.size w wx ∧ Box wx w0.heap.size lk.num (.slice pao lk.ps.length pcp) ∧ RdI wx (.slice pao lk.ps.length pcp) lk.ps ∧ RdL wx (.slice (some ⟨g, off, none⟩) k cp) (L.take k) ∧ (∀ p ∈ lk.ps.take j, p ∈ nums (L.take k)) ∧ (AdjOk lk.ps j)) (fun i _ => lk.ps.length - (Go.RowKit.intOf i).toNat)
                case atStart => exact ⟨0, Nat.zero_le _, rfl, hbel2, hX2, hps2, hRT2, by simp, fun i _ h => by omega⟩
                case round =>
                  obtain ⟨j, hj, rfl, hbel3, hX3, hps3, hRT3, HM, HA⟩ := hrel
                  have HM' : Hid (∀ p ∈ lk.ps.take j, p ∈ nums (L.take k)) := HM
                  have HA' : Hid (AdjOk lk.ps j) := HA
                  clear HM HA hbel2 hX2 hps2 hRT2
                  have x1 := hX3.c1
                  by_cases cj : j < lk.ps.length
                  · have cj' : (j : Int) < (lk.ps.length : Int) := by omega
                    obtain ⟨_, _, e1, hcs⟩ := id hps3
                    obtain ⟨pg, poff, e2, hpg, d0⟩ := hcs j lk.ps[j] (by simp [cj])
                    simp at e1
                    obtain ⟨rfl, rfl⟩ := e1
                    subst e2
                    have cF : ∀ n, Calls Try.prog 22 #[.slice (some ⟨g, off, none⟩) k cp, .int .i64 lk.ps[j]] (wr.drewN n) fun e w' => e = .returned (.int .i64 (fdI (L.take k) lk.ps[j])) ∧ w' = wr.drewN n := fun n => find_any lk.ps[j] (hRT3.below (below_drewN wr n)) (by rw [List.length_take]; omega)
                    have hfd := fdI_neg HGK.out lk.ps[j]
                    have hsl := slice_head g off L.length cp k hk hcp (by omega)
                    have hk3 : (k : Int) ≤ (L.length : Int) := by omega
                    by_cases hr : fdI (L.take k) lk.ps[j] < 0
                    · have hr' : decide (fdI (L.take k) lk.ps[j] < 0) = true := decide_eq_true hr
                      have hbad : Hid (chkR L = 130) := HNG.out (fun hf => (hfd.1 hr) (hf.mem lk.ps[j] (by simp)))
                      clear HNG HT hfd hcs HM' HA' hpb hr
                      generalize fdI (L.take k) lk.ps[j] = r at *
                      generalize lk.ps[j] = p at *
                      go_wp2_with fail
                      go_quiet ((go_at_call 22; exact Calls.quiet_of_same (cF _)))
                      go_wp2_with fail
                      go_ret
                      exact ⟨ret_int hbad.out.symm, chain hbel3 (below_drewN _ _)⟩
                    · have hr' : decide (fdI (L.take k) lk.ps[j] < 0) = false := decide_eq_false hr
                      have HM2 : Hid (∀ p ∈ lk.ps.take (j + 1), p ∈ nums (L.take k)) := by
                        intro p hp
                        rw [List.take_succ_eq_append_getElem cj] at hp
                        rcases List.mem_append.1 hp with hp | hp
                        · exact HM'.out p hp
                        · simp at hp
                          subst hp
                          exact Classical.byContradiction fun h => hr (hfd.2 h)
                      clear hfd HM' hr
                      by_cases j0 : j = 0
                      · have j0' : decide (0 < j) = false := decide_eq_false (by omega)
                        have HA2 : Hid (AdjOk lk.ps (j + 1)) := fun i _ h1 h2 => by omega
                        clear HNG HT hcs HA' hpb j0
                        generalize fdI (L.take k) lk.ps[j] = r at *
                        generalize lk.ps[j] = p at *
                        go_wp2_with fail
                        go_quiet ((go_at_call 22; exact Calls.quiet_of_same (cF _)))
                        go_wp2_with fail
                        exact ⟨⟨j + 1, by omega, by go_num, chain hbel3 (below_drewN _ _), hX3.below (below_drewN _ _), hps3.below (below_drewN _ _), hRT3.below (below_drewN _ _), HM2.out, HA2.out⟩, by simp only [Go.RowKit.intOf]; omega⟩
                      · have j0' : decide (0 < j) = true := decide_eq_true (by omega)
                        have j1 : j = 1 := by omega
                        have l1 : (1 : Int) < (lk.ps.length : Int) := by omega
                        have l0 : (0 : Int) < (lk.ps.length : Int) := by omega
                        obtain ⟨pg0, poff0, e3, _, q0⟩ := hcs 0 (lk.ps[0]'(by omega)) (by rw [List.getElem?_eq_getElem (by omega)])
                        simp at e3
                        obtain ⟨rfl, rfl⟩ := e3
                        obtain ⟨pg1, poff1, e4, _, q1⟩ := hcs 1 (lk.ps[1]'(by omega)) (by rw [List.getElem?_eq_getElem (by omega)])
                        simp at e4
                        obtain ⟨rfl, rfl⟩ := e4
                        rw [Nat.add_zero] at q0
                        have HEQ : Hid ((lk.ps[0]'(by omega)) = (lk.ps[1]'(by omega)) → chkR L = 130) := fun he => HNG.out (fun hf => nodup_adj hf.nd 1 (by omega) (by omega) he.symm)
                        have HNE : Hid ((lk.ps[0]'(by omega)) ≠ (lk.ps[1]'(by omega)) → AdjOk lk.ps (j + 1)) := fun he i hi h1 h2 => by
                          have : i = 1 := by omega
                          subst this
                          exact fun e => he e.symm
                        clear HNG HT hcs HA' hpb j0
                        generalize fdI (L.take k) lk.ps[j] = r at *
                        generalize lk.ps[j] = p at *
                        generalize (lk.ps[0]'(by omega)) = p0 at *
                        generalize (lk.ps[1]'(by omega)) = p1 at *
                        clear j1
                        by_cases he : p0 = p1
                        · have hbad' := HEQ.out he
                          have hbad : Hid (chkR L = 130) := hbad'
                          have he' : (p0 == p1) = true := by simpa using he
                          clear HEQ HNE hbad' he HM2
                          go_wp2_with fail
                          go_quiet ((go_at_call 22; exact Calls.quiet_of_same (cF _)))
                          go_wp2_with fail
                          go_ret
                          exact ⟨ret_int hbad.out.symm, chain hbel3 (below_drewN _ _)⟩
                        · have HA2' := HNE.out he
                          have HA2 : Hid (AdjOk lk.ps (j + 1)) := HA2'
                          have he' : (p0 == p1) = false := by simpa using he
                          clear HEQ HNE HA2' he
                          go_wp2_with fail
                          go_quiet ((go_at_call 22; exact Calls.quiet_of_same (cF _)))
                          go_wp2_with fail
                          exact ⟨⟨j + 1, by omega, by go_num, chain hbel3 (below_drewN _ _), hX3.below (below_drewN _ _), hps3.below (below_drewN _ _), hRT3.below (below_drewN _ _), HM2.out, HA2.out⟩, by simp only [Go.RowKit.intOf]; omega⟩
                  · obtain rfl : j = lk.ps.length := by omega
                    have hf : Fits (L.take k) lk := ⟨HLO.out, by omega, by omega, fun p hp => HM'.out p (by rw [List.take_length]; exact hp), nodup_two (by omega) (fun i hi h0 => HA'.out i hi hi h0)⟩
                    have HG2 : Hid (Good (L.take (k + 1))) := HT.out hf
                    clear HT HNG HM' HA' hf hps3 hRT3
                    go_wp2_with fail
                    exact ⟨⟨k + 1, by omega, by go_num, HG2.out, hbel3⟩, by simp only [Go.RowKit.intOf]; omega⟩
      · obtain rfl : k = L.length := by omega
        have HG : Hid (chkR L = 0) := chkR_ok (by rw [List.take_length] at hG; exact hG)
        clear hG hrd hok
        go_wp2_with fail
        go_ret
        exact ⟨ret_int HG.out.symm, hbel⟩
end Go.Proofs.Ytdpkcmagegiadaa
