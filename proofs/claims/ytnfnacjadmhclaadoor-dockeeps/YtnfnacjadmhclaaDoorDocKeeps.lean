/-
  Proved: what a delta keeps are the old atoms, and what it brings is fresh, in this order (the law DocKeeps), for every input.
-/
import Derived.Test.YtnfnacjadmhclaaDoorDpHDpI
import Derived.Test.YtnfnacjadmhclaaDoorDqB
import Derived.ChangeOld
namespace Go.Proofs.YtnfnacjadmhclaaDoor.docKeeps
open Go.RowKit Go.ChangeShapes Go.WideShapes Go.ChangeAt Go.PlainAid

theorem rda_cells {W : World} {ao : Option Addr} {N cp : Nat} {l : List Atm} (h : RdA W (.slice ao N cp) l) {i : Nat} {x : Atm} (hx : l[i]? = some x) : ∃ b off, ao = some ⟨b, off, none⟩ ∧ b < W.heap.size ∧
    W.cell? ⟨b, off + i * 4, none⟩ = some (.int .i64 x.c) ∧ W.cell? ⟨b, off + i * 4 + 1, none⟩ = some (.int .i64 x.q) ∧ W.cell? ⟨b, off + i * 4 + 2, none⟩ = some (.int .i64 x.n) ∧ W.cell? ⟨b, off + i * 4 + 3, none⟩ = some (.int .i64 x.z) := by
  obtain ⟨a, c, e, -, h⟩ := h
  injection e with e1 _ _
  subst e1
  exact h i x hx

set_option maxRecDepth 20000 in
set_option maxHeartbeats 1600000 in
theorem walk (v : Value) (l : List RunD) (vd : Value) (ds : List OpD) (c q : Int) (w : World) (hV : VS w) (hr : RdN w v l) (hm : l.length ≤ 4398046511104) (hi : ∀ r ∈ l, r.Bd ∧ r.In) (hd : RdD w vd ds) (hm2 : ds.length ≤ 4398046511104) (hi2 : ∀ o ∈ ds, o.In ∧ o.Ok)
    (_ : -9223372036854775808 ≤ c ∧ c ≤ 9223372036854775807) (_ : -9223372036854775808 ≤ q ∧ q ≤ 9223372036854775807) :
    Calls Tryd.prog 8 #[v, vd, .agg #[.int .i64 c, .int .i64 q]] w fun e w' => e = .returned (.bool true) ∧ Below w.heap.size w w' := by
  have hiR : ∀ r ∈ l, r.In := fun r h => (hi r h).2
  have hiO : ∀ o ∈ ds, o.In := fun o h => (hi2 o h).1
  have hA0 : Below w.heap.size w (w.alloc (.cells #[.int .i64 c, .int .i64 q] 29)) := (Below.refl _ w).alloc (Nat.le_refl _) _
  have hO : OB (w.alloc (.cells #[.int .i64 c, .int .i64 q] 29)) w.heap.size c q := heap_alloc_new w _
  obtain ⟨p0, p1, -, -⟩ := hO.facts
  have c1 := docApply_any v vd l ds c q _ (hV.below hA0) (hr.below hA0) (by omega) hiR (hd.below hA0) (by unfold maxLen; omega) hiO
  have cL := fun W h => live12_any W (hV.below h)
  obtain ⟨ao, cp, hv, -⟩ := id hr
  subst hv
  obtain ⟨ao2, cp2, hv2, -⟩ := id hd
  subst hv2
  by_cases h : dcE l ds c q = 0
  · obtain ⟨hat, hGM, -⟩ := dc_facts hiO h
    obtain ⟨hG, hch, hbs, -, hany, -⟩ := dc_ok h
    have hbd := hG.bound
    have hbM := hGM.bound
    have hAn := any_ats hany
    have hS := stR_back hch
    have hok := stR_ok hiO
    have hrk : ∀ r ∈ l, r.Ok := fun r hr => (hG.fit r hr).ok
    have hrM : ∀ r ∈ dcL l ds c q, r.Ok := fun r hr => (hGM.fit r hr).ok
    have hlA : (ats l).length ≤ 1000 := by rw [← num_ats hrk]; exact hG.len
    have hlB : (ats (dcL l ds c q)).length ≤ 1000 := by rw [← num_ats hrM]; exact hGM.len
    have hst : Ws c q (ats l) (ats (dcL l ds c q)) (stR ds) 0 0 0 0 := Ws.start (by rw [hbs, num_ats hrk]) hat (Int.le_trans (isum_le _ hok) (by have := (stR_bd ds).2; omega))
    have hds : ds.length = (stR ds).length := by rw [← hS, List.length_map, hS]
    have hso : ∀ i (h : i < (stR ds).length), ds[i]? = some (stR ds)[i].op := fun i h => by
      have e : ((stR ds).map St.op)[i]? = some (stR ds)[i].op := by simp [h]
      rw [hS] at e
      exact e
    have hSl := stR_len ds
    have c2 : ∀ W, Below w.heap.size w W → _ := fun W hb => atoms_any (.slice ao l.length cp) l W (hr.below hb) hrk (fun r hr => Nat.le_trans (txB_mem hr) (by omega)) (fun r hr => by obtain ⟨-, m2, m3, m4⟩ := mayR_iff.1 (hG.may r hr); omega) (by omega) (by omega)
    have c3 := fun u W (hu : RdN W u (dcL l ds c q)) => atoms_any u (dcL l ds c q) W hu hrM (fun r hr => Nat.le_trans (txB_mem hr) (by omega)) (fun r hr => by obtain ⟨-, m2, m3, m4⟩ := mayR_iff.1 (hGM.may r hr); omega) (by omega) (by omega)
    rw [h] at c1
    have hRd : ∀ W, Below w.heap.size w W → ∀ i o, ds[i]? = some o → ∃ b off, ao2 = some ⟨b, off, none⟩ ∧ W.cell? ⟨b, off + i * 3, none⟩ = some (.int .i64 o.k) ∧ W.cell? ⟨b, off + i * 3 + 1, none⟩ = some (.int .i64 o.n) := fun W hb i o hx => by
      obtain ⟨a, c, e, -, g⟩ := hd.below hb
      injection e with e1 _ _
      subst e1
      obtain ⟨b, off, e, -, g0, g1, -⟩ := g i o hx
      exact ⟨b, off, e, g0, g1⟩
    clear h hat hGM hG hr hd hi hiR hiO hi2 hch hbs hany hS hrk hrM
    generalize stR ds = S at *
    generalize ds.length = N at *
    subst hds
    generalize dcL l ds c q = M at *
    generalize ats l = A at *
    generalize ats M = B at *
    go_enter Tryd.func8, Tryd.ntmps8
    go_wp2_with fail
    refine c1.mono ?_
    rintro e w1 ⟨u1, rfl, ho1, hb⟩
    have r1 := rdn_own ho1
    obtain ⟨a1, k1, rfl⟩ := own_form ho1
    replace hO := hO.below hb
    replace hb := chain hA0 hb
    clear c1 ho1 hA0 p0 p1
    go_wp2_with fail
    refine (c2 _ hb).mono ?_
    rintro e w2 ⟨u2, rfl, ho2, q2⟩
    have rA := rda_own ho2
    obtain ⟨a2, k2, rfl⟩ := own_form ho2
    replace r1 := r1.below q2
    replace hO := hO.below q2
    replace hb := chain hb q2
    clear c2 q2 ho2
    go_wp2_with fail
    refine (c3 _ _ r1).mono ?_
    rintro e w3 ⟨u3, rfl, ho3, q3⟩
    have rB := rda_own ho3
    obtain ⟨a3, k3, rfl⟩ := own_form ho3
    replace rA := rA.below q3
    replace hO := hO.below q3
    replace hb := chain hb q3
    clear c3 q3 ho3 r1
    go_wp2_with fail
    go_loopw [11, 12, 13, 14] (fun st sT sF si wr => ∃ (i t T : Nat) (F : Int), si = .int .i64 (i : Int) ∧ st = .int .i64 (t : Int) ∧ sT = .int .i64 (T : Int) ∧ sF = .int .i64 F ∧ Ws c q A B S i t T F ∧ Below w3.heap.size w3 wr) (fun _ _ _ i _ => S.length - (Go.RowKit.intOf i).toNat)
    case atStart => exact ⟨0, 0, 0, 0, rfl, rfl, rfl, rfl, hst, Below.refl _ _⟩
    case round =>
      obtain ⟨i, t, T, F, rfl, rfl, rfl, rfl, hws, hbc⟩ := hrel
      obtain ⟨b1, b2, b3, b4, b5⟩ := hws.bd
      clear hst
      by_cases hiS : i < S.length
      · have hiS' : (i : Int) < (S.length : Int) := by omega
        have ho := hso i hiS
        have hsok := hok S[i] (by simp)
        clear hso
        cases hs : S[i] with
        | keep k =>
          rw [hs] at ho hsok
          have hk1 : 1 ≤ k := hsok.1
          obtain ⟨g1, g2, g3, g4⟩ := hws.keep hiS hs hk1 hAn
          obtain ⟨b, off, rfl, d0, d1⟩ := hRd _ (chain hb hbc) i _ ho
          have hD : ∀ W, Below w3.heap.size w3 W → W.cell? ⟨b, off + i * 3, none⟩ = some (.int .i64 1) := fun W h => by
            obtain ⟨b', off', e, f0, -⟩ := hRd _ (chain hb h) i _ ho
            cases e
            exact f0
          have hH : Hid (Ws c q A B S (i + 1) (t + k) (T + k) F) := g4
          change _ = some (Value.int .i64 1) at d0
          change _ = some (Value.int .i64 (k : Int)) at d1
          clear hws hs ho hsok g4 hRd hok hAn
          go_wp2_with fail
          obtain ⟨wz, rfl⟩ : ∃ y, y = wr := ⟨_, rfl⟩
          go_loopw [12, 17] (fun sT sk wr => ∃ j : Nat, j ≤ k ∧ sk = .int .i64 (j : Int) ∧ sT = .int .i64 ((T + j : Nat) : Int) ∧ Below w3.heap.size w3 wr) (fun _ j _ => k - (Go.RowKit.intOf j).toNat)
          case atStart => exact ⟨0, Nat.zero_le _, rfl, rfl, hbc⟩
          case round =>
            obtain ⟨j, hj, rfl, rfl, hbj⟩ := hrel
            clear d0 d1 hbc
            by_cases hjk : j < k
            · have hjk' : (j : Int) < (k : Int) := by omega
              obtain ⟨x, hx⟩ : ∃ x, A[t + j]? = some x := ⟨A[t + j]'(by omega), by simp [show t + j < A.length by omega]⟩
              have hy := (g3 j hjk).trans hx
              obtain ⟨ba, oa, rfl, -⟩ := rda_cells (rA.below hbj) hx
              obtain ⟨bb, ob, rfl, -⟩ := rda_cells (rB.below hbj) hy
              have xx := fun s : Beh wr => rda_cells ((rA.below hbj).below s.h) hx
              have yy := fun s : Beh wr => rda_cells ((rB.below hbj).below s.h) hy
              have x0 : ∀ s : Beh wr, s.it.cell? ⟨ba, oa + (t + j) * 4, none⟩ = some (.int .i64 x.c) := fun s => by obtain ⟨_, _, e, -, g, -⟩ := xx s; cases e; exact g
              have x1 : ∀ s : Beh wr, s.it.cell? ⟨ba, oa + (t + j) * 4 + 1, none⟩ = some (.int .i64 x.q) := fun s => by obtain ⟨_, _, e, -, -, g, -⟩ := xx s; cases e; exact g
              have x2 : ∀ s : Beh wr, s.it.cell? ⟨ba, oa + (t + j) * 4 + 2, none⟩ = some (.int .i64 x.n) := fun s => by obtain ⟨_, _, e, -, -, -, g, -⟩ := xx s; cases e; exact g
              have x3 : ∀ s : Beh wr, s.it.cell? ⟨ba, oa + (t + j) * 4 + 3, none⟩ = some (.int .i64 x.z) := fun s => by obtain ⟨_, _, e, -, -, -, -, g⟩ := xx s; cases e; exact g
              have y0 : ∀ s : Beh wr, s.it.cell? ⟨bb, ob + (T + j) * 4, none⟩ = some (.int .i64 x.c) := fun s => by obtain ⟨_, _, e, -, g, -⟩ := yy s; cases e; exact g
              have y1 : ∀ s : Beh wr, s.it.cell? ⟨bb, ob + (T + j) * 4 + 1, none⟩ = some (.int .i64 x.q) := fun s => by obtain ⟨_, _, e, -, -, g, -⟩ := yy s; cases e; exact g
              have y2 : ∀ s : Beh wr, s.it.cell? ⟨bb, ob + (T + j) * 4 + 2, none⟩ = some (.int .i64 x.n) := fun s => by obtain ⟨_, _, e, -, -, -, g, -⟩ := yy s; cases e; exact g
              have y3 : ∀ s : Beh wr, s.it.cell? ⟨bb, ob + (T + j) * 4 + 3, none⟩ = some (.int .i64 x.z) := fun s => by obtain ⟨_, _, e, -, -, -, -, g⟩ := yy s; cases e; exact g
              have hsm : x.same x = true := by simp [Atm.same]
              have cI := fun W => is_any x x W
              simp only [hsm] at cI
              have d0 := hD _ hbj
              have hTB : ((T + j : Nat) : Int) < (B.length : Int) := by omega
              have hTB' : (T : Int) + (j : Int) < (B.length : Int) := by omega
              have hTd : decide ((B.length : Int) ≤ (T : Int) + (j : Int)) = false := decide_eq_false (by omega)
              have htA : (t : Int) + (j : Int) < (A.length : Int) := by omega
              have htn : ((t : Int) + (j : Int)).toNat = t + j := by omega
              have hTn : ((T : Int) + (j : Int)).toNat = T + j := by omega
              clear hx hy g3 rA rB hsm hD xx yy
              generalize x.c = xc at *
              generalize x.q = xq at *
              generalize x.n = xn at *
              generalize x.z = xz at *
              go_upto_region 24 with fail
              go_cut [120] (fun tt wx => tt = .bool false ∧ Below w3.heap.size w3 wx)
              case first =>
                refine wp_region_beh (by kernel_rfl) (by kernel_rfl) ?_
                repeat (go_big_quiet_step ((go_at_call 30; exact Beh.call (cI _))))
                refine wpQuiet_nil ?_
                intro wq hw'
                have hwq := Beh.out hw'
                clear hw'
                go_wp2_with fail
                go_meet
                exact ⟨rfl, chain hbj hwq⟩
              case rest =>
                obtain ⟨rfl, hbk⟩ := hcut
                clear cI x0 x1 x2 x3 y0 y1 y2 y3 d0
                go_wp2_with fail
                exact ⟨⟨j + 1, by omega, by go_num, by go_num, hbk⟩, by simp [Go.RowKit.intOf]; omega⟩
            · obtain rfl : j = k := by omega
              clear g3 rA rB hD
              go_wp2_with fail
              exact ⟨⟨i + 1, t + j, T + j, F, by go_num, by go_num, rfl, rfl, hH.out, hbj⟩, by simp [Go.RowKit.intOf]; omega⟩
        | rem k =>
          rw [hs] at ho hsok
          have hk1 : 1 ≤ k := hsok.1
          have hk1' : (0 : Int) < (k : Int) := by omega
          have hH : Hid (Ws c q A B S (i + 1) (t + k) T F) := hws.rem hiS hs
          have hbb := hH.out.bd
          obtain ⟨b, off, rfl, d0, d1⟩ := hRd _ (chain hb hbc) i _ ho
          change _ = some (Value.int .i64 3) at d0
          change _ = some (Value.int .i64 (k : Int)) at d1
          have hD : ∀ W, Below w3.heap.size w3 W → W.cell? ⟨b, off + i * 3, none⟩ = some (.int .i64 3) := fun W h => by
            obtain ⟨b', off', e, f0, -⟩ := hRd _ (chain hb h) i _ ho
            cases e
            exact f0
          clear hws hs ho hsok hRd hok hAn rA rB
          go_wp2_with fail
          obtain ⟨wz, rfl⟩ : ∃ y, y = wr := ⟨_, rfl⟩
          go_loopw [12, 17] (fun sT sk wr => sk = .int .i64 0 ∧ sT = .int .i64 (T : Int) ∧ Below w3.heap.size w3 wr) (fun _ _ _ => 0)
          case atStart => exact ⟨rfl, rfl, hbc⟩
          case round =>
            obtain ⟨rfl, rfl, hbj⟩ := hrel
            clear d0 d1 hbc
            have d0 := hD _ hbj
            clear hD
            go_wp2_with fail
            exact ⟨⟨i + 1, t + k, T, F, by go_num, by go_num, rfl, rfl, hH.out, hbj⟩, by simp [Go.RowKit.intOf]; omega⟩
        | ins tt =>
          rw [hs] at ho
          obtain ⟨M', g1, g2, g3, g4, g5⟩ := hws.ins hiS hs hok hAn
          have hH : Hid (Ws c q A B S (i + 1) t (T + M') (F + (M' : Int))) := g5
          obtain ⟨b, off, rfl, d0, d1⟩ := hRd _ (chain hb hbc) i _ ho
          change _ = some (Value.int .i64 2) at d0
          change _ = some (Value.int .i64 0) at d1
          clear hws hs ho hsok hRd hok hAn g5
          go_wp2_with fail
          obtain ⟨wz, rfl⟩ : ∃ y, y = wr := ⟨_, rfl⟩
          go_loopw [13, 15, 16] (fun sF sn sk wr => ∃ d : Nat, d ≤ M' ∧ sF = .int .i64 (F + (d : Int)) ∧ sn = .int .i64 (d : Int) ∧ sk = .int .i64 ((T + d : Nat) : Int) ∧ Below w3.heap.size w3 wr) (fun _ n _ _ => M' - (Go.RowKit.intOf n).toNat)
          case atStart => exact ⟨0, Nat.zero_le _, by simp, rfl, rfl, hbc⟩
          case round =>
            obtain ⟨d, hd, rfl, rfl, rfl, hbj⟩ := hrel
            clear d0 d1 hbc
            obtain ⟨p0, p1, -, -⟩ := (hO.below hbj).facts
            by_cases hdM : d < M'
            · obtain ⟨z, hz⟩ := g3 d hdM
              obtain ⟨bb, ob, rfl, -, y0, y1, y2, -⟩ := rda_cells (rB.below hbj) hz
              change _ = some (Value.int .i64 c) at y0
              change _ = some (Value.int .i64 q) at y1
              change _ = some (Value.int .i64 (F + (d : Int))) at y2
              have hTB : (T : Int) + (d : Int) < (B.length : Int) := by omega
              have hTn : ((T : Int) + (d : Int)).toNat = T + d := by omega
              have hFd : F + (d : Int) < 2000 := by omega
              clear hz g3 g4 rA rB
              go_wp2_with fail
              go_quiet (fail)
              go_wp2_with fail
              exact ⟨⟨d + 1, by omega, by go_num, by go_num, by go_num, chain hbj (below_drewN _ _)⟩, by simp [Go.RowKit.intOf]; omega⟩
            · obtain rfl : d = M' := by omega
              by_cases hTB : T + d < B.length
              · have hTB' : (T : Int) + (d : Int) < (B.length : Int) := by omega
                have hTn : ((T : Int) + (d : Int)).toNat = T + d := by omega
                obtain ⟨y, hy⟩ : ∃ y, B[T + d]? = some y := ⟨B[T + d], by simp [hTB]⟩
                have hn := g4 y hy
                obtain ⟨bb, ob, rfl, -, y0, y1, y2, -⟩ := rda_cells (rB.below hbj) hy
                clear hy g3 g4 rA rB
                generalize y.c = yc at *
                generalize y.q = yq at *
                generalize y.n = yn at *
                by_cases e1 : yc = c
                · have e1' : (yc == c) = true := by simp [e1]
                  have e2' : (yq == q) = false := by simp; exact fun e2 => hn ⟨e1, e2⟩
                  clear e1 hn
                  go_wp2_with fail
                  go_quiet (fail)
                  go_wp2_with fail
                  exact ⟨⟨i + 1, t, T + d, F + (d : Int), by go_num, rfl, by go_num, rfl, hH.out, chain hbj (below_drewN _ _)⟩, by simp [Go.RowKit.intOf]; omega⟩
                · have e1' : (yc == c) = false := by simp [e1]
                  clear e1 hn
                  go_wp2_with fail
                  go_quiet (fail)
                  go_wp2_with fail
                  exact ⟨⟨i + 1, t, T + d, F + (d : Int), by go_num, rfl, by go_num, rfl, hH.out, chain hbj (below_drewN _ _)⟩, by simp [Go.RowKit.intOf]; omega⟩
              · have hTB' : decide ((T : Int) + (d : Int) < (B.length : Int)) = false := decide_eq_false (by omega)
                clear g3 g4 rA rB
                go_wp2_with fail
                go_quiet (fail)
                go_wp2_with fail
                exact ⟨⟨i + 1, t, T + d, F + (d : Int), by go_num, rfl, by go_num, rfl, hH.out, chain hbj (below_drewN _ _)⟩, by simp [Go.RowKit.intOf]; omega⟩
      · obtain rfl : i = S.length := by omega
        have hT := hws.fin
        subst hT
        clear hRd hso hok hAn rA rB hws
        go_wp2_with fail
        refine (cL _ (chain hb hbc)).mono ?_
        rintro e w7 ⟨rfl, q7⟩
        go_wp2_with fail
        go_ret
        exact ⟨rfl, chain hb (chain hbc q7)⟩
  · rw [dc_no h] at c1
    have h' : (dcE l ds c q != 0) = true := by simpa using h
    clear hr hd hi hiR hiO hi2 h
    generalize dcE l ds c q = E at *
    go_enter Tryd.func8, Tryd.ntmps8
    go_wp2_with fail
    refine c1.mono ?_
    rintro e w1 ⟨u1, rfl, ho1, hb⟩
    obtain ⟨a1, k1, hu1⟩ := own_form ho1
    obtain rfl : u1 = .slice a1 0 k1 := hu1
    have hb := chain hA0 hb
    clear c1 ho1 hA0
    go_wp2_with fail
    refine (cL _ hb).mono ?_
    rintro e w7 ⟨rfl, q7⟩
    go_wp2_with fail
    go_ret
    exact ⟨rfl, chain hb q7⟩

theorem own : ownKnob Tryd.prog.godebug = none := by kernel_rfl
theorem laidOut : laidOutB Tryd.prog = true := by kernel_rfl

set_option maxRecDepth 20000 in
theorem contract (H : Type) (enc : TypeId × Value → H) (W : World) (base : Nat) (args : Array Value) (ds gs : List (DataW H)) (before : List MemPlace)
    (hval : ∀ (j : Nat) t v, Tryd.f8.params[j]? = some t → args[j]? = some v → Value.okWide Tryd.prog W .any base t v)
    (hW : DataW.Whole enc Tryd.prog Tryd.f8.params.toList Rows.docKeepsSpec.vars false W args.toList ds gs before) (hsz0 : (DataW.weightsEach Tryd.prog (Tryd.f8.params.toList ++ Rows.docKeepsSpec.plain.varTypes Tryd.prog) (ds ++ gs)).all (· ≤ reachBytes) = true) (hL : laidMetH Tryd.prog Rows.docKeepsRow.laid W) :
    Calls Tryd.prog 8 args W fun e W' => ∃ v, e = .returned v ∧ Rows.docKeepsSpec.post enc Tryd.prog Tryd.f8 false true false false W args v W' := by
  have hW' := hW
  obtain ⟨p, q, hA0, hV, rfl, hfz, hnd⟩ := hW
  have hA : DataW.TrodAll enc Tryd.prog W 0 (fun _ => true) true Tryd.f8.params.toList args.toList ds p := hA0
  rw [Tryd.params8] at hA hval hsz0
  obtain ⟨v0, vs0, d0, ds0, p0, q0, hargs, rfl, rfl, h0, r0⟩ := trodAll_cons hA
  obtain ⟨v1, vs1, d1, ds1, p1, q1, rfl, rfl, rfl, h1, r1⟩ := trodAll_cons r0
  obtain ⟨v2, vs2, d2, ds2, p2, q2, rfl, rfl, rfl, h2, r2⟩ := trodAll_cons r1
  obtain ⟨rfl, rfl, rfl⟩ := trodAll_nil r2
  obtain rfl : args = #[v0, v1, v2] := by cases args; simp_all
  obtain ⟨rfl, rfl⟩ := trodVars_none hV
  have k0 := h0
  have lt0 : ∀ x ∈ p0, x.block < W.heap.size := by obtain ⟨m, hm⟩ := k0; exact DataW.trod_lt m _ _ _ hm
  have k1 := h1
  have lt1 : ∀ x ∈ p1, x.block < W.heap.size := by obtain ⟨m, hm⟩ := k1; exact DataW.trod_lt m _ _ _ hm
  have k2 := h2
  have lt2 : ∀ x ∈ p2, x.block < W.heap.size := by obtain ⟨m, hm⟩ := k2; exact DataW.trod_lt m _ _ _ hm
  obtain ⟨a0, len0, cap0, rfl⟩ := okWide_slice Tryd.underlying22 (hval 0 22 v0 rfl rfl)
  obtain ⟨fuel0, hf0⟩ := h0
  have z0 : ∀ n ∈ d0.weights Tryd.prog 22, n ≤ reachBytes := fun n hn => by simpa using List.all_eq_true.1 hsz0 n (DataW.weights_mem_each (j := 0) (t := 22) (d := d0) rfl rfl n hn)
  obtain ⟨l0, rd0, ln0, ok0⟩ := open_rnz hf0 z0
  obtain ⟨a1, len1, cap1, rfl⟩ := okWide_slice Tryd.underlying35 (hval 1 35 v1 rfl rfl)
  obtain ⟨fuel1, hf1⟩ := h1
  have z1 : ∀ n ∈ d1.weights Tryd.prog 35, n ≤ reachBytes := fun n hn => by simpa using List.all_eq_true.1 hsz0 n (DataW.weights_mem_each (j := 1) (t := 35) (d := d1) rfl rfl n hn)
  obtain ⟨l1, rd1, ln1, ok1⟩ := open_dlz hf1 z1
  obtain ⟨fuel2, hf2⟩ := h2
  obtain ⟨c2, s2, hc2, bc2, bs2⟩ := open_or hf2
  obtain rfl := or_val hc2
  clear hA0
  simp only [List.append_nil] at hW'
  refine (walk (.slice a0 len0 cap0) l0 (.slice a1 len1 cap1) l1 c2 s2 W (vs_of (tabs_of hL)) rd0 ln0 ok0 rd1 ln1 ok1 bc2 bs2).mono fun e W' ⟨he, bel⟩ => ?_
  subst he
  exact ⟨_, rfl, _, _, _, [], _, [], hW', trodAll_mk1 (shut_bool Tryd.underlying4 _), (trodAll_cons_mk (Below.trod laidOut (by kernel_rfl) (of_decide_eq_true (by kernel_rfl)) k0 bel lt0) (trodAll_cons_mk (Below.trod laidOut (by kernel_rfl) (of_decide_eq_true (by kernel_rfl)) k1 bel lt1) (trodAll_cons_mk (Below.trod laidOut (by kernel_rfl) (of_decide_eq_true (by kernel_rfl)) k2 bel lt2) trodAll_mk0))), rfl, bel.frame _, fun h => by cases h⟩

set_option maxRecDepth 100000 in
theorem laid_met (os : Os) : laidMet Tryd.prog Rows.docKeepsRow.laid ((laidWorld os).forCall (fun _ _ => 0) ⟨#[], #[.slice none 0 0, .slice none 0 0, .agg #[.int .i64 0, .int .i64 0]], []⟩).memory :=
  (LaidIn.of_run (l := Rows.docKeepsRow.laid) [1, 0] 8 (by kernel_rfl) (by kernel_rfl) (by kernel_rfl) (by kernel_rfl)).met
theorem reads (os : Os) {H : Type} (enc : TypeId × Value → H) : ∃ places, DataW.whole enc Tryd.prog ((laidWorld os).forCall (fun _ _ => 0) ⟨#[], #[.slice none 0 0, .slice none 0 0, .agg #[.int .i64 0, .int .i64 0]], []⟩).memory Tryd.f8.params.toList Rows.docKeepsSpec.vars false (#[.slice none 0 0, .slice none 0 0, .agg #[.int .i64 0, .int .i64 0]] : Array Value).toList 8 = some ([.nil, .nil, .agg [.lit (.int .i64 0), .lit (.int .i64 0)]], [], places) :=
  ⟨[], by kernel_rfl⟩
set_option maxRecDepth 100000 in
theorem lifted (os : Os) (started : os.Started) (H : Type) (enc : TypeId × Value → H) (F : Stop.Interp) :
    ReturnsInHanded {} Tryd.checked os 8 .any ((OpenSpec.ofChange Rows.docKeepsSpec).preRow enc Tryd.prog Tryd.f8 Rows.docKeepsRow.domain false Rows.docKeepsRow.laid) (((OpenSpec.ofChange Rows.docKeepsSpec).at F).post enc Tryd.prog Tryd.f8 false true false false) := by
  obtain ⟨places, hx⟩ := reads os enc
  refine returnsInHanded_of_row (C := Tryd.checked) (s := OpenSpec.ofChange Rows.docKeepsSpec) own started (by kernel_rfl) Tryd.func8
    (witness_row_atRef (enc := enc) (C := Tryd.checked) false (laidWorld os) #[.slice none 0 0, .slice none 0 0, .agg #[.int .i64 0, .int .i64 0]] rfl (by kernel_rfl) (by kernel_rfl) (by kernel_rfl)
      (OpenSpec.preRow_of_cond 8 hx (by kernel_rfl) (fun k hk => by cases hk) (by kernel_rfl) (laid_met os))) ?_
  intro W base args ds gs before hval hW _ _ hsz hL _ _
  exact contract H enc W base args ds gs before hval hW hsz hL

theorem holds : Rows.DocKeepsSaid :=
  OpenClaim.holds_of_cond 8 Tryd.f8 rfl rfl rfl rfl rfl rfl rfl ⟨rfl, rfl, rfl, rfl, rfl⟩ rfl rfl rfl rfl rfl (by kernel_rfl) Tryd.func8 (by kernel_rfl)
    (of_decide_eq_true (by kernel_rfl)) (by unfold Func.isWrapper; first | (rw [if_pos (by decide +kernel)]; kernel_rfl) | (rw [if_neg (by decide +kernel)]; exact ⟨rfl, rfl⟩))
    (fun os started H enc _ F => by rw [OpenClaim.pre_eq_preRow]; exact lifted os started H enc F)
theorem plain (f : FuncId) (fn : Func) (hf : Tryd.pinned.checked.prog.funcNamed "oxbow/oxbowlaw12.DocKeeps" = some f) (hfn : Tryd.pinned.checked.prog.funcs[f]? = some fn) :
    true = Tryd.pinned.checked.prog.looks [] ∧ ∀ (j : Nat) t, fn.params[j]? = some t → Tryd.pinned.checked.prog.wantsStandIn t = false := by
  obtain rfl : f = 8 := Option.some.inj ((show Tryd.prog.funcNamed "oxbow/oxbowlaw12.DocKeeps" = some 8 by kernel_rfl).symm.trans hf) |>.symm
  obtain rfl : fn = Tryd.f8 := (Option.some.inj (Tryd.func8.symm.trans hfn)).symm
  refine ⟨by kernel_rfl, fun j t ht => ?_⟩
  rw [Tryd.params8] at ht
  have hm := Array.mem_of_getElem? ht
  have h2 : t = 22 ∨ t = 35 ∨ t = 29 := by simpa using hm
  rcases h2 with rfl | rfl | rfl
  · exact (show Tryd.prog.wantsStandIn 22 = false by kernel_rfl)
  · exact (show Tryd.prog.wantsStandIn 35 = false by kernel_rfl)
  · exact (show Tryd.prog.wantsStandIn 29 = false by kernel_rfl)
theorem card : Rows.DocKeepsCardSaid :=
  Claim7.holds_tied_plain_at .later [] _ _ _ _ holds (fun _ h => by cases h) (by kernel_rfl) (fun _ h => by cases h) docKeeps_row_tie rfl ⟨rfl, rfl⟩ (by kernel_rfl) rfl plain (by kernel_rfl)
end Go.Proofs.YtnfnacjadmhclaaDoor.docKeeps
namespace Go.Proofs.YtnfnacjadmhclaaDoor
theorem docKeeps_holds : Rows.DocKeepsCardSaid := docKeeps.card
#print axioms docKeeps_holds
end Go.Proofs.YtnfnacjadmhclaaDoor
