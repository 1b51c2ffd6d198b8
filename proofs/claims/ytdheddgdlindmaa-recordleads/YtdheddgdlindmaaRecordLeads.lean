/-
  Proved: the pairs of the one state, with the changes done, are those of the other one (the law RecordLeads), for every input.
-/
import Derived.Test.YtdheddgdlindmaaRcX
import Derived.Test.YtdheddgdlindmaaRcY
import Derived.Test.YtdheddgdlindmaaReC
import Derived.Test.YtdheddgdlindmaaRows
namespace Go.Proofs.Ytdheddgdlindmaa.recordLeads
open Go.ChangeShapes Go.WideShapes Go.ChangeAt Go.RowKit Go.PlainAid

theorem rdx_own {W : World} {B : Nat} {v : Value} {l : List ByteArray} (h : W.ownsRow B 9 1 v l.length (svs l)) : RdX W v l := by
  rcases h.2 with ⟨rfl, h0⟩ | ⟨g, cap, cur, rfl, _, hg, -⟩
  · have : l = [] := List.length_eq_zero_iff.1 h0
    subst this
    exact ⟨none, 0, rfl, fun i o h => by simp at h⟩
  · refine ⟨_, _, rfl, fun i o hi => ⟨g, 0, rfl, heap_lt hg, ?_⟩⟩
    have q := h.cells (g := g) rfl i (.string o) (by simp [svs, hi])
    have hadd : (⟨g, 0, none⟩ : Addr).add i = ⟨g, i, none⟩ := by unfold Addr.add; split <;> simp_all
    rw [hadd] at q
    rw [Nat.zero_add]
    exact q
theorem pt_mem {A B : List PaD} {x : PaD} (hx : x ∈ B) (h1 : x ∉ ptD A B) (h2 : x ∉ A) : False := h1 (List.mem_filter.2 ⟨hx, by simp [h2]⟩)
theorem gn_no {A B : List PaD} {k : ByteArray} (h : k ∈ gnD A B) : ∀ y ∈ B, y.k ≠ k := by
  unfold gnD at h
  obtain ⟨p, hp, rfl⟩ := List.mem_map.1 h
  have := (List.mem_filter.1 hp).2
  intro y hy e
  unfold hasK at this
  simp only [Bool.not_eq_true', decide_eq_false_iff_not] at this
  exact this ⟨y, hy, e⟩
theorem gn_yes {A B : List PaD} {x : PaD} (hx : x ∈ A) (h : x.k ∉ gnD A B) : ∃ y ∈ B, y.k = x.k := by
  apply Classical.byContradiction
  intro hn
  exact h (List.mem_map.2 ⟨x, List.mem_filter.2 ⟨hx, by unfold hasK; simp only [Bool.not_eq_true', decide_eq_false_iff_not]; exact hn⟩, rfl⟩)
theorem take_mem {α : Type} {l : List α} {k : Nat} {x : α} (h : k < l.length) : x ∈ l.take (k + 1) ↔ x ∈ l.take k ∨ x = l[k] := by
  rw [List.take_succ_eq_append_getElem h, List.mem_append, List.mem_singleton]
/-- The two rows of pairs, what is put in and what is taken out, as they lie. -/
structure Ls (w : World) (A B P : List PaD) (G : List ByteArray) (av bv pv gv : Value) (W : World) : Prop where
  a : RdPa W av A
  b : RdPa W bv B
  p : RdPa W pv P
  g : RdX W gv G
  bl : Below w.heap.size w W
theorem Ls.below {w W W' : World} {A B P : List PaD} {G : List ByteArray} {av bv pv gv : Value} (h : Ls w A B P G av bv pv gv W) (hb : Below W.heap.size W W') : Ls w A B P G av bv pv gv W' := by
  refine ⟨h.a.below hb, h.b.below hb, h.p.below hb, ?_, h.bl.trans (hb.mono h.bl.size)⟩
  obtain ⟨ao, cp, e, h1⟩ := h.g
  refine ⟨ao, cp, e, fun i o hi => ?_⟩
  obtain ⟨b, off, e1, hl, c0⟩ := h1 i o hi
  exact ⟨b, off, e1, Nat.lt_of_lt_of_le hl hb.size, (hb.cell (p := ⟨b, off + i, none⟩) hl).trans c0⟩
theorem Ls.drewN {w W : World} {A B P : List PaD} {G : List ByteArray} {av bv pv gv : Value} (h : Ls w A B P G av bv pv gv W) (n : Nat) : Ls w A B P G av bv pv gv (W.drewN n) := h.below (below_drewR W n)
set_option maxRecDepth 20000 in
set_option maxHeartbeats 4000000 in
theorem walk (F : StD) (f1 f2 f3 : Value) (T : StD) (t1 t2 t3 : Value) (w : World) (hf : RdSt w f1 f2 f3 F) (hUf : StU false F) (ht : RdSt w t1 t2 t3 T) (hUt : StU false T) :
    Calls Try.prog 7 #[.agg (F.fs f1 f2 f3), .agg (T.fs t1 t2 t3)] w fun e w' => e = .returned (.bool true) ∧ Below w.heap.size w w' := by
  have b1 := alloc_bR w (.cells (F.fs f1 f2 f3) 26)
  have b2 := alloc_bR (w.alloc (.cells (F.fs f1 f2 f3) 26)) (.cells (T.fs t1 t2 t3) 26)
  have k1 := (sb_new w F f1 f2 f3).below b2
  have k2 := sb_new (w.alloc (.cells (F.fs f1 f2 f3) 26)) T t1 t2 t3
  rw [World.size_alloc] at k2
  have hB0 := b1.trans (b2.mono b1.size)
  have hf' := hf.below hB0
  have ht' := ht.below hB0
  obtain ⟨a1, c1, e1, -⟩ := hf.c
  subst e1
  obtain ⟨a2, c2, e2, -⟩ := hf.b
  subst e2
  obtain ⟨a3, c3, e3, -⟩ := hf.u
  subst e3
  obtain ⟨d1, g1, e1, -⟩ := ht.c
  subst e1
  obtain ⟨d2, g2, e2, -⟩ := ht.b
  subst e2
  obtain ⟨d3, g3, e3, -⟩ := ht.u
  subst e3
  generalize hw2 : (w.alloc (.cells (F.fs (.slice a1 F.cs.length c1) (.slice a2 F.bs.length c2) (.slice a3 F.us.length c3)) 26)).alloc (.cells (T.fs (.slice d1 T.cs.length g1) (.slice d2 T.bs.length g2) (.slice d3 T.us.length g3)) 26) = w2 at *
  have cP := pairs_any F _ _ _ w2 hf' hUf.fit
  have cQ := fun W (h : Below w2.heap.size w2 W) => pairs_any T _ _ _ W (ht'.below h) hUt.fit
  have cC := fun W (h : Below w2.heap.size w2 W) => changes_any F T _ _ _ _ _ _ W (hf'.below h) (ht'.below h) hUf.fit hUt.fit
  have cL := fun W => live15_any W
  have hX : ∀ W, Below w2.heap.size w2 W → W.cell? ⟨w.heap.size, 0, none⟩ = some (.int .i64 F.nc) ∧ W.cell? ⟨w.heap.size, 1, none⟩ = some (.int .i64 F.nb) ∧ W.cell? ⟨w.heap.size, 2, none⟩ = some (.slice a1 F.cs.length c1) ∧ W.cell? ⟨w.heap.size, 3, none⟩ = some (.slice a2 F.bs.length c2) ∧ W.cell? ⟨w.heap.size, 4, none⟩ = some (.slice a3 F.us.length c3) := fun W h => cellsSB (k1.below h)
  have hY : ∀ W, Below w2.heap.size w2 W → W.cell? ⟨w.heap.size + 1, 0, none⟩ = some (.int .i64 T.nc) ∧ W.cell? ⟨w.heap.size + 1, 1, none⟩ = some (.int .i64 T.nb) ∧ W.cell? ⟨w.heap.size + 1, 2, none⟩ = some (.slice d1 T.cs.length g1) ∧ W.cell? ⟨w.heap.size + 1, 3, none⟩ = some (.slice d2 T.bs.length g2) ∧ W.cell? ⟨w.heap.size + 1, 4, none⟩ = some (.slice d3 T.us.length g3) := fun W h => cellsSB (k2.below h)
  obtain ⟨x0, x1, x2, x3, x4⟩ := hX w2 (Below.refl _ _)
  have hpF : (prE F).2 = 0 ∨ (prE F).2 ≠ 0 := Decidable.em _
  have hpT : (prE T).2 = 0 ∨ (prE T).2 ≠ 0 := Decidable.em _
  have hch : (prE F).2 ≠ 0 ∨ (prE T).2 ≠ 0 → chE F T = ([], [], 150) := fun h => by
    unfold chE
    rw [if_neg]
    rintro ⟨h1, h2⟩
    unfold prE at h
    rw [if_pos h1, if_pos h2] at h
    simp at h
  have hok : (prE F).2 = 0 → (prE T).2 = 0 → chE F T = (ptD (prE F).1 (prE T).1, gnD (prE F).1 (prE T).1, 0) := fun h1 h2 => by
    unfold prE at h1 h2 ⊢
    by_cases q1 : stF F = true
    · by_cases q2 : stF T = true
      · rw [if_pos q1, if_pos q2, chE, if_pos ⟨q1, q2⟩]
      · rw [if_neg q2] at h2
        simp at h2
    · rw [if_neg q1] at h1
      simp at h1
  have hlF := prE_len F
  have hlT := prE_len T
  have hns : F.cs.length = F.cs.length := rfl
  clear b1 b2 hf ht hf' ht' k1 k2 hUf hUt hns
  simp only [StD.fs] at cP cQ cC hw2 ⊢
  generalize prE F = X at *
  generalize prE T = Y at *
  generalize chE F T = C at *
  go_enter Try.func7, Try.ntmps7
  go_wp2_with fail
  refine cP.mono ?_
  rintro e w3 ⟨dv, rfl, ho3, hb3⟩
  obtain ⟨a9, k9, rfl⟩ := own_form ho3
  have cQ' := cQ w3 hb3
  clear x0 x1 x2 x3 x4 cP cQ
  obtain ⟨y0, y1, y2, y3, y4⟩ := hY w3 hb3
  go_wp2_with fail
  refine cQ'.mono ?_
  rintro e w4 ⟨dv4, rfl, ho4, hb4⟩
  obtain ⟨a8, k8, rfl⟩ := own_form ho4
  have hb34 := hb3.trans (hb4.mono hb3.size)
  have cC' := cC w4 hb34
  clear y0 y1 y2 y3 y4 cQ' cC
  obtain ⟨x0, x1, x2, x3, x4⟩ := hX w4 hb34
  obtain ⟨y0, y1, y2, y3, y4⟩ := hY w4 hb34
  go_wp2_with fail
  refine cC'.mono ?_
  rintro e w5 ⟨u5, v5, rfl, hoP, hoG, hb5⟩
  obtain ⟨a7, k7, rfl⟩ := own_form hoP
  obtain ⟨a6, k6, rfl⟩ := own_form hoG
  have hB4 := hB0.trans (hb34.mono hB0.size)
  have hB5 := hB4.trans (hb5.mono hB4.size)
  have hA5 : RdPa w5 (.slice a9 X.1.length k9) X.1 := (rdpa_own ho3).below (hb4.trans (hb5.mono hb4.size))
  have hB5' : RdPa w5 (.slice a8 Y.1.length k8) Y.1 := (rdpa_own ho4).below hb5
  have hP5 := rdpa_own hoP
  have hG5 := rdx_own hoG
  clear x0 x1 x2 x3 x4 y0 y1 y2 y3 y4 cC' hX hY ho3 ho4 hoP hoG hb3 hb4 hb34 hw2
  obtain ⟨A, X2⟩ := X
  obtain ⟨B, Y2⟩ := Y
  simp only at *
  by_cases hx2 : X2 = 0
  · by_cases hy2 : Y2 = 0
    · subst hx2 hy2
      have eC := hok rfl rfl
      subst eC
      simp only at *
      clear hok hch hpF hpT
      have hP : ∃ P, Hid (P = ptD A B) := ⟨_, rfl⟩
      obtain ⟨P, HP⟩ := hP
      have hG : ∃ G, Hid (G = gnD A B) := ⟨_, rfl⟩
      obtain ⟨G, HG⟩ := hG
      rw [← HP.out] at hP5
      rw [← HG.out] at hG5
      have hlp : Hid ((ptD A B).length = P.length) := by show _ = _; rw [HP.out]
      have hlg : Hid ((gnD A B).length = G.length) := by show _ = _; rw [HG.out]
      rw [hlp.out, hlg.out]
      have L5 : Ls w A B P G _ _ _ _ w5 := ⟨hA5, hB5', hP5, hG5, hB5⟩
      have hlP : P.length ≤ 1000000 := by rw [HP.out]; have := List.length_filter_le (fun p => !decide (p ∈ A)) B; unfold ptD; omega
      have hlG : G.length ≤ 1000000 := by rw [HG.out]; have := List.length_filter_le (fun p : PaD => !hasK B p.k) A; unfold gnD; rw [List.length_map]; omega
      clear hA5 hB5' hP5 hG5 hB5 hb5 hB4 hB0 hlp hlg
      go_wp2_with fail
      go_loopw [13] (fun i wr => ∃ k : Nat, k ≤ B.length ∧ i = .int .i64 (k : Int) ∧ Ls w A B P G (.slice a9 A.length k9) (.slice a8 B.length k8) (.slice a7 P.length k7) (.slice a6 G.length k6) wr) (fun i _ => B.length - (Go.RowKit.intOf i).toNat)
      case atStart => exact ⟨0, by omega, rfl, L5⟩
      case round =>
        clear L5
        obtain ⟨k, hk, rfl, hL⟩ := hrel
        by_cases hlt : k < B.length
        · have hlt' : (k : Int) < (B.length : Int) := by omega
          have hxB : B[k] ∈ B := List.getElem_mem hlt
          have hxk : Hid (B[k]? = some B[k]) := by show _ = _; simp [hlt]
          generalize B[k] = x at *
          go_wp2_with fail
          go_loopw [14, 15] (fun fv i wr => ∃ (j : Nat) (f : Bool), j ≤ P.length ∧ i = .int .i64 (j : Int) ∧ fv = .bool f ∧ Hid (f = decide (x ∈ P.take j)) ∧ Ls w A B P G (.slice a9 A.length k9) (.slice a8 B.length k8) (.slice a7 P.length k7) (.slice a6 G.length k6) wr) (fun _ i _ => P.length - (Go.RowKit.intOf i).toNat)
          case atStart => exact ⟨0, false, by omega, rfl, rfl, by show _ = _; simp, hL⟩
          case round =>
            clear hL
            obtain ⟨j, f, hj, rfl, rfl, Hf, hL⟩ := hrel
            by_cases hjl : j < P.length
            · have hjl' : (j : Int) < (P.length : Int) := by omega
              cases f with
              | true =>
                have Hf2 : Hid (true = decide (x ∈ P.take (j + 1))) := by
                  show _ = _
                  have := of_decide_eq_true Hf.out.symm
                  exact (decide_eq_true ((take_mem hjl).2 (.inl this))).symm
                clear Hf
                go_upto_region 14 with fail
                go_quiet (fail)
                have hL2 := hL.drewN nq
                generalize wr.drewN nq = W at *
                go_wp2_with fail
                exact ⟨⟨j + 1, true, by omega, by go_num, rfl, Hf2, hL2⟩, by simp [Go.RowKit.intOf]; omega⟩
              | false =>
                have hno := of_decide_eq_false Hf.out.symm
                obtain ⟨ao', cp', e1, hcP⟩ := hL.p
                simp only [Value.slice.injEq] at e1
                obtain ⟨rfl, -, rfl⟩ := e1
                obtain ⟨gp, op, rfl, -, p0, p1⟩ := hcP j P[j] (by simp [hjl])
                obtain ⟨ao', cp', e1, hcB⟩ := hL.b
                simp only [Value.slice.injEq] at e1
                obtain ⟨rfl, -, rfl⟩ := e1
                obtain ⟨gb, ob, rfl, -, q0, q1⟩ := hcB k x hxk.out
                have Hf2 : ∀ b, (x = P[j] ↔ b = true) → Hid (b = decide (x ∈ P.take (j + 1))) := fun b hb => by
                  show _ = _
                  rw [Bool.eq_iff_iff, decide_eq_true_iff, take_mem hjl, ← hb]
                  exact ⟨.inr, fun h => h.elim (fun h => absurd h hno) id⟩
                generalize P[j] = y at *
                clear hcP hcB Hf hno
                by_cases he : x = y
                · have Hf3 := Hf2 true (by simp [he])
                  subst he
                  clear Hf2
                  go_upto_region 14 with fail
                  go_quiet (fail)
                  have hL2 := hL.drewN nq
                  clear p0 p1 q0 q1
                  generalize wr.drewN nq = W at *
                  go_wp2_with fail
                  exact ⟨⟨j + 1, true, by omega, by go_num, rfl, Hf3, hL2⟩, by simp [Go.RowKit.intOf]; omega⟩
                · have Hf3 := Hf2 false (by simp [he])
                  have hne := pad_ne he
                  clear Hf2 he
                  rcases hne with h1 | ⟨h1, h2⟩
                  · have h1' : ¬ y.k.toList = x.k.toList := fun e => str_neR h1 e.symm
                    clear h1
                    go_upto_region 14 with fail
                    go_quiet (fail)
                    have hL2 := hL.drewN nq
                    clear p0 p1 q0 q1
                    generalize wr.drewN nq = W at *
                    go_wp2_with fail
                    exact ⟨⟨j + 1, false, by omega, by go_num, rfl, Hf3, hL2⟩, by simp [Go.RowKit.intOf]; omega⟩
                  · have h2' : ¬ y.v.toList = x.v.toList := fun e => str_neR h2 e.symm
                    rw [h1] at q0
                    clear h1 h2
                    go_upto_region 14 with fail
                    go_quiet (fail)
                    have hL2 := hL.drewN nq
                    clear p0 p1 q0 q1
                    generalize wr.drewN nq = W at *
                    go_wp2_with fail
                    exact ⟨⟨j + 1, false, by omega, by go_num, rfl, Hf3, hL2⟩, by simp [Go.RowKit.intOf]; omega⟩
            · have hjl' : ¬ (j : Int) < (P.length : Int) := by omega
              rw [List.take_of_length_le (by omega)] at Hf
              go_wp2_with fail
              go_loopw [14, 16] (fun fv i wr => ∃ (j : Nat) (f : Bool), j ≤ A.length ∧ i = .int .i64 (j : Int) ∧ fv = .bool f ∧ Hid (f = false → x ∉ P ∧ x ∉ A.take j) ∧ Ls w A B P G (.slice a9 A.length k9) (.slice a8 B.length k8) (.slice a7 P.length k7) (.slice a6 G.length k6) wr) (fun fv i _ => A.length + 1 - (Go.RowKit.intOf i).toNat)
              case atStart => exact ⟨0, f, by omega, rfl, rfl, (fun h => ⟨of_decide_eq_false (Hf.out.symm.trans h), by simp⟩), hL⟩
              case round =>
                clear hL Hf
                obtain ⟨j, f, hj, rfl, rfl, Hf, hL⟩ := hrel
                cases f with
                | true =>
                  clear Hf
                  by_cases hjl : j < A.length
                  · have hjl' : (j : Int) < (A.length : Int) := by omega
                    go_wp2_with fail
                    exact ⟨⟨k + 1, by omega, by go_num, hL⟩, by simp [Go.RowKit.intOf]; omega⟩
                  · have hjl' : ¬ (j : Int) < (A.length : Int) := by omega
                    go_wp2_with fail
                    exact ⟨⟨k + 1, by omega, by go_num, hL⟩, by simp [Go.RowKit.intOf]; omega⟩
                | false =>
                  obtain ⟨hnP, hnA⟩ := Hf.out rfl
                  by_cases hjl : j < A.length
                  · have hjl' : (j : Int) < (A.length : Int) := by omega
                    obtain ⟨ao', cp', e1, hcP⟩ := hL.a
                    simp only [Value.slice.injEq] at e1
                    obtain ⟨rfl, -, rfl⟩ := e1
                    obtain ⟨gp, op, rfl, -, p0, p1⟩ := hcP j A[j] (by simp [hjl])
                    obtain ⟨ao', cp', e1, hcB⟩ := hL.b
                    simp only [Value.slice.injEq] at e1
                    obtain ⟨rfl, -, rfl⟩ := e1
                    obtain ⟨gb, ob, rfl, -, q0, q1⟩ := hcB k x hxk.out
                    have Hf2 : x ≠ A[j] → Hid (false = false → x ∉ P ∧ x ∉ A.take (j + 1)) := fun hne _ => ⟨hnP, fun h => ((take_mem hjl).1 h).elim hnA hne⟩
                    have Hf0 : Hid (true = false → x ∉ P ∧ x ∉ A.take (j + 1)) := fun h => by cases h
                    generalize A[j] = y at *
                    clear hcP hcB Hf hnP hnA
                    by_cases he : x = y
                    · subst he
                      clear Hf2
                      go_upto_region 18 with fail
                      go_quiet (fail)
                      have hL2 := hL.drewN nq
                      clear p0 p1 q0 q1
                      generalize wr.drewN nq = W at *
                      go_wp2_with fail
                      exact ⟨⟨j + 1, true, by omega, by go_num, rfl, Hf0, hL2⟩, by simp [Go.RowKit.intOf]; omega⟩
                    · have Hf3 := Hf2 he
                      have hne := pad_ne he
                      clear Hf2 he Hf0
                      rcases hne with h1 | ⟨h1, h2⟩
                      · have h1' : ¬ y.k.toList = x.k.toList := fun e => str_neR h1 e.symm
                        clear h1
                        go_upto_region 18 with fail
                        go_quiet (fail)
                        have hL2 := hL.drewN nq
                        clear p0 p1 q0 q1
                        generalize wr.drewN nq = W at *
                        go_wp2_with fail
                        exact ⟨⟨j + 1, false, by omega, by go_num, rfl, Hf3, hL2⟩, by simp [Go.RowKit.intOf]; omega⟩
                      · have h2' : ¬ y.v.toList = x.v.toList := fun e => str_neR h2 e.symm
                        rw [h1] at q0
                        clear h1 h2
                        go_upto_region 18 with fail
                        go_quiet (fail)
                        have hL2 := hL.drewN nq
                        clear p0 p1 q0 q1
                        generalize wr.drewN nq = W at *
                        go_wp2_with fail
                        exact ⟨⟨j + 1, false, by omega, by go_num, rfl, Hf3, hL2⟩, by simp [Go.RowKit.intOf]; omega⟩
                  · exfalso
                    rw [List.take_of_length_le (by omega)] at hnA
                    rw [HP.out] at hnP
                    exact pt_mem hxB hnP hnA
        · have hlt' : ¬ (k : Int) < (B.length : Int) := by omega
          go_wp2_with fail
          go_loopw [12, 17] (fun nv i wr => ∃ k : Nat, k ≤ A.length ∧ i = .int .i64 (k : Int) ∧ nv = .int .i64 0 ∧ Ls w A B P G (.slice a9 A.length k9) (.slice a8 B.length k8) (.slice a7 P.length k7) (.slice a6 G.length k6) wr) (fun _ i _ => A.length - (Go.RowKit.intOf i).toNat)
          case atStart => exact ⟨0, by omega, rfl, rfl, hL⟩
          case round =>
            clear hL hk hlt hlt'
            obtain ⟨k, hk, rfl, rfl, hL⟩ := hrel
            by_cases hlt : k < A.length
            · have hlt' : (k : Int) < (A.length : Int) := by omega
              have hxA : A[k] ∈ A := List.getElem_mem hlt
              have hxk : Hid (A[k]? = some A[k]) := by show _ = _; simp [hlt]
              generalize A[k] = x at *
              go_wp2_with fail
              go_loopw [18, 19] (fun fv i wr => ∃ (j : Nat) (f : Bool), j ≤ G.length ∧ i = .int .i64 (j : Int) ∧ fv = .bool f ∧ Hid (f = true ↔ x.k ∈ G.take j) ∧ Ls w A B P G (.slice a9 A.length k9) (.slice a8 B.length k8) (.slice a7 P.length k7) (.slice a6 G.length k6) wr) (fun _ i _ => G.length - (Go.RowKit.intOf i).toNat)
              case atStart => exact ⟨0, false, by omega, rfl, rfl, by show _ ↔ _; simp, hL⟩
              case round =>
                clear hL
                obtain ⟨j, f, hj, rfl, rfl, Hf, hL⟩ := hrel
                by_cases hjl : j < G.length
                · have hjl' : (j : Int) < (G.length : Int) := by omega
                  cases f with
                  | true =>
                    have Hf2 : Hid (true = true ↔ x.k ∈ G.take (j + 1)) := ⟨fun _ => (take_mem hjl).2 (.inl (Hf.out.1 rfl)), fun _ => rfl⟩
                    clear Hf
                    go_upto_region 28 with fail
                    go_quiet (fail)
                    have hL2 := hL.drewN nq
                    generalize wr.drewN nq = W at *
                    go_wp2_with fail
                    exact ⟨⟨j + 1, true, by omega, by go_num, rfl, Hf2, hL2⟩, by simp [Go.RowKit.intOf]; omega⟩
                  | false =>
                    have hno : x.k ∉ G.take j := fun h => by have := Hf.out.2 h; cases this
                    obtain ⟨ao', cp', e1, hcP⟩ := hL.g
                    simp only [Value.slice.injEq] at e1
                    obtain ⟨rfl, -, rfl⟩ := e1
                    obtain ⟨gp, op, rfl, -, p0⟩ := hcP j G[j] (by simp [hjl])
                    obtain ⟨ao', cp', e1, hcB⟩ := hL.a
                    simp only [Value.slice.injEq] at e1
                    obtain ⟨rfl, -, rfl⟩ := e1
                    obtain ⟨gb, ob, rfl, -, q0, -⟩ := hcB k x hxk.out
                    have Hf2 : ∀ b, (x.k = G[j] ↔ b = true) → Hid (b = true ↔ x.k ∈ G.take (j + 1)) := fun b hb => by
                      show _ ↔ _
                      rw [take_mem hjl, ← hb]
                      exact ⟨.inr, fun h => h.elim (fun h => absurd h hno) id⟩
                    generalize G[j] = y at *
                    clear hcP hcB Hf hno
                    by_cases he : x.k = y
                    · have Hf3 := Hf2 true (by simp [he])
                      subst he
                      clear Hf2
                      go_upto_region 28 with fail
                      go_quiet (fail)
                      have hL2 := hL.drewN nq
                      clear p0 q0
                      generalize wr.drewN nq = W at *
                      go_wp2_with fail
                      exact ⟨⟨j + 1, true, by omega, by go_num, rfl, Hf3, hL2⟩, by simp [Go.RowKit.intOf]; omega⟩
                    · have Hf3 := Hf2 false (by simp [he])
                      have h1' : (y.toList == x.k.toList) = false := beq_eq_false_iff_ne.2 (fun e => str_neR he e.symm)
                      clear Hf2 he
                      go_upto_region 28 with fail
                      go_quiet (fail)
                      have hL2 := hL.drewN nq
                      clear p0 q0
                      generalize wr.drewN nq = W at *
                      go_wp2_with fail
                      exact ⟨⟨j + 1, false, by omega, by go_num, rfl, Hf3, hL2⟩, by simp [Go.RowKit.intOf]; omega⟩
                · have hjl' : ¬ (j : Int) < (G.length : Int) := by omega
                  rw [List.take_of_length_le (by omega), HG.out] at Hf
                  go_wp2_with fail
                  go_loopw [12, 20] (fun nv i wr => ∃ (j n : Nat), j ≤ B.length ∧ n ≤ j ∧ i = .int .i64 (j : Int) ∧ nv = .int .i64 (n : Int) ∧ Hid (n = 0 → ∀ y ∈ B.take j, y.k ≠ x.k) ∧ Ls w A B P G (.slice a9 A.length k9) (.slice a8 B.length k8) (.slice a7 P.length k7) (.slice a6 G.length k6) wr) (fun _ i _ => B.length - (Go.RowKit.intOf i).toNat)
                  case atStart => exact ⟨0, 0, by omega, by omega, rfl, rfl, (fun _ y hy => by simp at hy), hL⟩
                  case round =>
                    clear hL hjl hjl' hj
                    obtain ⟨j, n, hj, hnj, rfl, rfl, HN, hL⟩ := hrel
                    by_cases hjl : j < B.length
                    · have hjl' : (j : Int) < (B.length : Int) := by omega
                      obtain ⟨ao', cp', e1, hcP⟩ := hL.b
                      simp only [Value.slice.injEq] at e1
                      obtain ⟨rfl, -, rfl⟩ := e1
                      obtain ⟨gp, op, rfl, -, p0, -⟩ := hcP j B[j] (by simp [hjl])
                      obtain ⟨ao', cp', e1, hcB⟩ := hL.a
                      simp only [Value.slice.injEq] at e1
                      obtain ⟨rfl, -, rfl⟩ := e1
                      obtain ⟨gb, ob, rfl, -, q0, -⟩ := hcB k x hxk.out
                      have hyB : B[j] ∈ B := List.getElem_mem hjl
                      have HN2 : B[j].k ≠ x.k → Hid (n = 0 → ∀ y ∈ B.take (j + 1), y.k ≠ x.k) := fun hne h0 y hy => ((take_mem hjl).1 hy).elim (HN.out h0 y) (fun e => by rw [e]; exact hne)
                      have HN3 : Hid (n + 1 = 0 → ∀ y ∈ B.take (j + 1), y.k ≠ x.k) := fun h0 => by omega
                      generalize B[j] = y at *
                      clear hcP hcB HN
                      by_cases he : y.k = x.k
                      · cases f with
                        | true =>
                          exact absurd he (gn_no (Hf.out.1 rfl) y hyB)
                        | false =>
                          rw [he] at p0
                          clear HN2 he
                          go_upto_region 32 with fail
                          go_quiet (fail)
                          have hL2 := hL.drewN nq
                          clear p0 q0
                          generalize wr.drewN nq = W at *
                          go_wp2_with fail
                          exact ⟨⟨j + 1, n + 1, by omega, by omega, by go_num, by go_num, HN3, hL2⟩, by simp [Go.RowKit.intOf]; omega⟩
                      · have HN4 := HN2 he
                        have h1' : (y.k.toList == x.k.toList) = false := beq_eq_false_iff_ne.2 (str_neR he)
                        clear HN2 HN3 he
                        go_upto_region 32 with fail
                        go_quiet (fail)
                        have hL2 := hL.drewN nq
                        clear p0 q0
                        generalize wr.drewN nq = W at *
                        go_wp2_with fail
                        exact ⟨⟨j + 1, n, by omega, by omega, by go_num, rfl, HN4, hL2⟩, by simp [Go.RowKit.intOf]; omega⟩
                    · have hjl' : ¬ (j : Int) < (B.length : Int) := by omega
                      rw [List.take_of_length_le (by omega)] at HN
                      cases f with
                      | true =>
                        clear HN Hf
                        go_wp2_with fail
                        exact ⟨⟨k + 1, by omega, by go_num, rfl, hL⟩, by simp [Go.RowKit.intOf]; omega⟩
                      | false =>
                        have hn0 : ¬ ((n : Int) = 0) := by
                          intro h0
                          obtain ⟨y, hy, hyk⟩ := gn_yes hxA (fun h => by have := Hf.out.2 h; cases this)
                          exact HN.out (by omega) y hy hyk
                        have hn1 : ((n : Int) == 0) = false := by simpa using hn0
                        clear HN Hf
                        go_wp2_with fail
                        exact ⟨⟨k + 1, by omega, by go_num, rfl, hL⟩, by simp [Go.RowKit.intOf]; omega⟩
            · have hlt' : ¬ (k : Int) < (A.length : Int) := by omega
              have hbl := hL.bl
              go_wp2_with fail
              refine (cL _).mono ?_
              rintro e w6 ⟨rfl, hb6⟩
              go_wp2_with fail
              go_ret
              exact ⟨rfl, hbl.trans (hb6.mono hbl.size)⟩
    · have eC := hch (.inr hy2)
      subst eC
      simp only at *
      subst hx2
      clear hok hch hpF hpT
      go_wp2_with fail
      refine (cL _).mono ?_
      rintro e w6 ⟨rfl, hb6⟩
      go_wp2_with fail
      go_ret
      exact ⟨rfl, hB5.trans (hb6.mono hB5.size)⟩
  · have eC := hch (.inl hx2)
    subst eC
    simp only at *
    clear hok hch hpF hpT
    go_wp2_with fail
    refine (cL _).mono ?_
    rintro e w6 ⟨rfl, hb6⟩
    go_wp2_with fail
    go_ret
    exact ⟨rfl, hB5.trans (hb6.mono hB5.size)⟩

theorem own : ownKnob Try.prog.godebug = none := by kernel_rfl
theorem laidOut : laidOutB Try.prog = true := by kernel_rfl

set_option maxRecDepth 20000 in
theorem contract (H : Type) (enc : TypeId × Value → H) (W : World) (base : Nat) (args : Array Value) (ds gs : List (DataW H)) (before : List MemPlace)
    (hval : ∀ (j : Nat) t v, Try.f7.params[j]? = some t → args[j]? = some v → Value.okWide Try.prog W .any base t v)
    (hW : DataW.Whole enc Try.prog Try.f7.params.toList Rows.recordLeadsSpec.vars false W args.toList ds gs before) (hsz0 : (DataW.weightsEach Try.prog (Try.f7.params.toList ++ Rows.recordLeadsSpec.plain.varTypes Try.prog) (ds ++ gs)).all (· ≤ reachBytes) = true) :
    Calls Try.prog 7 args W fun e W' => ∃ v, e = .returned v ∧ Rows.recordLeadsSpec.post enc Try.prog Try.f7 false true false false W args v W' := by
  have hW' := hW
  obtain ⟨p, q, hA0, hV, rfl, hfz, hnd⟩ := hW
  have hA : DataW.TrodAll enc Try.prog W 0 (fun _ => true) true Try.f7.params.toList args.toList ds p := hA0
  rw [Try.params7] at hA hval hsz0
  obtain ⟨v0, vs0, d0, ds0, p0, q0, hargs, rfl, rfl, h0, r0⟩ := trodAll_cons hA
  obtain ⟨v1, vs1, d1, ds1, p1, q1, rfl, rfl, rfl, h1, r1⟩ := trodAll_cons r0
  obtain ⟨rfl, rfl, rfl⟩ := trodAll_nil r1
  obtain rfl : args = #[v0, v1] := by cases args; simp_all
  obtain ⟨rfl, rfl⟩ := trodVars_none hV
  have k0 := h0
  have lt0 : ∀ x ∈ p0, x.block < W.heap.size := by obtain ⟨m, hm⟩ := k0; exact DataW.trod_lt m _ _ _ hm
  have k1 := h1
  have lt1 : ∀ x ∈ p1, x.block < W.heap.size := by obtain ⟨m, hm⟩ := k1; exact DataW.trod_lt m _ _ _ hm
  obtain ⟨fuel0, hf0⟩ := h0
  have z0 : Sz false 26 d0 := fun n hn => by simpa using List.all_eq_true.1 hsz0 n (DataW.weights_mem_each (j := 0) (t := 26) (d := d0) rfl rfl n hn)
  obtain ⟨S0, s0a, s0b, s0c, hc0, rd0, ok0⟩ := open_st od_false hf0 z0
  obtain rfl := st_val hc0
  obtain ⟨fuel1, hf1⟩ := h1
  have z1 : Sz false 26 d1 := fun n hn => by simpa using List.all_eq_true.1 hsz0 n (DataW.weights_mem_each (j := 1) (t := 26) (d := d1) rfl rfl n hn)
  obtain ⟨S1, s1a, s1b, s1c, hc1, rd1, ok1⟩ := open_st od_false hf1 z1
  obtain rfl := st_val hc1
  clear hA0
  simp only [List.append_nil] at hW'
  refine (walk S0 s0a s0b s0c S1 s1a s1b s1c W rd0 ok0 rd1 ok1).mono fun e W' ⟨he, bel⟩ => ?_
  subst he
  exact ⟨_, rfl, _, _, _, [], _, [], hW', trodAll_mk1 (shut_bool Try.underlying4 _), (trodAll_cons_mk (Below.trod laidOut (by kernel_rfl) (of_decide_eq_true (by kernel_rfl)) k0 bel lt0) (trodAll_cons_mk (Below.trod laidOut (by kernel_rfl) (of_decide_eq_true (by kernel_rfl)) k1 bel lt1) trodAll_mk0)), rfl, bel.frame _, fun h => by cases h⟩

set_option maxRecDepth 100000 in
theorem lifted (os : Os) (started : os.Started) (H : Type) (enc : TypeId × Value → H) :
    ReturnsInHanded {} Try.checked os 7 .any (Rows.recordLeadsSpec.pre6 enc Try.prog Try.f7 Rows.recordLeadsRow.domain false) (Rows.recordLeadsSpec.post enc Try.prog Try.f7 false true false false) := by
  refine returnsInHanded_of_change_sized (C := Try.checked) own started (by kernel_rfl) Try.func7
    (ChangeSpec.witness6 (enc := enc) (C := Try.checked) false ⟨#[], #[.agg #[.int .i64 0, .int .i64 0, .slice none 0 0, .slice none 0 0, .slice none 0 0], .agg #[.int .i64 0, .int .i64 0, .slice none 0 0, .slice none 0 0, .slice none 0 0]], []⟩ 8 (by kernel_rfl) (by kernel_rfl) (by kernel_rfl) (by kernel_rfl)) ?_
  intro W base args ds gs before hval hW _ hsz _
  exact contract H enc W base args ds gs before hval hW hsz

theorem holds : Rows.RecordLeadsSaid :=
  OpenClaim.holds_of_wide 7 Try.f7 rfl rfl rfl rfl rfl rfl rfl ⟨rfl, rfl, rfl, rfl, rfl⟩ rfl rfl rfl rfl rfl (by kernel_rfl) Try.func7 (by kernel_rfl)
    (of_decide_eq_true (by kernel_rfl)) (by unfold Func.isWrapper; first | (rw [if_pos (by decide +kernel)]; kernel_rfl) | (rw [if_neg (by decide +kernel)]; exact ⟨rfl, rfl⟩))
    (fun os started H enc _ => lifted os started H enc)
end Go.Proofs.Ytdheddgdlindmaa.recordLeads
namespace Go.Proofs.Ytdheddgdlindmaa
theorem recordLeads_holds : Rows.RecordLeadsSaid := recordLeads.holds
#print axioms recordLeads_holds
end Go.Proofs.Ytdheddgdlindmaa
