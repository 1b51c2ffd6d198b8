/-
  The reference of record: Changes; sameTexts of equal rows.
-/
import Derived.Test.YtdheddgdlindmaaReA
import Derived.Test.YtdheddgdlindmaaRfD
import Derived.Test.YtdheddgdlindmaaRcU
namespace Go.Proofs.Ytdheddgdlindmaa
open Go.ChangeShapes Go.WideShapes Go.ChangeAt Go.RowKit Go.PlainAid

theorem rdx_ownR {W : World} {B : Nat} {v : Value} {l : List ByteArray} (h : W.ownsRow B 9 1 v l.length (svs l)) : RdX W v l := by
  rcases h.2 with ⟨rfl, h0⟩ | ⟨g, cap, cur, rfl, _, hg, -⟩
  · have : l = [] := List.length_eq_zero_iff.1 h0
    subst this
    exact ⟨none, 0, rfl, fun i o h => by simp at h⟩
  · refine ⟨_, _, rfl, fun i o hi => ⟨g, 0, rfl, heap_lt hg, ?_⟩⟩
    have q := h.cells (g := g) rfl i (.string o) (by simp [svs, hi])
    have hadd : (⟨g, 0, none⟩ : Addr).add i = ⟨g, i, none⟩ := by unfold Addr.add; split <;> simp_all
    rw [hadd] at q
    rw [Nat.zero_add]
    exact q
theorem take_memR {α : Type} {l : List α} {k : Nat} {x : α} (h : k < l.length) : x ∈ l.take (k + 1) ↔ x ∈ l.take k ∨ x = l[k] := by
  rw [List.take_succ_eq_append_getElem h, List.mem_append, List.mem_singleton]
theorem RdX.belowR {W W' : World} {v : Value} {l : List ByteArray} (h : RdX W v l) (hb : Below W.heap.size W W') : RdX W' v l := by
  obtain ⟨ao, cp, e, h1⟩ := h
  refine ⟨ao, cp, e, fun i o hi => ?_⟩
  obtain ⟨b, off, e1, hl, c0⟩ := h1 i o hi
  exact ⟨b, off, e1, Nat.lt_of_lt_of_le hl hb.size, (hb.cell (p := ⟨b, off + i, none⟩) hl).trans c0⟩
set_option maxRecDepth 20000 in
set_option maxHeartbeats 1000000 in
theorem sameTx_true (va vb : Value) (A : List ByteArray) (w : World) (hA : RdX w va A) (hB : RdX w vb A) (hm : A.length ≤ 9223372036854775000) :
    Calls Try.prog 18 #[va, vb] w fun e w' => e = .returned (.bool true) ∧ Below w.heap.size w w' := by
  obtain ⟨ao, ac, rfl, hac⟩ := hA
  obtain ⟨bo, bc, rfl, hbc⟩ := hB
  go_enter Try.func18, Try.ntmps18
  go_wp2_with fail
  go_loopw [5] (fun i wr => ∃ k : Nat, k ≤ A.length ∧ i = .int .i64 (k : Int) ∧ Below w.heap.size w wr) (fun i _ => A.length - (Go.RowKit.intOf i).toNat)
  case atStart => exact ⟨0, by omega, rfl, Below.refl _ _⟩
  case round =>
    obtain ⟨k, hk, rfl, hbl⟩ := hrel
    by_cases hlt : k < A.length
    · have hlt' : (k : Int) < (A.length : Int) := by omega
      obtain ⟨b1, o1, rfl, hb1, c0⟩ := hac k A[k] (by simp [hlt])
      obtain ⟨b2, o2, rfl, hb2, d0⟩ := hbc k A[k] (by simp [hlt])
      rw [← hbl.cell (p := ⟨b1, _, none⟩) hb1] at c0
      rw [← hbl.cell (p := ⟨b2, _, none⟩) hb2] at d0
      clear hac hbc
      generalize A[k] = y at *
      go_wp2_with fail
      go_region
      go_wp2_with fail
      exact ⟨⟨k + 1, by omega, by go_num, Below.drew hbl⟩, by simp [Go.RowKit.intOf]; omega⟩
    · have hlt' : ¬ (k : Int) < (A.length : Int) := by omega
      clear hac hbc
      go_wp2_with fail
      go_ret
      exact ⟨rfl, hbl⟩
/-- The two rows of pairs, as they lie. -/
structure Lt (w : World) (A B : List PaD) (av bv : Value) (W : World) : Prop where
  a : RdPa W av A
  b : RdPa W bv B
  bl : Below w.heap.size w W
theorem Lt.below {w W W' : World} {A B : List PaD} {av bv : Value} (h : Lt w A B av bv W) (hb : Below W.heap.size W W') : Lt w A B av bv W' := ⟨h.a.below hb, h.b.below hb, h.bl.trans (hb.mono h.bl.size)⟩
theorem gnD_take {A B : List PaD} {k : Nat} (h : k < A.length) : ((A.take (k + 1)).filter fun p => !hasK B p.k).map PaD.k = ((A.take k).filter fun p => !hasK B p.k).map PaD.k ++ (if hasK B A[k].k then [] else [A[k].k]) := by
  rw [fil_take _ A k h, List.map_append]
  congr 1
  cases hasK B A[k].k <;> simp
set_option maxRecDepth 20000 in
set_option maxHeartbeats 4000000 in
theorem changes15_any (F T : StD) (f1 f2 f3 t1 t2 t3 : Value) (w : World) (hf : RdSt w f1 f2 f3 F) (ht : RdSt w t1 t2 t3 T) (hFf : F.Fit) (hFt : T.Fit) (hSf : F.Sm) (hSt : T.Sm) :
    Calls Try.prog 17 #[.agg (F.fs f1 f2 f3), .agg (T.fs t1 t2 t3)] w fun e w' => ∃ u v, e = .returned (.tuple #[u, v, .int .i64 (chE F T).2.2]) ∧ w'.ownsRow w.heap.size 44 2 u (chE F T).1.length (pcs (chE F T).1) ∧ w'.ownsRow w.heap.size 9 1 v (chE F T).2.1.length (svs (chE F T).2.1) ∧ Below w.heap.size w w' := by
  obtain ⟨i0, hin, hz0, hz1, hz2⟩ := info_parts Try.infoPa
  obtain ⟨i1, hin1, hy0, hy1, hy2⟩ := info_parts Try.infoSR
  have b1 := alloc_bR w (.cells (F.fs f1 f2 f3) 26)
  have b2 := alloc_bR (w.alloc (.cells (F.fs f1 f2 f3) 26)) (.cells (T.fs t1 t2 t3) 26)
  have k1 := (sb_new w F f1 f2 f3).below b2
  have k2 := sb_new (w.alloc (.cells (F.fs f1 f2 f3) 26)) T t1 t2 t3
  rw [World.size_alloc] at k2
  have hB0 := b1.trans (b2.mono b1.size)
  have hf' := hf.below hB0
  have ht' := ht.below hB0
  obtain ⟨a1, c1, e1, -⟩ := hf.c
  subst e1
  obtain ⟨a2, c2, e2, -⟩ := hf.b
  subst e2
  obtain ⟨a3, c3, e3, -⟩ := hf.u
  subst e3
  obtain ⟨d1, g1, e1, -⟩ := ht.c
  subst e1
  obtain ⟨d2, g2, e2, -⟩ := ht.b
  subst e2
  obtain ⟨d3, g3, e3, -⟩ := ht.u
  subst e3
  generalize hw2 : (w.alloc (.cells (F.fs (.slice a1 F.cs.length c1) (.slice a2 F.bs.length c2) (.slice a3 F.us.length c3)) 26)).alloc (.cells (T.fs (.slice d1 T.cs.length g1) (.slice d2 T.bs.length g2) (.slice d3 T.us.length g3)) 26) = w2 at *
  have cP := pairs15_any F _ _ _ w2 hf' hFf hSf
  have cQ := fun W (h : Below w2.heap.size w2 W) => pairs15_any T _ _ _ W (ht'.below h) hFt hSt
  have hX : ∀ W, Below w2.heap.size w2 W → W.cell? ⟨w.heap.size, 0, none⟩ = some (.int .i64 F.nc) ∧ W.cell? ⟨w.heap.size, 1, none⟩ = some (.int .i64 F.nb) ∧ W.cell? ⟨w.heap.size, 2, none⟩ = some (.slice a1 F.cs.length c1) ∧ W.cell? ⟨w.heap.size, 3, none⟩ = some (.slice a2 F.bs.length c2) ∧ W.cell? ⟨w.heap.size, 4, none⟩ = some (.slice a3 F.us.length c3) := fun W h => cellsSB (k1.below h)
  have hY : ∀ W, Below w2.heap.size w2 W → W.cell? ⟨w.heap.size + 1, 0, none⟩ = some (.int .i64 T.nc) ∧ W.cell? ⟨w.heap.size + 1, 1, none⟩ = some (.int .i64 T.nb) ∧ W.cell? ⟨w.heap.size + 1, 2, none⟩ = some (.slice d1 T.cs.length g1) ∧ W.cell? ⟨w.heap.size + 1, 3, none⟩ = some (.slice d2 T.bs.length g2) ∧ W.cell? ⟨w.heap.size + 1, 4, none⟩ = some (.slice d3 T.us.length g3) := fun W h => cellsSB (k2.below h)
  obtain ⟨x0, x1, x2, x3, x4⟩ := hX w2 (Below.refl _ _)
  have hch : (prE F).2 ≠ 0 ∨ (prE T).2 ≠ 0 → chE F T = ([], [], 150) := fun h => by
    unfold chE
    rw [if_neg]
    rintro ⟨h1, h2⟩
    unfold prE at h
    rw [if_pos h1, if_pos h2] at h
    simp at h
  have hok : (prE F).2 = 0 → (prE T).2 = 0 → chE F T = (ptD (prE F).1 (prE T).1, gnD (prE F).1 (prE T).1, 0) := fun h1 h2 => by
    unfold prE at h1 h2 ⊢
    by_cases q1 : stF F = true
    · by_cases q2 : stF T = true
      · rw [if_pos q1, if_pos q2, chE, if_pos ⟨q1, q2⟩]
      · rw [if_neg q2] at h2
        simp at h2
    · rw [if_neg q1] at h1
      simp at h1
  have hlF := prE_len F
  have hlT := prE_len T
  clear b1 b2 hf ht hf' ht' k1 k2 hFf hFt hSf hSt
  simp only [StD.fs] at cP cQ hw2 ⊢
  generalize prE F = X at *
  generalize prE T = Y at *
  generalize chE F T = C at *
  go_enter Try.func17, Try.ntmps17
  go_wp2_with fail
  refine cP.mono ?_
  rintro e w3 ⟨dv, rfl, ho3, hb3⟩
  obtain ⟨a9, k9, rfl⟩ := own_form ho3
  have cQ' := cQ w3 hb3
  clear x0 x1 x2 x3 x4 cP cQ
  obtain ⟨y0, y1, y2, y3, y4⟩ := hY w3 hb3
  go_wp2_with fail
  refine cQ'.mono ?_
  rintro e w5 ⟨dv4, rfl, ho4, hb4⟩
  obtain ⟨a8, k8, rfl⟩ := own_form ho4
  have hB3 := hB0.trans (hb3.mono hB0.size)
  have hB5 := hB3.trans (hb4.mono hB3.size)
  have hA5 : RdPa w5 (.slice a9 X.1.length k9) X.1 := (rdpa_own ho3).below hb4
  have hB5' : RdPa w5 (.slice a8 Y.1.length k8) Y.1 := rdpa_own ho4
  clear y0 y1 y2 y3 y4 hX hY ho3 ho4 hb3 hb4 hw2 cQ' hB3 hB0
  obtain ⟨A, X2⟩ := X
  obtain ⟨B, Y2⟩ := Y
  simp only at *
  by_cases hx2 : X2 = 0
  · by_cases hy2' : Y2 = 0
    · subst hx2 hy2'
      obtain ⟨C1, C2, C3⟩ := C
      have eC := hok rfl rfl
      simp only [Prod.mk.injEq] at eC
      obtain ⟨eC1, eC2, rfl⟩ := eC
      obtain ⟨HC1⟩ : Nonempty (Hid (C1 = ptD A B)) := ⟨eC1⟩
      obtain ⟨HC2⟩ : Nonempty (Hid (C2 = gnD A B)) := ⟨eC2⟩
      clear eC1 eC2 hok hch
      have L5 : Lt w5 A B (.slice a9 A.length k9) (.slice a8 B.length k8) w5 := ⟨hA5, hB5', Below.refl _ _⟩
      have L50 := L5
      clear hA5 hB5'
      go_wp2_with fail
      go_loopw [11, 13] (fun lv i wr => ∃ (k : Nat) (P : List PaD), k ≤ B.length ∧ i = .int .i64 (k : Int) ∧ Hid (P = (B.take k).filter fun p => !decide (p ∈ A)) ∧ P.length ≤ k ∧ wr.ownsRow w5.heap.size 44 2 lv P.length (pcs P) ∧ Lt w5 A B (.slice a9 A.length k9) (.slice a8 B.length k8) wr) (fun _ i _ => B.length - (Go.RowKit.intOf i).toNat)
      case atStart => exact ⟨0, [], by omega, rfl, by show _ = _; simp, by simp, World.ownsRow_nil _ _ _ _, L5⟩
      case round =>
        clear L5
        obtain ⟨k, P, hk, rfl, HP, hPl, ho, hL⟩ := hrel
        obtain ⟨al, kl, rfl⟩ := own_form ho
        by_cases hlt : k < B.length
        · have hlt' : (k : Int) < (B.length : Int) := by omega
          have hxk : Hid (B[k]? = some B[k]) := by show _ = _; simp [hlt]
          have HF := fil_take (fun p => !decide (p ∈ A)) B k hlt
          rw [← HP.out] at HF
          obtain ⟨HF1⟩ : Nonempty (Hid ((B.take (k + 1)).filter (fun p => !decide (p ∈ A)) = P ++ (if !decide (B[k] ∈ A) then [B[k]] else []))) := ⟨HF⟩
          clear HF HP
          generalize B[k] = x at *
          go_wp2_with fail
          go_loopw [14, 15] (fun fv i wr => ∃ (j : Nat) (f : Bool), j ≤ A.length ∧ i = .int .i64 (j : Int) ∧ fv = .bool f ∧ Hid (f = decide (x ∈ A.take j)) ∧ wr.ownsRow w5.heap.size 44 2 (.slice al P.length kl) P.length (pcs P) ∧ Lt w5 A B (.slice a9 A.length k9) (.slice a8 B.length k8) wr) (fun _ i _ => A.length - (Go.RowKit.intOf i).toNat)
          case atStart => exact ⟨0, false, by omega, rfl, rfl, by show _ = _; simp, ho, hL⟩
          case round =>
            clear hL ho
            obtain ⟨j, f, hj, rfl, rfl, Hf, ho, hL⟩ := hrel
            by_cases hjl : j < A.length
            · have hjl' : (j : Int) < (A.length : Int) := by omega
              cases f with
              | true =>
                have Hf2 : Hid (true = decide (x ∈ A.take (j + 1))) := by
                  show _ = _
                  have := of_decide_eq_true Hf.out.symm
                  exact (decide_eq_true ((take_memR hjl).2 (.inl this))).symm
                clear Hf
                go_upto_region 14 with fail
                go_quiet (fail)
                have hL2 := hL.below (below_drewR wr nq)
                have ho2 := own_belowG ho (below_drewR wr nq)
                generalize wr.drewN nq = W at *
                go_wp2_with fail
                exact ⟨⟨j + 1, true, by omega, by go_num, rfl, Hf2, ho2, hL2⟩, by simp [Go.RowKit.intOf]; omega⟩
              | false =>
                have hno := of_decide_eq_false Hf.out.symm
                obtain ⟨ao', cp', e1, hcP⟩ := hL.a
                simp only [Value.slice.injEq] at e1
                obtain ⟨rfl, -, rfl⟩ := e1
                obtain ⟨gp, op, rfl, -, p0, p1⟩ := hcP j A[j] (by simp [hjl])
                obtain ⟨ao', cp', e1, hcB⟩ := hL.b
                simp only [Value.slice.injEq] at e1
                obtain ⟨rfl, -, rfl⟩ := e1
                obtain ⟨gb, ob, rfl, -, q0, q1⟩ := hcB k x hxk.out
                have Hf2 : ∀ b, (x = A[j] ↔ b = true) → Hid (b = decide (x ∈ A.take (j + 1))) := fun b hb => by
                  show _ = _
                  rw [Bool.eq_iff_iff, decide_eq_true_iff, take_memR hjl, ← hb]
                  exact ⟨.inr, fun h => h.elim (fun h => absurd h hno) id⟩
                generalize A[j] = y at *
                clear hcP hcB Hf hno
                by_cases he : x = y
                · have Hf3 := Hf2 true (by simp [he])
                  subst he
                  clear Hf2
                  go_upto_region 14 with fail
                  go_quiet (fail)
                  have hL2 := hL.below (below_drewR wr nq)
                  have ho2 := own_belowG ho (below_drewR wr nq)
                  clear p0 p1 q0 q1
                  generalize wr.drewN nq = W at *
                  go_wp2_with fail
                  exact ⟨⟨j + 1, true, by omega, by go_num, rfl, Hf3, ho2, hL2⟩, by simp [Go.RowKit.intOf]; omega⟩
                · have Hf3 := Hf2 false (by simp [he])
                  have hne := pad_ne he
                  clear Hf2 he
                  rcases hne with h1 | ⟨h1, h2⟩
                  · have h1' : ¬ y.k.toList = x.k.toList := fun e => str_neR h1 e.symm
                    clear h1
                    go_upto_region 14 with fail
                    go_quiet (fail)
                    have hL2 := hL.below (below_drewR wr nq)
                    have ho2 := own_belowG ho (below_drewR wr nq)
                    clear p0 p1 q0 q1
                    generalize wr.drewN nq = W at *
                    go_wp2_with fail
                    exact ⟨⟨j + 1, false, by omega, by go_num, rfl, Hf3, ho2, hL2⟩, by simp [Go.RowKit.intOf]; omega⟩
                  · have h2' : ¬ y.v.toList = x.v.toList := fun e => str_neR h2 e.symm
                    rw [h1] at q0
                    clear h1 h2
                    go_upto_region 14 with fail
                    go_quiet (fail)
                    have hL2 := hL.below (below_drewR wr nq)
                    have ho2 := own_belowG ho (below_drewR wr nq)
                    clear p0 p1 q0 q1
                    generalize wr.drewN nq = W at *
                    go_wp2_with fail
                    exact ⟨⟨j + 1, false, by omega, by go_num, rfl, Hf3, ho2, hL2⟩, by simp [Go.RowKit.intOf]; omega⟩
            · have hjl' : ¬ (j : Int) < (A.length : Int) := by omega
              rw [List.take_of_length_le (by omega)] at Hf
              cases f with
              | true =>
                have HP2 : Hid (P = (B.take (k + 1)).filter fun p => !decide (p ∈ A)) := by show _ = _; rw [HF1.out, ← Hf.out]; simp
                clear Hf HF1
                go_wp2_with fail
                exact ⟨⟨k + 1, P, by omega, by go_num, HP2, by omega, ho, hL⟩, by simp [Go.RowKit.intOf]; omega⟩
              | false =>
                have HP2 : Hid (P ++ [x] = (B.take (k + 1)).filter fun p => !decide (p ∈ A)) := by show _ = _; rw [HF1.out, ← Hf.out]; simp
                obtain ⟨ao', cp', e1, hcB⟩ := hL.b
                simp only [Value.slice.injEq] at e1
                obtain ⟨rfl, -, rfl⟩ := e1
                obtain ⟨gb, ob, rfl, -, q0, q1⟩ := hcB k x hxk.out
                have ha := alloc_bR wr (.cells #[.string x.k, .string x.v] 44)
                have hoE := own_belowG ho ha
                have hLE := hL.below ha
                have hsE := hLE.bl.size
                clear Hf HF1 hcB
                go_wp2_with (at_builtin; refine wpList_append_own _ rfl (.tmp 61) (.tmp 66) 28 rfl w5.heap.size 44 i0 (.agg #[.string ⟨#[]⟩, .string ⟨#[]⟩]) 2 32 Try.underlying28 hin hz0 hz1 hz2 rfl (by decide) _ P.length _ rfl hoE ⟨_, 0, none⟩ 1 1 [.string x.k, .string x.v] rfl rfl (many_new _ _ _) (two_str _ _) (by unfold maxLen; omega) (by omega) hsE ?_; intro v6 w6 ho6 hg6 _)
                have ho7 : w6.ownsRow w5.heap.size 44 2 v6 (P ++ [x]).length (pcs (P ++ [x])) := by
                  rw [List.length_append, pcs_app]
                  exact ho6
                have hb7 := ownB hoE hg6 hLE.bl (Nat.le_refl _) hsE
                exact ⟨⟨k + 1, P ++ [x], by omega, by go_num, HP2, by simp; omega, ho7, ⟨L50.a.below hb7, L50.b.below hb7, hb7⟩⟩, by simp [Go.RowKit.intOf]; omega⟩
        · have hlt' : ¬ (k : Int) < (B.length : Int) := by omega
          have eP : Hid (P = C1) := by show _ = _; rw [HP.out, List.take_of_length_le (by omega), HC1.out]; rfl
          clear HP
          go_wp2_with fail
          go_loopw [12, 16] (fun lv i wr => ∃ (k : Nat) (G : List ByteArray), k ≤ A.length ∧ i = .int .i64 (k : Int) ∧ Hid (G = ((A.take k).filter fun p => !hasK B p.k).map PaD.k) ∧ G.length ≤ k ∧ wr.ownsRow w5.heap.size 9 1 lv G.length (svs G) ∧ wr.ownsRow w5.heap.size 44 2 (.slice al P.length kl) P.length (pcs P) ∧ Lt w5 A B (.slice a9 A.length k9) (.slice a8 B.length k8) wr) (fun _ i _ => A.length - (Go.RowKit.intOf i).toNat)
          case atStart => exact ⟨0, [], by omega, rfl, by show _ = _; simp, by simp, World.ownsRow_nil _ _ _ _, ho, hL⟩
          case round =>
            clear hL hk hlt hlt' ho
            obtain ⟨k, G, hk, rfl, HG, hGl, hg, ho, hL⟩ := hrel
            obtain ⟨ag, kg, rfl⟩ := own_form hg
            by_cases hlt : k < A.length
            · have hlt' : (k : Int) < (A.length : Int) := by omega
              have hxk : Hid (A[k]? = some A[k]) := by show _ = _; simp [hlt]
              have HF := gnD_take (B := B) hlt
              rw [← HG.out] at HF
              obtain ⟨HF1⟩ : Nonempty (Hid (((A.take (k + 1)).filter fun p => !hasK B p.k).map PaD.k = G ++ (if hasK B A[k].k then [] else [A[k].k]))) := ⟨HF⟩
              clear HF HG
              generalize A[k] = x at *
              go_wp2_with fail
              go_loopw [17, 18] (fun fv i wr => ∃ (j : Nat) (f : Bool), j ≤ B.length ∧ i = .int .i64 (j : Int) ∧ fv = .bool f ∧ Hid (f = true ↔ ∃ y ∈ B.take j, y.k = x.k) ∧ wr.ownsRow w5.heap.size 9 1 (.slice ag G.length kg) G.length (svs G) ∧ wr.ownsRow w5.heap.size 44 2 (.slice al P.length kl) P.length (pcs P) ∧ Lt w5 A B (.slice a9 A.length k9) (.slice a8 B.length k8) wr) (fun _ i _ => B.length - (Go.RowKit.intOf i).toNat)
              case atStart => exact ⟨0, false, by omega, rfl, rfl, by show _ ↔ _; simp, hg, ho, hL⟩
              case round =>
                clear hL ho hg
                obtain ⟨j, f, hj, rfl, rfl, Hf, hg, ho, hL⟩ := hrel
                by_cases hjl : j < B.length
                · have hjl' : (j : Int) < (B.length : Int) := by omega
                  cases f with
                  | true =>
                    have Hf2 : Hid (true = true ↔ ∃ y ∈ B.take (j + 1), y.k = x.k) := ⟨fun _ => by obtain ⟨y, hy, e⟩ := Hf.out.1 rfl; exact ⟨y, (take_memR hjl).2 (.inl hy), e⟩, fun _ => rfl⟩
                    clear Hf
                    go_upto_region 24 with fail
                    go_quiet (fail)
                    have hL2 := hL.below (below_drewR wr nq)
                    have ho2 := own_belowG ho (below_drewR wr nq)
                    have hg2 := own_belowG hg (below_drewR wr nq)
                    generalize wr.drewN nq = W at *
                    go_wp2_with fail
                    exact ⟨⟨j + 1, true, by omega, by go_num, rfl, Hf2, hg2, ho2, hL2⟩, by simp [Go.RowKit.intOf]; omega⟩
                  | false =>
                    have hno : ¬ ∃ y ∈ B.take j, y.k = x.k := fun h => by have := Hf.out.2 h; cases this
                    obtain ⟨ao', cp', e1, hcP⟩ := hL.b
                    simp only [Value.slice.injEq] at e1
                    obtain ⟨rfl, -, rfl⟩ := e1
                    obtain ⟨gp, op, rfl, -, p0, -⟩ := hcP j B[j] (by simp [hjl])
                    obtain ⟨ao', cp', e1, hcB⟩ := hL.a
                    simp only [Value.slice.injEq] at e1
                    obtain ⟨rfl, -, rfl⟩ := e1
                    obtain ⟨gb, ob, rfl, -, q0, -⟩ := hcB k x hxk.out
                    have Hf2 : ∀ b, (B[j].k = x.k ↔ b = true) → Hid (b = true ↔ ∃ y ∈ B.take (j + 1), y.k = x.k) := fun b hb => by
                      show _ ↔ _
                      rw [← hb]
                      refine ⟨fun h => ⟨B[j], (take_memR hjl).2 (.inr rfl), h⟩, ?_⟩
                      rintro ⟨y, hy, e⟩
                      rcases (take_memR hjl).1 hy with h | h
                      · exact absurd ⟨y, h, e⟩ hno
                      · rw [← h]; exact e
                    generalize B[j] = y at *
                    clear hcP hcB Hf hno
                    by_cases he : y.k = x.k
                    · have Hf3 := Hf2 true (by simp [he])
                      rw [he] at p0
                      clear Hf2 he
                      go_upto_region 24 with fail
                      go_quiet (fail)
                      have hL2 := hL.below (below_drewR wr nq)
                      have ho2 := own_belowG ho (below_drewR wr nq)
                      have hg2 := own_belowG hg (below_drewR wr nq)
                      clear p0 q0
                      generalize wr.drewN nq = W at *
                      go_wp2_with fail
                      exact ⟨⟨j + 1, true, by omega, by go_num, rfl, Hf3, hg2, ho2, hL2⟩, by simp [Go.RowKit.intOf]; omega⟩
                    · have Hf3 := Hf2 false (by simp [he])
                      have h1' : (x.k.toList == y.k.toList) = false := beq_eq_false_iff_ne.2 (fun e => str_neR he e.symm)
                      clear Hf2 he
                      go_upto_region 24 with fail
                      go_quiet (fail)
                      have hL2 := hL.below (below_drewR wr nq)
                      have ho2 := own_belowG ho (below_drewR wr nq)
                      have hg2 := own_belowG hg (below_drewR wr nq)
                      clear p0 q0
                      generalize wr.drewN nq = W at *
                      go_wp2_with fail
                      exact ⟨⟨j + 1, false, by omega, by go_num, rfl, Hf3, hg2, ho2, hL2⟩, by simp [Go.RowKit.intOf]; omega⟩
                · have hjl' : ¬ (j : Int) < (B.length : Int) := by omega
                  rw [List.take_of_length_le (by omega)] at Hf
                  cases f with
                  | true =>
                    have hk1 : hasK B x.k = true := decide_eq_true (Hf.out.1 rfl)
                    have HG2 : Hid (G = ((A.take (k + 1)).filter fun p => !hasK B p.k).map PaD.k) := by show _ = _; rw [HF1.out, hk1]; simp
                    clear Hf HF1 hk1
                    go_wp2_with fail
                    exact ⟨⟨k + 1, G, by omega, by go_num, HG2, by omega, hg, ho, hL⟩, by simp [Go.RowKit.intOf]; omega⟩
                  | false =>
                    have hk1 : hasK B x.k = false := decide_eq_false (fun h => by have := Hf.out.2 h; cases this)
                    have HG2 : Hid (G ++ [x.k] = ((A.take (k + 1)).filter fun p => !hasK B p.k).map PaD.k) := by show _ = _; rw [HF1.out, hk1]; simp
                    obtain ⟨ao', cp', e1, hcB⟩ := hL.a
                    simp only [Value.slice.injEq] at e1
                    obtain ⟨rfl, -, rfl⟩ := e1
                    obtain ⟨gb, ob, rfl, -, q0, -⟩ := hcB k x hxk.out
                    have ha := alloc_bR wr (.cells #[.string x.k] 9)
                    have hoE := own_belowG ho ha
                    have hgE := own_belowG hg ha
                    have hLE := hL.below ha
                    have hsE := hLE.bl.size
                    clear Hf HF1 hcB hk1
                    go_wp2_with (at_builtin; refine wpList_append_own _ rfl (.tmp 96) (.tmp 102) 39 rfl w5.heap.size 9 i1 (.string ⟨#[]⟩) 1 16 Try.underlying39 hin1 hy0 hy1 hy2 rfl (by decide) _ G.length _ rfl hgE ⟨_, 0, none⟩ 1 1 [.string x.k] rfl rfl (many_new _ _ _) (one_str _) (by unfold maxLen; omega) (by omega) hsE ?_; intro v6 w6 ho6 hg6 _)
                    have ho7 : w6.ownsRow w5.heap.size 9 1 v6 (G ++ [x.k]).length (svs (G ++ [x.k])) := by
                      unfold svs
                      rw [List.length_append, List.map_append]
                      exact ho6
                    have hb7 := ownB hgE hg6 hLE.bl (Nat.le_refl _) hsE
                    exact ⟨⟨k + 1, G ++ [x.k], by omega, by go_num, HG2, by simp; omega, ho7, hoE.kept hg6 (own_apart hoE hgE (by decide)), ⟨L50.a.below hb7, L50.b.below hb7, hb7⟩⟩, by simp [Go.RowKit.intOf]; omega⟩
            · have hlt' : ¬ (k : Int) < (A.length : Int) := by omega
              have eG : Hid (G = C2) := by show _ = _; rw [HG.out, List.take_of_length_le (by omega), HC2.out]; rfl
              have h9 : wr.ownsRow w.heap.size 44 2 (.slice al P.length kl) C1.length (pcs C1) := by rw [← eP.out]; exact own_lower ho hB5.size
              have h8 : wr.ownsRow w.heap.size 9 1 (.slice ag G.length kg) C2.length (svs C2) := by rw [← eG.out]; exact own_lower hg hB5.size
              have hbl := hL.bl
              clear HG eG eP HC1 HC2
              go_wp2_with fail
              go_ret3
              exact ⟨_, _, rfl, h9, h8, hB5.trans (hbl.mono hB5.size)⟩
    · have eC := hch (.inr hy2')
      subst eC
      subst hx2
      simp only at *
      clear hok hch
      go_wp2_with fail
      go_ret3
      exact ⟨_, _, rfl, World.ownsRow_nil _ _ _ _, World.ownsRow_nil _ _ _ _, hB5⟩
  · have eC := hch (.inl hx2)
    subst eC
    simp only at *
    clear hok hch
    go_wp2_with fail
    go_ret3
    exact ⟨_, _, rfl, World.ownsRow_nil _ _ _ _, World.ownsRow_nil _ _ _ _, hB5⟩
end Go.Proofs.Ytdheddgdlindmaa
