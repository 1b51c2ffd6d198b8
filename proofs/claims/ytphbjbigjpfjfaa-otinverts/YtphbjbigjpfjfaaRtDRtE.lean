/-
  The contract of the reference's Invert; what it gives is what Invert gives.
-/
import Derived.Test.YtphbjbigjpfjfaaRtB
import Derived.Test.YtphbjbigjpfjfaaOtMOtNOtOOtPOtQOtIn
import Derived.Deep.RegionLaw
namespace Go.Proofs.Ytphbjbigjpfjfaa
open Go.ChangeShapes Go.WideShapes Go.ChangeAt Go.RowKit Go.PlainAid

/-- Where marks of the base stand. -/
def plL : List (Nat ⊕ Int) → Nat → (Nat → Int) → Nat → Int
  | [], _, f => f
  | .inl p :: m, j, f => plL m (j + 1) (fun i => if i = p then (j : Int) else f i)
  | .inr _ :: m, j, f => plL m (j + 1) f
theorem plL_out : ∀ (m : List (Nat ⊕ Int)) (j : Nat) (f : Nat → Int) (x : Nat), (∀ p, Sum.inl p ∈ m → p ≠ x) → plL m j f x = f x
  | [], _, _, _, _ => rfl
  | .inl p :: m, j, f, x, h => by
    rw [plL, plL_out m _ _ x (fun q hq => h q (by simp [hq])), if_neg (fun e => h p (by simp) e.symm)]
  | .inr _ :: m, j, f, x, h => by
    rw [plL, plL_out m _ _ x (fun q hq => h q (by simp [hq]))]
def mkB (zs : List Int) (q : Nat → Int) (x : Nat) : Nat ⊕ Int := if 0 ≤ q x then .inl (q x).toNat else .inr (zs.getD x 0)
/-- The marks of what undoes, place by place. -/
theorem inv_places : ∀ (l : List U) (zs : List Int) (i j : Nat) (f : Nat → Int), i + baseU l ≤ zs.length → (∀ x, i ≤ x → f x = -1) → mkU j (invU (zs.drop i) l) = (List.range' i (baseU l)).map (mkB zs (plL (mkU i l) j f))
  | [], zs, i, j, f, _, _ => by simp [invU, mkU, baseU]
  | .K :: l, zs, i, j, f, h, hf => by
    simp only [baseU] at h
    have ih := inv_places l zs (i + 1) (j + 1) (fun x => if x = i then (j : Int) else f x) (by omega) (fun x hx => by rw [if_neg (by omega)]; exact hf x (by omega))
    simp only [invU, mkU, baseU]
    rw [List.tail_drop, ih, show 1 + baseU l = baseU l + 1 by omega, List.range'_succ, List.map_cons]
    congr 1
    have e : plL (.inl i :: mkU (i + 1) l) j f i = (j : Int) := by
      rw [plL, plL_out _ _ _ i (fun p hp => by have := marks_ge l _ _ hp; omega), if_pos rfl]
    simp [mkB, e]
  | .R :: l, zs, i, j, f, h, hf => by
    simp only [baseU] at h
    have ih := inv_places l zs (i + 1) j f (by omega) (fun x hx => hf x (by omega))
    have hi : i < zs.length := by omega
    simp only [invU, mkU, baseU]
    rw [List.tail_drop, ih, show 1 + baseU l = baseU l + 1 by omega, List.range'_succ, List.map_cons]
    congr 1
    have e : plL (mkU (i + 1) l) j f i = -1 := by
      rw [plL_out _ _ _ i (fun p hp => by have := marks_ge l _ _ hp; omega), hf i (by omega)]
    rw [mkB, e, if_neg (by decide), List.drop_eq_getElem_cons hi, List.headD_cons, List.getD_eq_getElem?_getD, List.getElem?_eq_getElem hi]
    rfl
  | .I z :: l, zs, i, j, f, h, hf => by
    simp only [baseU] at h
    have ih := inv_places l zs i (j + 1) f h hf
    simp only [invU, mkU, baseU, plL]
    exact ih
theorem plL_snoc : ∀ (m : List (Nat ⊕ Int)) (x : Nat ⊕ Int) (j : Nat) (f : Nat → Int), plL (m ++ [x]) j f = plL [x] (j + m.length) (plL m j f)
  | [], x, j, f => by simp [plL]
  | .inl p :: m, x, j, f => by
    rw [List.cons_append, plL, plL_snoc m, plL, List.length_cons]
    congr 1; omega
  | .inr _ :: m, x, j, f => by
    rw [List.cons_append, plL, plL_snoc m, plL, List.length_cons]
    congr 1; omega
/-- The numbers of a row of places. -/
def plV (n : Nat) (q : Nat → Int) : List Int := (List.range n).map q
theorem plV_set (n : Nat) (q : Nat → Int) (p : Nat) (x : Int) : (plV n q).set p x = plV n (fun i => if i = p then x else q i) := by
  apply List.ext_getElem
  · simp [plV]
  · intro i h1 h2
    simp [plV] at h1
    rw [List.getElem_set]
    by_cases h : p = i
    · subst h; simp [plV]
    · have : ¬ i = p := fun e => h e.symm
      simp [plV, h, this]

/-- A row of numbers at g. -/
def RowI (W : World) (g : Nat) (l : List Int) : Prop := W.heap[g]? = some (.cells (iv l).toArray 3 (0, 0))
theorem RowI.cell {W : World} {g : Nat} {l : List Int} (h : RowI W g l) {i : Nat} (hi : i < l.length) : W.cell? ⟨g, i, none⟩ = some (.int .i64 (l.getD i 0)) := by
  rw [cell_of_row _ _ i _ _ (0, 0) h]
  simp [iv, hi]
theorem RowI.set {W : World} {g : Nat} {l : List Int} (h : RowI W g l) (i : Nat) (x : Int) : RowI (W.setCell ⟨g, i, none⟩ (.int .i64 x)) g (l.set i x) := by
  unfold RowI at h ⊢
  rw [heap_setCell h i _]
  simp [iv, List.map_set]
theorem RowI.below {W W' : World} {g : Nat} {l : List Int} (h : RowI W g l) (hb : Below W.heap.size W W') : RowI W' g l := (hb.block _ (heap_lt h)).trans h

set_option maxRecDepth 20000 in
theorem make_int (n : Nat) (hn : n ≤ 1001) (W : World) : (Instr.makeSlice 64 (.int .i64 (n : Int)) (.int .i64 (n : Int))).run Try.prog W = .ok (.slice (some ⟨W.heap.size, 0, none⟩) n n) (W.alloc (.cells (iv (List.replicate n 0)).toArray 3)) := by
  obtain ⟨i0, hi, hz0, hz1, hz2⟩ := info_parts Try.info3
  have h := run_make (P := Try.prog) W 64 3 i0 (.int .i64 0) Try.underlying64 hi hz0 .i64 .i64 (n : Int) (n : Int) (by omega) (by omega) (by rw [hz2]; omega) (by omega)
  rw [h, hz1]
  simp only [Int.toNat_natCast, Nat.mul_one]
  congr 3
  apply Array.ext'
  rw [show (Value.int .i64 0).cells = #[.int .i64 0] from rfl, toList_madeCells_one]
  simp [iv]

theorem pts_invU {P : List Int} (hP : ∀ z ∈ P, szI z ≠ 0) : ∀ (l : List U) (zs : List Int), (∀ z ∈ zs, z ∈ P) → baseU l ≤ zs.length → PtsU (invU zs l)
  | [], _, _, _ => fun z hz => by simp [invU] at hz
  | .K :: l, zs, h, hb => fun z hz => by
    simp only [baseU] at hb
    simp only [invU, List.mem_cons, reduceCtorEq, false_or] at hz
    exact pts_invU hP l zs.tail (fun y hy => h y (List.mem_of_mem_tail hy)) (by rw [List.length_tail]; omega) z hz
  | .R :: l, zs, h, hb => fun z hz => by
    simp only [baseU] at hb
    simp only [invU, List.mem_cons, U.I.injEq] at hz
    rcases hz with rfl | hz
    · cases zs with
      | nil => simp at hb
      | cons y zs => exact hP _ (h _ (by simp))
    · exact pts_invU hP l zs.tail (fun y hy => h y (List.mem_of_mem_tail hy)) (by rw [List.length_tail]; omega) z hz
  | .I _ :: l, zs, h, hb => fun z hz => by
    simp only [baseU] at hb
    simp only [invU, List.mem_cons, reduceCtorEq, false_or] at hz
    exact pts_invU hP l zs h hb z hz

/-- The row that is handed to built. -/
def bkC (P : List Int) (q : Nat → Int) (k : Nat) : List Value := ((List.range k).map fun i => [Value.int .i64 (q i), .int .i64 (P.getD i 0)]).flatten
theorem bkC_succ (P : List Int) (q : Nat → Int) (k : Nat) : bkC P q (k + 1) = bkC P q k ++ [.int .i64 (q k), .int .i64 (P.getD k 0)] := by simp [bkC, List.range_succ]
theorem bkC_len (P : List Int) (q : Nat → Int) : ∀ k, (bkC P q k).length = k * 2
  | 0 => rfl
  | k + 1 => by rw [bkC_succ, List.length_append, bkC_len P q k]; simp; omega
theorem bkC_at (P : List Int) (q : Nat → Int) : ∀ (k i : Nat), i < k → (bkC P q k)[i * 2]? = some (.int .i64 (q i)) ∧ (bkC P q k)[i * 2 + 1]? = some (.int .i64 (P.getD i 0))
  | 0, i, h => by omega
  | k + 1, i, h => by
    have hl := bkC_len P q k
    rw [bkC_succ]
    by_cases e : i = k
    · subst e
      refine ⟨?_, ?_⟩ <;> rw [List.getElem?_append_right (by omega), hl] <;> simp
    · have ih := bkC_at P q k i (by omega)
      refine ⟨?_, ?_⟩ <;> rw [List.getElem?_append_left (by omega)]
      · exact ih.1
      · exact ih.2
theorem rdb_own {W : World} {B n : Nat} {v : Value} {P : List Int} {q : Nat → Int} (h : W.ownsRow B 47 2 v n (bkC P q n)) (hq : ∀ i, i < n → 0 ≤ q i ∨ q i = -1) : RdB W v ((List.range' 0 n).map (mkB P q)) := by
  have hlen : ((List.range' 0 n).map (mkB P q)).length = n := by simp
  rcases h.2 with ⟨rfl, h0⟩ | ⟨g, cap, cur, rfl, hb, hg, hn, _, hc, ht⟩
  · subst h0
    exact ⟨none, 0, rfl, fun i m hi => by simp at hi⟩
  · refine ⟨_, cap, by rw [hlen], fun i m hm => ?_⟩
    have hi : i < n := by have := (List.getElem?_eq_some_iff.1 hm).1; rwa [hlen] at this
    have em : m = mkB P q i := by
      rw [List.getElem?_map, List.getElem?_range' (by omega)] at hm
      simp at hm
      exact hm.symm
    obtain ⟨c0, c1⟩ := bkC_at P q n i hi
    have hadd : ∀ j, (⟨g, 0, none⟩ : Addr).add j = ⟨g, 0 + j, none⟩ := fun j => by unfold Addr.add; split <;> simp_all
    have g0 := h.cells (g := g) rfl _ _ c0
    have g1 := h.cells (g := g) rfl _ _ c1
    rw [hadd] at g0 g1
    refine ⟨g, 0, P.getD i 0, rfl, (h.lt g rfl).2, ?_, by rw [Nat.add_assoc]; exact g1, fun z hz => ?_⟩
    · rw [g0, em, mkB]
      rcases hq i hi with h1 | h1
      · rw [if_pos h1]; simp only [mF]; rw [Int.toNat_of_nonneg h1]
      · rw [if_neg (by omega)]; simp only [mF]; rw [h1]
    · rw [em, mkB] at hz
      split at hz
      · cases hz
      · injection hz
theorem plL_bd : ∀ (m : List (Nat ⊕ Int)) (j : Nat) (f : Nat → Int) (x : Nat), (0 ≤ f x ∨ f x = -1) → 0 ≤ plL m j f x ∨ plL m j f x = -1
  | [], _, _, _, h => h
  | .inl p :: m, j, f, x, h => plL_bd m (j + 1) _ x (by by_cases e : x = p <;> simp [e] <;> first | omega | exact h)
  | .inr _ :: m, j, f, x, h => plL_bd m (j + 1) f x h
end Go.Proofs.Ytphbjbigjpfjfaa

/-
  The contract of the reference's Invert.
-/
namespace Go.Proofs.Ytphbjbigjpfjfaa
open Go.ChangeShapes Go.WideShapes Go.ChangeAt Go.RowKit Go.PlainAid

theorem inR_nf {s : ByteArray} {D : List OpD} (iD : ∀ o ∈ D, o.In) (h : (apR s D).2 = 0) : inR s D = ((nfU (invU (pts s) (uw (stR D)))).map PS.op, 0) := by
  obtain ⟨v1, _, _, _, _, v6, v7⟩ := in_facts iD h
  obtain ⟨s0, _, s2⟩ := apR_zero' h
  have hps := pts_len (t := s) s0
  have bd := stR_bd D
  have hok := stR_ok (invO_in (stR D) (pts s) (by omega))
  refine Prod.ext ?_ v1
  rw [v6, jn_eq hok, v7]

theorem many_newD (wr : World) (l : List Value) (e : Nat) : ∀ j u, l[j]? = some u → ((wr.alloc (.cells l.toArray e)).drew).cell? ((⟨wr.heap.size, 0, none⟩ : Addr).add j) = some u := many_new wr l e
theorem bk_below {wr W W' : World} {e z n : Nat} {d : Value} {L : List Value} {C : Obj} (hbl : Below wr.heap.size wr W) (hown : W.ownsRow wr.heap.size e z d n L) (hg : ((W.alloc C).drew).grownBy W' d.ownBlock) : Below wr.heap.size wr W' := by
  have hg' : (W.alloc C).grownBy W' d.ownBlock := ⟨hg.os, hg.tape, hg.output, hg.size, hg.block⟩
  have ho : Only d.ownBlock.toList W W' := (Only.alloc _ _ _).trans (Only.of_grown hg' (fun k e => by simp [e]))
  exact hbl.trans (ho.below hbl.size (fun k hk => (hown.lt k (by simpa using hk)).1))

set_option maxRecDepth 20000 in
set_option maxHeartbeats 4000000 in
theorem rinvert_any (s : ByteArray) (v : Value) (D : List OpD) (w : World) (hs : s.size ≤ 1048576) (hr : RdD w v D) (hm : D.length ≤ maxLen) (hi : ∀ o ∈ D, o.Sm) :
    Calls Try.prog 17 #[.string s, v] w fun e w' => ∃ u, e = .returned (.tuple #[u, .int .i64 (inR s D).2]) ∧ w'.ownsRow w.heap.size 50 3 u (inR s D).1.length (ocs (inR s D).1) ∧ Below w.heap.size w w' := by
  obtain ⟨i0, hin, hz0, hz1, hz2⟩ := info_parts Try.infoMk
  have iD : ∀ o ∈ D, o.In := fun o ho => sm_in (hi o ho)
  by_cases cv : cpl s < 0
  · have e0 : inR s D = ([], 10) := by
      have : (apR s D).2 = 10 := by rw [apR, if_pos cv]
      rw [inR, this, if_neg (by decide)]
    rw [e0]
    rcases valid_or_bad s with ⟨n, hv⟩ | ⟨n, hb⟩
    · rw [cpl_ok hv] at cv; omega
    · have hP := refPoints_bad s n w hs hb
      clear e0 hb cv
      go_enter Try.func17, Try.ntmps17
      go_wp2_with fail
      refine hP.mono ?_
      rintro e w1 ⟨rfl, hb1⟩
      go_wp2_with fail
      go_ret2
      exact ⟨_, rfl, World.ownsRow_nil _ _ _ _, hb1⟩
  · have s0 : 0 ≤ cpl s := by omega
    have hP := refPoints_ok s (cpl s).toNat w hs (cpl_valid s0)
    have hpl := pts_len (t := s) s0
    have hpe : (cpl s).toNat = (pts s).length := by omega
    have hpd : ptL s (cpl s).toNat = pts s := rfl
    rw [hpd, hpe] at hP
    have hBs := fun W h => refBase_any v D W h hm hi
    by_cases ck : chk D = 0
    · by_cases cb : (bsum (stR D) : Int) = cpl s
      · have haz : (apR s D).2 = 0 := by rw [apR, if_neg cv, if_neg (fun h => h ck), if_neg (fun h => h cb)]
        rw [inR_nf iD haz]
        have hok := stR_ok iD
        have hPo := pts_ok s0
        have bd := stR_bd D
        have hnP : bsum (stR D) = (pts s).length := by omega
        have hMk := fun W h => rmarks_any v D W h hi ck
        rw [ck] at hBs
        have hbu : baseU (uw (stR D)) = (pts s).length := by rw [base_uw, hnP]
        have hML : (mkU 0 (uw (stR D))).length = tsum (stR D) := by rw [tgt_marks, tgt_uw]
        have hib : baseU (invU (pts s) (uw (stR D))) = (mkU 0 (uw (stR D))).length := by rw [inv_base, tgt_uw, hML]
        have hpl2 := inv_places (uw (stR D)) (pts s) 0 0 (fun _ => -1) (by omega) (fun _ _ => rfl)
        rw [List.drop_zero, hbu] at hpl2
        have hBu := fun u W h => rbuilt_any (mkU 0 (uw (stR D))).length u (invU (pts s) (uw (stR D))) W h hib (by omega) (by rw [tgt_marks, inv_tgt, hbu]; omega) (pts_invU hPo (uw (stR D)) (pts s) (fun _ h => h) (by omega))
        rw [hpl2] at hBu
        have hris := ris_mk (pts s).length (uw (stR D)) 0 (by omega) (ptsU_uw hok)
        have HLEN : Hid (((nfU (invU (pts s) (uw (stR D)))).map PS.op).length = (nfU (invU (pts s) (uw (stR D)))).length) := List.length_map ..
        have hlt : ∀ j p, (mkU 0 (uw (stR D)))[j]? = some (Sum.inl p) → p < (pts s).length := fun j p h => by
          have := marks_lt (uw (stR D)) 0 p (List.mem_of_getElem? h)
          omega
        have hn1 : (pts s).length ≤ 1000 := by omega
        have hM1 : (mkU 0 (uw (stR D))).length ≤ 1000 := by omega
        rw [hnP] at hBs
        clear cv s0 hpl hpe hpd ck cb haz hok hPo bd hnP hbu hML hib hpl2 hris hi hm iD
        generalize nfU (invU (pts s) (uw (stR D))) = N at *
        generalize mkU 0 (uw (stR D)) = M at *
        generalize pts s = P at *
        have hmk := make_int P.length (by omega)
        go_enter Try.func17, Try.ntmps17
        go_wp2_with fail
        refine hP.mono ?_
        rintro e w1 ⟨u1, rfl, ho1, hb1⟩
        obtain ⟨po, pc, rfl⟩ := own_form ho1
        go_wp2_with fail
        refine (hBs _ (hr.below hb1)).mono ?_
        rintro e w2 ⟨rfl, hb2⟩
        have B2 := chain hb1 hb2
        have ho2 := own_belowG ho1 hb2
        have hr2 := hr.below B2
        have hrow0 : RowI (w2.alloc (.cells (iv (List.replicate P.length 0)).toArray 3)) w2.heap.size (plV P.length (fun i => if i < 0 then -1 else 0)) := by
          have : plV P.length (fun i => if i < 0 then (-1 : Int) else 0) = List.replicate P.length 0 := by
            apply List.ext_getElem <;> simp [plV]
          rw [this]
          exact heap_alloc_new w2 _
        clear hP hBs hb1 hb2 ho1
        go_wp2_with fail
        go_loopw [12] (fun i wr => ∃ k : Nat, k ≤ P.length ∧ i = .int .i64 (k : Int) ∧ RowI wr w2.heap.size (plV P.length (fun i => if i < k then -1 else 0)) ∧ Below w2.heap.size w2 wr) (fun i _ => P.length - (intOf i).toNat)
        case atStart => exact ⟨0, by omega, rfl, hrow0, grow1 w2 _⟩
        case round =>
          obtain ⟨k, hk, rfl, hrow, hbl⟩ := hrel
          clear hrow0 hmk
          by_cases hlt1 : k < P.length
          · have hlt' : (k : Int) < (P.length : Int) := by omega
            have cc := hrow.cell (i := k) (by simpa [plV] using hlt1)
            have zz : wr.frozen? ⟨w2.heap.size, k, none⟩ = false := frz hrow k
            have R2 := hrow.set k (-1)
            rw [plV_set] at R2
            have HE : Hid (plV P.length (fun i => if i = k then (-1 : Int) else if i < k then -1 else 0) = plV P.length (fun i => if i < k + 1 then -1 else 0)) := by
              show _ = _
              congr 1
              funext i
              by_cases h1 : i = k
              · subst h1; simp
              · by_cases h2 : i < k
                · simp [h1, h2, show i < k + 1 by omega]
                · simp [h1, h2, show ¬ i < k + 1 by omega]
            have hB3 := below_set (j := k) (x := .int .i64 (-1)) hbl (Nat.le_refl _) hbl.size
            clear hrow hbl
            go_wp2_with fail
            go_roundw
            case rel => exact ⟨k + 1, by omega, by go_num, by rw [← HE.out]; exact R2, hB3⟩
            case measure => simp [intOf]; omega
          · obtain rfl : k = P.length := by omega
            have hrow1 : RowI wr w2.heap.size (plV P.length (plL (M.take 0) 0 (fun _ => -1))) := by
              have : plV P.length (fun i => if i < P.length then (-1 : Int) else 0) = plV P.length (plL (M.take 0) 0 (fun _ => -1)) := by
                apply List.ext_getElem
                · simp [plV]
                · intro i h1 h2
                  simp [plV] at h1
                  simp [plV, plL, h1]
              rw [← this]
              exact hrow
            have hgp := heap_lt hrow
            clear hrow
            go_wp2_with fail
            refine (hMk _ (hr2.below hbl)).mono ?_
            rintro e w4 ⟨u4, rfl, ho4, hb4⟩
            have hrow4 := hrow1.below hb4
            have B4 : Below w2.heap.size w2 w4 := hbl.trans (hb4.mono hbl.size)
            have hnb : ∀ g, u4.ownBlock = some g → g ∉ [w2.heap.size] := fun g e => by have := (ho4.lt g e).1; simp; omega
            obtain ⟨mo, mc, e4⟩ := own_form ho4
            subst e4
            clear hrow1 hMk hb4 hbl
            go_wp2_with fail
            go_loopw [14] (fun i wr => ∃ k : Nat, k ≤ M.length ∧ i = .int .i64 (k : Int) ∧ RowI wr w2.heap.size (plV P.length (plL (M.take k) 0 (fun _ => -1))) ∧ Only [w2.heap.size] w4 wr) (fun i _ => M.length - (intOf i).toNat)
            case atStart => exact ⟨0, by omega, rfl, hrow4, Only.refl _ _⟩
            case round =>
              obtain ⟨k, hk2, rfl, hrow, hon⟩ := hrel
              clear hrow4
              have hown5 := own_only ho4 hon hnb
              by_cases hlt2 : k < M.length
              · have hlt2' : (k : Int) < (M.length : Int) := by omega
                obtain ⟨mo', mc', ep, hmc⟩ := rdm_own hown5
                simp at ep
                obtain ⟨rfl, rfl⟩ := ep
                have hMk2 : M[k]? = some M[k] := List.getElem?_eq_getElem hlt2
                obtain ⟨b, off, rfl, hbb, c0, c1⟩ := hmc k _ hMk2
                have HT : Hid (plL (M.take (k + 1)) 0 (fun _ => -1) = plL [M[k]] k (plL (M.take k) 0 (fun _ => -1))) := by
                  show _ = _
                  rw [List.take_add_one, hMk2]
                  have := plL_snoc (M.take k) M[k] 0 (fun _ => -1)
                  rw [List.length_take, show 0 + min k M.length = k by omega] at this
                  exact this
                clear hmc
                cases hmm : M[k] with
                | inl p =>
                  rw [hmm] at c0 HT hMk2
                  have hp := hlt k p hMk2
                  simp only [mF] at c0
                  have p0 : (0 : Int) ≤ (p : Int) := by omega
                  have p1 : (p : Int) < (P.length : Int) := by omega
                  have cc := hrow.cell (i := p) (by simpa [plV] using hp)
                  have zz : wr.frozen? ⟨w2.heap.size, p, none⟩ = false := frz hrow p
                  have R2 := hrow.set p (k : Int)
                  rw [plV_set] at R2
                  have hO3 : Only [w2.heap.size] w4 (wr.setCell ⟨w2.heap.size, p, none⟩ (.int .i64 (k : Int))) := hon.trans (Only.setCell wr (by simp) _)
                  clear hrow hon hown5 hmm hMk2 hlt c1
                  go_wp2_with fail
                  go_roundw
                  case rel => exact ⟨k + 1, by omega, by go_num, by rw [HT.out]; exact R2, hO3⟩
                  case measure => simp [intOf]; omega
                | inr z =>
                  rw [hmm] at c0 HT
                  simp only [mF] at c0
                  clear hown5 hmm hMk2 hlt c1
                  go_wp2_with fail
                  go_roundw
                  case rel => exact ⟨k + 1, by omega, by go_num, by rw [HT.out]; exact hrow, hon⟩
                  case measure => simp [intOf]; omega
              · obtain rfl : k = M.length := by omega
                rw [List.take_length] at hrow
                have B5 : Below w2.heap.size w2 wr := B4.trans (hon.below (Nat.le_trans B4.size (Nat.le_refl _)) (by simp))
                have ho5 := own_only (own_belowG ho2 B4) hon (fun g e => by have := (ho2.lt g e).2; simp; omega)
                have hqb := fun i (_ : i < P.length) => plL_bd M 0 (fun _ => (-1 : Int)) i (.inr rfl)
                have hrb := fun W B u (h : World.ownsRow W B 47 2 u P.length (bkC P (plL M 0 fun _ => -1) P.length)) => hBu u W (rdb_own h hqb)
                clear hBu hqb hon ho2 ho4 hnb hlt
                generalize plL M 0 (fun _ => (-1 : Int)) = q at *
                obtain ⟨w5, rfl⟩ : ∃ x, x = wr := ⟨_, rfl⟩
                obtain ⟨po', pc', ep, _, hpz⟩ := rdp_own ho5
                simp at ep
                obtain ⟨rfl, rfl⟩ := ep
                go_wp2_with fail
                go_loopw [10, 15] (fun d i w6 => ∃ k : Nat, k ≤ P.length ∧ i = .int .i64 (k : Int) ∧ w6.ownsRow w5.heap.size 47 2 d k (bkC P q k) ∧ Below w5.heap.size w5 w6) (fun _ i _ => P.length - (intOf i).toNat)
                case atStart => exact ⟨0, by omega, rfl, World.ownsRow_nil _ _ _ _, Below.refl _ _⟩
                case round =>
                  obtain ⟨k, hk3, rfl, hown6, hbl6⟩ := hrel
                  by_cases hlt3 : k < P.length
                  · have hlt3' : (k : Int) < (P.length : Int) := by omega
                    obtain ⟨pb, pof, rfl, hpb, hpc⟩ := hpz (by omega)
                    have ck := (hbl6.cell (p := ⟨pb, pof + k, none⟩) hpb).trans (hpc k hlt3)
                    have cq0 := hrow.cell (i := k) (by simpa [plV] using hlt3)
                    have cq := (hbl6.cell (p := ⟨w2.heap.size, k, none⟩) (heap_lt hrow)).trans cq0
                    have eq1 : (plV P.length q).getD k 0 = q k := by simp [plV, hlt3]
                    rw [eq1] at cq
                    have HB : Hid (bkC P q (k + 1) = bkC P q k ++ [.int .i64 (q k), .int .i64 (P.getD k 0)]) := bkC_succ P q k
                    have hsz6 := hbl6.size
                    clear hpz hpc hrow hrb cq0 eq1
                    generalize P.getD k 0 = z at *
                    generalize q k = qk at *
                    generalize bkC P q k = X at *
                    obtain ⟨ao5, cp5, rfl⟩ := own_form hown6
                    go_wp2_with fail
                    go_region_law ((refine step_append_lies _ (by rfl) (.tmp 72) (.tmp 82) 44 (by rfl) w5.heap.size 47 i0 (.agg #[.int .i64 0, .int .i64 0]) 2 16 Try.underlying44 hin hz0 hz1 hz2 rfl (by decide) (.slice ao5 k cp5) k X (by simp [Act.eval]) (hown6.alloc _) ⟨wr.heap.size, 0, none⟩ 1 1 [.int .i64 qk, .int .i64 z] (by simp [Act.eval]) rfl (many_newD _ _ _) (two_one _ _) (by decide) (by unfold maxLen; omega) (by omega) (by simp; omega) (wr.heap.size + 1) (by simp) ?_; intro g4 c4 w7 ho7 hg7 _ _))
                    all_goals
                      go_wp2_with fail
                      go_roundw
                      case rel => exact ⟨k + 1, by omega, by go_num, by rw [HB.out]; exact ho7, bk_below hbl6 hown6 hg7⟩
                      case measure => simp [intOf]; omega
                  · obtain rfl : k = P.length := by omega
                    have B6 := chain (chain B2 B5) hbl6
                    clear hpz hrow
                    go_wp2_with fail
                    refine (hrb _ _ _ hown6).mono ?_
                    rintro e w8 ⟨u8, rfl, ho8, hb8⟩
                    go_wp2_with fail
                    go_ret2
                    exact ⟨_, rfl, by rw [HLEN.out]; exact own_lower ho8 B6.size, chain B6 hb8⟩
      · have e0 : inR s D = ([], 91) := by
          have : (apR s D).2 = 91 := by rw [apR, if_neg cv, if_neg (fun h => h ck), if_pos cb]
          rw [inR, this, if_neg (by decide)]
        rw [e0]
        rw [ck] at hBs
        have cb' : ((bsum (stR D) : Int) != ((pts s).length : Int)) = true := by simp; omega
        clear e0 cv s0 hpl hpe hpd ck cb hi hm iD
        generalize bsum (stR D) = n at *
        generalize pts s = P at *
        go_enter Try.func17, Try.ntmps17
        go_wp2_with fail
        refine hP.mono ?_
        rintro e w1 ⟨u1, rfl, ho1, hb1⟩
        obtain ⟨po, pc, rfl⟩ := own_form ho1
        go_wp2_with fail
        refine (hBs _ (hr.below hb1)).mono ?_
        rintro e w2 ⟨rfl, hb2⟩
        go_wp2_with fail
        go_ret2
        exact ⟨_, rfl, World.ownsRow_nil _ _ _ _, chain hb1 hb2⟩
    · have e0 : inR s D = ([], chk D) := by
        have : (apR s D).2 = chk D := by rw [apR, if_neg cv, if_pos ck]
        rw [inR, this, if_neg ck]
      rw [e0]
      have ck' : (chk D != 0) = true := by simpa using ck
      clear e0 cv s0 hpl hpe hpd ck hi hm iD
      generalize chk D = er at *
      generalize (bsum (stR D) : Int) = n at *
      generalize pts s = P at *
      go_enter Try.func17, Try.ntmps17
      go_wp2_with fail
      refine hP.mono ?_
      rintro e w1 ⟨u1, rfl, ho1, hb1⟩
      obtain ⟨po, pc, rfl⟩ := own_form ho1
      go_wp2_with fail
      refine (hBs _ (hr.below hb1)).mono ?_
      rintro e w2 ⟨rfl, hb2⟩
      go_wp2_with fail
      go_ret2
      exact ⟨_, rfl, World.ownsRow_nil _ _ _ _, chain hb1 hb2⟩
end Go.Proofs.Ytphbjbigjpfjfaa
