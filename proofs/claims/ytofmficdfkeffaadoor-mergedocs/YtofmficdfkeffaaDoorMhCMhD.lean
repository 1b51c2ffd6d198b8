/-
  The contract of the reference's gaps.
-/
import Derived.Test.YtofmficdfkeffaaDoorMgUMgWMgXMgYMgZ
import Derived.Deep.Slices
namespace Go.Proofs.YtofmficdfkeffaaDoor
open Go.ChangeShapes Go.WideShapes Go.ChangeAt Go.RowKit Go.PlainAid

/-- A finished piece: it lies below B, and not in the row of pieces. -/
def Fin' (W : World) (B ob : Nat) (v : Value) (l : List Atm) : Prop := RdA W v l ∧ ∀ b off n cp, v = .slice (some ⟨b, off, none⟩) n cp → b ≠ ob ∧ b < B
theorem Fin'.keep {W W' : World} {B B' ob : Nat} {v : Value} {l : List Atm} (h : Fin' W B ob v l) (hB : B ≤ B') (hs : W.heap.size ≤ W'.heap.size) (hk : ∀ b, b < B → b ≠ ob → W'.heap[b]? = W.heap[b]?) : Fin' W' B' ob v l := by
  obtain ⟨⟨ao, cp, e, hc, h1⟩, h2⟩ := h
  refine ⟨⟨ao, cp, e, hc, fun i x hx => ?_⟩, fun b off n cp' e' => ⟨(h2 b off n cp' e').1, Nat.lt_of_lt_of_le (h2 b off n cp' e').2 hB⟩⟩
  obtain ⟨b, off, rfl, hb, c0, c1, c2, c3⟩ := h1 i x hx
  obtain ⟨n1, n2⟩ := h2 b off _ _ e
  have g : ∀ j, W'.cell? ⟨b, j, none⟩ = W.cell? ⟨b, j, none⟩ := fun j => World.cell?_of_block (w := W) (a := ⟨b, j, none⟩) (hk b n2 n1)
  exact ⟨b, off, rfl, by omega, by rw [g]; exact c0, by rw [g]; exact c1, by rw [g]; exact c2, by rw [g]; exact c3⟩
theorem fin_own {W : World} {B ob : Nat} {v : Value} {l : List Atm} (h : W.ownsRow B 42 4 v l.length (acs l)) (hob : ob < B) : Fin' W W.heap.size ob v l :=
  ⟨rda_own h, fun b off n cp e => by
    have := h.lt b (by rw [e]; rfl)
    omega⟩
/-- The row of pieces on its way: D is finished, c is being written. -/
structure Gm (n : Nat) (w W : World) (ob B : Nat) (D : List (List Atm)) (c : List Atm) (vs : List Value) : Prop where
  top : W.heap[ob]? = some (.cells vs.toArray 36)
  len : vs.length = n + 1
  ob0 : w.heap.size ≤ ob
  obB : ob < B
  bw : B ≤ W.heap.size
  fin : ∀ (j : Nat) (l : List Atm), D[j]? = some l → ∃ v, vs[j]? = some v ∧ Fin' W B ob v l
  cur : ∃ v, vs[D.length]? = some v ∧ W.ownsRow B 42 4 v c.length (acs c)
  nil : ∀ (j : Nat), D.length < j → j ≤ n → vs[j]? = some (.slice none 0 0)
  bel : Below w.heap.size w W
section
variable {n : Nat} {w W W' : World} {ob B : Nat} {D : List (List Atm)} {c : List Atm} {vs : List Value}
theorem Gm.below (h : Gm n w W ob B D c vs) (hb : Below W.heap.size W W') : Gm n w W' ob B D c vs := by
  obtain ⟨v, hv, ho⟩ := h.cur
  exact ⟨(hb.block _ (heap_lt h.top)).trans h.top, h.len, h.ob0, h.obB, Nat.le_trans h.bw hb.size, fun j l hl => by
    obtain ⟨v, e, hf⟩ := h.fin j l hl
    exact ⟨v, e, hf.keep (Nat.le_refl _) hb.size (fun b hb' _ => hb.block b (Nat.lt_of_lt_of_le hb' h.bw))⟩, ⟨v, hv, own_belowG ho hb⟩, h.nil, chain h.bel hb⟩
theorem Gm.next (h : Gm n w W ob B D c vs) (hn : D.length < n) : Gm n w W ob W.heap.size (D ++ [c]) [] vs := by
  obtain ⟨v, hv, ho⟩ := h.cur
  refine ⟨h.top, h.len, h.ob0, heap_lt h.top, Nat.le_refl _, fun j l hl => ?_, ⟨.slice none 0 0, ?_, World.ownsRow_nil _ _ _ _⟩, fun j hj hj2 => h.nil j (by simp at hj; omega) hj2, h.bel⟩
  · by_cases hj : j < D.length
    · rw [List.getElem?_append_left hj] at hl
      obtain ⟨v, e, hf⟩ := h.fin j l hl
      exact ⟨v, e, hf.keep h.bw (Nat.le_refl _) (fun _ _ _ => rfl)⟩
    · have hj2 : j = D.length := by
        have := (List.getElem?_eq_some_iff.1 hl).1
        simp at this
        omega
      subst hj2
      simp at hl
      subst hl
      exact ⟨v, hv, fin_own ho h.obB⟩
  · rw [List.length_append]
    exact h.nil _ (by simp) (by simp; omega)
theorem Gm.put {x : Atm} {v u : Value} (h : Gm n w W ob B D c vs) (_ : vs[D.length]? = some v) (hg : W.grownBy W' v.ownBlock) (hr : ∀ k, v.ownBlock = some k → B ≤ k) (ho : W'.ownsRow B 42 4 u (c ++ [x]).length (acs (c ++ [x]))) (hD : D.length ≤ n) : Gm n w (W'.setCell ⟨ob, D.length, none⟩ u) ob B D (c ++ [x]) (vs.set D.length u) := by
  have hle := h.len
  have hbl : Below B W W' := (Below.refl B W).grown hg h.bw hr
  have ht : W'.heap[ob]? = some (.cells vs.toArray 36) := (hbl.block ob h.obB).trans h.top
  have hgs := grown_set W' ob D.length u
  have hs2 : (W'.setCell ⟨ob, D.length, none⟩ u).heap.size = W'.heap.size := by simp [World.setCell]
  refine ⟨?_, by rw [List.length_set]; exact h.len, h.ob0, h.obB, by rw [hs2]; exact Nat.le_trans h.bw hg.size, fun j l hl => ?_, ⟨u, ?_, ?_⟩, fun j hj hj2 => ?_, ?_⟩
  · rw [heap_setCell ht D.length u]
    simp
  · have hj : j < D.length := (List.getElem?_eq_some_iff.1 hl).1
    obtain ⟨v, e, hf⟩ := h.fin j l hl
    refine ⟨v, by rw [List.getElem?_set_ne (by omega)]; exact e, hf.keep (Nat.le_refl _) (by rw [hs2]; exact hg.size) (fun b hb hne => ?_)⟩
    rw [Below.heap_setCell W' ⟨ob, D.length, none⟩ u b hne]
    exact hbl.block b hb
  · rw [List.getElem?_set_self (by omega)]
  · exact ho.kept hgs (by
      cases e : u.ownBlock with
      | none => exact .inl rfl
      | some k =>
        refine .inr (fun h2 => ?_)
        have h1 := (ho.lt k e).1
        injection h2 with h2
        have := h.obB
        omega)
  · rw [List.getElem?_set_ne (by omega)]
    exact h.nil j hj hj2
  · exact below_set (h.bel.trans (hbl.mono (Nat.le_trans h.ob0 (Nat.le_of_lt h.obB)))) h.ob0 (Nat.le_trans h.bel.size hbl.size)
end
/-- A row of pieces. -/
def RdT (W : World) (v : Value) (G : List (List Atm)) : Prop :=
  ∃ ob, v = .slice (some ⟨ob, 0, none⟩) G.length G.length ∧ ob < W.heap.size ∧ ∀ (i : Nat) (g : List Atm), G[i]? = some g → ∃ u, W.cell? ⟨ob, i, none⟩ = some u ∧ RdA W u g
theorem RdT.below {w w' : World} {v : Value} {G : List (List Atm)} (h : RdT w v G) (hb : Below w.heap.size w w') : RdT w' v G := by
  obtain ⟨ob, e, h0, h⟩ := h
  refine ⟨ob, e, Nat.lt_of_lt_of_le h0 hb.size, fun i g hg => ?_⟩
  obtain ⟨u, c0, hu⟩ := h i g hg
  exact ⟨u, (hb.cell (p := ⟨ob, i, none⟩) h0).trans c0, hu.below hb⟩
theorem Gm.done {n : Nat} {w W : World} {ob B : Nat} {D : List (List Atm)} {c : List Atm} {vs : List Value} (h : Gm n w W ob B D c vs) (hn : D.length = n) : RdT W (.slice (some ⟨ob, 0, none⟩) (n + 1) (n + 1)) (D ++ [c]) := by
  refine ⟨ob, by simp [hn], heap_lt h.top, fun i g hg => ?_⟩
  have hc : ∀ u, vs[i]? = some u → W.cell? ⟨ob, i, none⟩ = some u := fun u hu => by
    rw [cell_of_row _ _ i _ _ (0, 0) h.top]
    simpa using hu
  by_cases hi : i < D.length
  · rw [List.getElem?_append_left hi] at hg
    obtain ⟨v, e, hf⟩ := h.fin i g hg
    exact ⟨v, hc v e, hf.1⟩
  · have hj2 : i = D.length := by
      have := (List.getElem?_eq_some_iff.1 hg).1
      simp at this
      omega
    subst hj2
    simp at hg
    subst hg
    obtain ⟨v, e, ho⟩ := h.cur
    exact ⟨v, hc v e, rda_own ho⟩
theorem gpR_len {S A : List Atm} : ∀ (l : List Atm) (D : List (List Atm)) (c : List Atm), D.length + 1 ≤ (gpR S A D c l).length
  | [], D, c => by simp [gpR]
  | x :: l, D, c => by
    rw [gpR]
    split
    · split
      · have := gpR_len (S := S) (A := A) l (D ++ [c]) []; simp at this; omega
      · have := gpR_len (S := S) (A := A) l (D ++ [c]) [x]; simp at this; omega
    · split
      · exact gpR_len l D c
      · exact gpR_len l D (c ++ [x])
theorem gpR_drop {S A : List Atm} {D : List (List Atm)} {c l : List Atm} {i : Nat} (hi : i < l.length) : gpR S A D c (l.drop i) = if hasK S l[i] = true then (if hasK A l[i] = true then gpR S A (D ++ [c]) [] (l.drop (i + 1)) else gpR S A (D ++ [c]) [l[i]] (l.drop (i + 1))) else (if hasK A l[i] = true then gpR S A D c (l.drop (i + 1)) else gpR S A D (c ++ [l[i]]) (l.drop (i + 1))) := by
  rw [List.drop_eq_getElem_cons hi, gpR]
theorem Tryd.infoAs : (Tryd.prog.info? 36).map (fun i => (i.zero, i.size, i.bytes)) = some (some (.slice none 0 0), 1, 24) := by kernel_rfl
set_option maxRecDepth 20000 in
theorem make_as (n : Nat) (hn : n ≤ 1001) (W : World) : (Instr.makeSlice 59 (.int .i64 (n : Int)) (.int .i64 (n : Int))).run Tryd.prog W = .ok (.slice (some ⟨W.heap.size, 0, none⟩) n n) (W.alloc (.cells (List.replicate n (Value.slice none 0 0)).toArray 36)) := by
  obtain ⟨i0, hi, hz0, hz1, hz2⟩ := info_parts Tryd.infoAs
  have h := run_make (P := Tryd.prog) W 59 36 i0 (.slice none 0 0) Tryd.underlying59 hi hz0 .i64 .i64 (n : Int) (n : Int) (by omega) (by omega) (by rw [hz2]; omega) (by omega)
  rw [h, hz1]
  simp only [Int.toNat_natCast, Nat.mul_one]
  congr 3
  apply Array.ext'
  rw [show (Value.slice none 0 0).cells = #[.slice none 0 0] from rfl, toList_madeCells_one]
theorem gm_start (n : Nat) (w : World) : Gm n w (w.alloc (.cells (List.replicate (n + 1) (Value.slice none 0 0)).toArray 36)) w.heap.size (w.heap.size + 1) [] [] (List.replicate (n + 1) (.slice none 0 0)) :=
  ⟨heap_alloc_new w _, by simp, Nat.le_refl _, by omega, by simp, fun j l hl => by simp at hl, ⟨_, by simp, World.ownsRow_nil _ _ _ _⟩, fun j h1 h2 => by rw [List.getElem?_replicate, if_pos (by omega)], (Below.refl _ w).alloc (Nat.le_refl _) _⟩

set_option maxRecDepth 20000 in
set_option maxHeartbeats 1000000 in
theorem rgaps_any (va vx vs : Value) (A X S : List Atm) (w : World) (ra : RdA w va A) (rx : RdA w vx X) (rs : RdA w vs S) (lA : A.length ≤ 1000) (lX : X.length ≤ 1000) (lS : S.length ≤ 1000) (hR : (gpR S A [] [] X).length = S.length + 1) :
    Calls Tryd.prog 30 #[va, vx, vs] w fun e w' => ∃ u, e = .returned u ∧ RdT w' u (gpR S A [] [] X) ∧ Below w.heap.size w w' := by
  obtain ⟨ao, ac, ea, -⟩ := id ra
  obtain ⟨xo, xc, ex, -⟩ := id rx
  obtain ⟨so, sc, es, -⟩ := id rs
  subst ea ex es
  obtain ⟨i0, hin, hz0, hz1, hz2⟩ := info_parts Tryd.infoAtm
  have hmk := make_as (S.length + 1) (by omega) w
  rw [show ((S.length + 1 : Nat) : Int) = (S.length : Int) + 1 by omega] at hmk
  have lS' : (S.length : Int) ≤ 1000 := by omega
  have hG0 := gm_start S.length w
  go_enter Tryd.func30, Tryd.ntmps30
  go_wp2_with fail
  clear hmk
  go_loopw [8, 9] (fun g i wr => ∃ (k : Nat) (D : List (List Atm)) (c : List Atm) (vs : List Value) (B : Nat), k ≤ X.length ∧ D.length ≤ S.length ∧ c.length ≤ k ∧ g = .int .i64 (D.length : Int) ∧ i = .int .i64 (k : Int) ∧ Hid (gpR S A [] [] X = gpR S A D c (X.drop k)) ∧ Gm S.length w wr w.heap.size B D c vs) (fun _ i _ => X.length - (Go.RowKit.intOf i).toNat)
  case atStart => exact ⟨0, [], [], _, _, Nat.zero_le _, Nat.zero_le _, Nat.zero_le _, rfl, rfl, rfl, hG0⟩
  case round =>
    obtain ⟨k, D, c, vs, B, hk, hD, hc, rfl, rfl, HF, hG⟩ := hrel
    clear hG0
    by_cases hlt : k < X.length
    · have hlt' : (k : Int) < (X.length : Int) := by omega
      have hx : X[k]? = some X[k] := by simp [hlt]
      have cS := rfind_any _ S X[k] wr (rs.below hG.bel) (by omega)
      have cA := fun W (h : Below w.heap.size w W) => rfind_any _ A X[k] W (ra.below h) (by omega)
      have HG := (show Hid _ from HF.out.trans (gpR_drop hlt))
      obtain ⟨ba, oa, rfl, hba, m0, m1, m2, m3⟩ := rda_at rx hx
      have mc := fun W (h : Below w.heap.size w W) (j : Nat) => h.cell (p := ⟨ba, j, none⟩) hba
      have b0 := (mc _ hG.bel (oa + k * 4)).trans m0
      have b1 := (mc _ hG.bel (oa + k * 4 + 1)).trans m1
      have b2 := (mc _ hG.bel (oa + k * 4 + 2)).trans m2
      have b3 := (mc _ hG.bel (oa + k * 4 + 3)).trans m3
      clear ra rx rs hx HF
      generalize X[k] = x at *
      cases hs : hasK S x with
      | true =>
        have f1 := fdA_has.2 hs
        have hDn : D.length < S.length := by
          have h1 := HG.out
          rw [if_pos hs] at h1
          have h2 := congrArg List.length h1
          split at h2
          · have := gpR_len (S := S) (A := A) (X.drop (k + 1)) (D ++ [c]) []
            simp only [List.length_append, List.length_cons, List.length_nil] at this
            omega
          · have := gpR_len (S := S) (A := A) (X.drop (k + 1)) (D ++ [c]) [x]
            simp only [List.length_append, List.length_cons, List.length_nil] at this
            omega
        cases ha : hasK A x with
        | true =>
          have f2 := fdA_has.2 ha
          have HN : Hid (gpR S A [] [] X = gpR S A (D ++ [c]) [] (X.drop (k + 1))) := by show _ = _; rw [HG.out, if_pos hs, if_pos ha]
          clear HG hs ha
          generalize fdA x S 0 = zs at *
          generalize fdA x A 0 = za at *
          go_wp2_with fail
          refine cS.mono ?_
          rintro e W3 ⟨rfl, q3⟩
          replace hG := hG.below q3
          clear cS q3 b0 b1 b2 b3
          have b0 := (mc _ hG.bel (oa + k * 4)).trans m0
          have b1 := (mc _ hG.bel (oa + k * 4 + 1)).trans m1
          have b2 := (mc _ hG.bel (oa + k * 4 + 2)).trans m2
          have b3 := (mc _ hG.bel (oa + k * 4 + 3)).trans m3
          go_wp2_with fail
          refine (cA _ hG.bel).mono ?_
          rintro e W4 ⟨rfl, q4⟩
          replace hG := (hG.below q4).next hDn
          clear cA q4 b0 b1 b2 b3 m0 m1 m2 m3 mc
          go_wp2_with fail
          exact ⟨⟨k + 1, D ++ [c], [], _, _, by omega, by simp; omega, Nat.zero_le _, by simp, by go_num, HN, hG⟩, by simp [Go.RowKit.intOf]; omega⟩
        | false =>
          have f2 := fdA_not.2 ha
          have HN0 : Hid (gpR S A [] [] X = gpR S A (D ++ [c]) [x] (X.drop (k + 1))) := by show _ = _; rw [HG.out, if_pos hs, if_neg (by simp [ha])]
          clear HG hs ha
          generalize fdA x S 0 = zs at *
          generalize fdA x A 0 = za at *
          go_wp2_with fail
          refine cS.mono ?_
          rintro e W3 ⟨rfl, q3⟩
          replace hG := hG.below q3
          clear cS q3 b0 b1 b2 b3
          have b0 := (mc _ hG.bel (oa + k * 4)).trans m0
          have b1 := (mc _ hG.bel (oa + k * 4 + 1)).trans m1
          have b2 := (mc _ hG.bel (oa + k * 4 + 2)).trans m2
          have b3 := (mc _ hG.bel (oa + k * 4 + 3)).trans m3
          go_wp2_with fail
          refine (cA _ hG.bel).mono ?_
          rintro e W4 ⟨rfl, q4⟩
          replace hG := (hG.below q4).next hDn
          clear cA q4 b0 b1 b2 b3
          have ed : (D.length : Int) + 1 = ((D ++ [c]).length : Int) := by simp
          rw [ed]
          clear ed
          have hD2 : (D ++ [c]).length ≤ S.length := by simp; omega
          clear hDn hD hc
          have hD := hD2
          clear hD2
          generalize D ++ [c] = D at *
          generalize W4.heap.size = B at hG
          obtain ⟨c, hc0⟩ : ∃ c0 : List Atm, c0 = [] := ⟨_, rfl⟩
          rw [← hc0] at hG
          have HN : Hid (gpR S A [] [] X = gpR S A D (c ++ [x]) (X.drop (k + 1))) := by show _ = _; rw [HN0.out, hc0]; rfl
          have hc : c.length ≤ k := by rw [hc0]; exact Nat.zero_le _
          clear HN0 hc0

          obtain ⟨v0, hv0, ho0⟩ := hG.cur
          obtain ⟨a3, k3, rfl⟩ := own_form ho0
          have d0 := (mc _ hG.bel (oa + k * 4)).trans m0
          have d1 := (mc _ hG.bel (oa + k * 4 + 1)).trans m1
          have d2 := (mc _ hG.bel (oa + k * 4 + 2)).trans m2
          have d3 := (mc _ hG.bel (oa + k * 4 + 3)).trans m3
          have tc := (cell_of_row _ _ D.length _ _ (0, 0) hG.top).trans (by simpa using hv0 : vs.toArray[D.length]? = _)
          have tcA := (((Below.refl _ W4).alloc (Nat.le_refl _) (.cells #[.int .i64 x.c, .int .i64 x.q, .int .i64 x.n, .int .i64 x.z] 42)).cell (p := ⟨w.heap.size, D.length, none⟩) (Nat.lt_of_lt_of_le hG.obB hG.bw)).trans tc
          have gD : (D.length : Int) < (S.length : Int) + 1 := by omega
          have hob := hG.obB
          have hbw := hG.bw
          have htop := hG.top
          clear m0 m1 m2 m3 mc
          go_upto_region 9 with fail
          go_region_law (refine step_append_lies _ (by rfl) (.tmp 41) (.tmp 46) 36 (by rfl) B 42 i0 (.agg #[.int .i64 0, .int .i64 0, .int .i64 0, .int .i64 0]) 4 32 Tryd.underlying36 hin hz0 hz1 hz2 rfl (by decide) (.slice a3 c.length k3) c.length (acs c) (by simp [Act.eval]) (World.ownsRow.alloc (w := W4.drew) ho0 _) ⟨W4.heap.size, 0, none⟩ 1 1 [.int .i64 x.c, .int .i64 x.q, .int .i64 x.n, .int .i64 x.z] (by simp [Act.eval]) rfl (World.news_of_block (heap_alloc_new W4.drew _)) (by simp [Value.oneCell']) (by decide) (by unfold maxLen; omega) (by omega) (by simp; omega) (W4.heap.size + 1) (by simp) ?_; intro g cap w7 hown hgr hg hlt7; have t7 : w7.heap[w.heap.size]? = some (.cells vs.toArray 36) := (hgr.block _ (by simp; omega) (fun e => by have := (ho0.lt _ e.symm).1; omega)).trans ((Below.heap_alloc W4.drew _ _ (by simp; omega)).trans htop); have z7 := frz t7 D.length; have c7 := (cell_of_row _ _ D.length _ _ (0, 0) t7).trans (by simpa using hv0 : vs.toArray[D.length]? = _))
          all_goals
            go_wp2_with fail
            have hP := (hG.below (((Below.refl _ W4).drew).alloc (Nat.le_refl _) (.cells #[.int .i64 x.c, .int .i64 x.q, .int .i64 x.n, .int .i64 x.z] 42))).put (x := x) hv0 hgr (fun k hk => (ho0.lt k hk).1) (by rw [acs_append, acs_one, List.length_append]; exact hown) (by omega)
            exact ⟨⟨k + 1, D, c ++ [x], _, B, by omega, by omega, by simp; omega, rfl, by go_num, HN, hP⟩, by simp [Go.RowKit.intOf]; omega⟩
      | false =>
        have f1 := fdA_not.2 hs
        cases ha : hasK A x with
        | true =>
          have f2 := fdA_has.2 ha
          have HN : Hid (gpR S A [] [] X = gpR S A D c (X.drop (k + 1))) := by show _ = _; rw [HG.out, if_neg (by simp [hs]), if_pos ha]
          clear HG hs ha
          generalize fdA x S 0 = zs at *
          generalize fdA x A 0 = za at *
          go_wp2_with fail
          refine cS.mono ?_
          rintro e W3 ⟨rfl, q3⟩
          replace hG := hG.below q3
          clear cS q3 b0 b1 b2 b3
          have b0 := (mc _ hG.bel (oa + k * 4)).trans m0
          have b1 := (mc _ hG.bel (oa + k * 4 + 1)).trans m1
          have b2 := (mc _ hG.bel (oa + k * 4 + 2)).trans m2
          have b3 := (mc _ hG.bel (oa + k * 4 + 3)).trans m3
          go_wp2_with fail
          refine (cA _ hG.bel).mono ?_
          rintro e W4 ⟨rfl, q4⟩
          replace hG := hG.below q4
          clear cA q4 b0 b1 b2 b3 m0 m1 m2 m3 mc
          go_wp2_with fail
          exact ⟨⟨k + 1, D, c, _, _, by omega, hD, by omega, rfl, by go_num, HN, hG⟩, by simp [Go.RowKit.intOf]; omega⟩
        | false =>
          have f2 := fdA_not.2 ha
          have HN : Hid (gpR S A [] [] X = gpR S A D (c ++ [x]) (X.drop (k + 1))) := by show _ = _; rw [HG.out, if_neg (by simp [hs]), if_neg (by simp [ha])]
          clear HG hs ha
          generalize fdA x S 0 = zs at *
          generalize fdA x A 0 = za at *
          go_wp2_with fail
          refine cS.mono ?_
          rintro e W3 ⟨rfl, q3⟩
          replace hG := hG.below q3
          clear cS q3 b0 b1 b2 b3
          have b0 := (mc _ hG.bel (oa + k * 4)).trans m0
          have b1 := (mc _ hG.bel (oa + k * 4 + 1)).trans m1
          have b2 := (mc _ hG.bel (oa + k * 4 + 2)).trans m2
          have b3 := (mc _ hG.bel (oa + k * 4 + 3)).trans m3
          go_wp2_with fail
          refine (cA _ hG.bel).mono ?_
          rintro e W4 ⟨rfl, q4⟩
          replace hG := hG.below q4
          clear cA q4 b0 b1 b2 b3

          obtain ⟨v0, hv0, ho0⟩ := hG.cur
          obtain ⟨a3, k3, rfl⟩ := own_form ho0
          have d0 := (mc _ hG.bel (oa + k * 4)).trans m0
          have d1 := (mc _ hG.bel (oa + k * 4 + 1)).trans m1
          have d2 := (mc _ hG.bel (oa + k * 4 + 2)).trans m2
          have d3 := (mc _ hG.bel (oa + k * 4 + 3)).trans m3
          have tc := (cell_of_row _ _ D.length _ _ (0, 0) hG.top).trans (by simpa using hv0 : vs.toArray[D.length]? = _)
          have tcA := (((Below.refl _ W4).alloc (Nat.le_refl _) (.cells #[.int .i64 x.c, .int .i64 x.q, .int .i64 x.n, .int .i64 x.z] 42)).cell (p := ⟨w.heap.size, D.length, none⟩) (Nat.lt_of_lt_of_le hG.obB hG.bw)).trans tc
          have gD : (D.length : Int) < (S.length : Int) + 1 := by omega
          have hob := hG.obB
          have hbw := hG.bw
          have htop := hG.top
          clear m0 m1 m2 m3 mc
          go_upto_region 9 with fail
          go_region_law (refine step_append_lies _ (by rfl) (.tmp 41) (.tmp 46) 36 (by rfl) B 42 i0 (.agg #[.int .i64 0, .int .i64 0, .int .i64 0, .int .i64 0]) 4 32 Tryd.underlying36 hin hz0 hz1 hz2 rfl (by decide) (.slice a3 c.length k3) c.length (acs c) (by simp [Act.eval]) (World.ownsRow.alloc (w := W4.drew) ho0 _) ⟨W4.heap.size, 0, none⟩ 1 1 [.int .i64 x.c, .int .i64 x.q, .int .i64 x.n, .int .i64 x.z] (by simp [Act.eval]) rfl (World.news_of_block (heap_alloc_new W4.drew _)) (by simp [Value.oneCell']) (by decide) (by unfold maxLen; omega) (by omega) (by simp; omega) (W4.heap.size + 1) (by simp) ?_; intro g cap w7 hown hgr hg hlt7; have t7 : w7.heap[w.heap.size]? = some (.cells vs.toArray 36) := (hgr.block _ (by simp; omega) (fun e => by have := (ho0.lt _ e.symm).1; omega)).trans ((Below.heap_alloc W4.drew _ _ (by simp; omega)).trans htop); have z7 := frz t7 D.length; have c7 := (cell_of_row _ _ D.length _ _ (0, 0) t7).trans (by simpa using hv0 : vs.toArray[D.length]? = _))
          all_goals
            go_wp2_with fail
            have hP := (hG.below (((Below.refl _ W4).drew).alloc (Nat.le_refl _) (.cells #[.int .i64 x.c, .int .i64 x.q, .int .i64 x.n, .int .i64 x.z] 42))).put (x := x) hv0 hgr (fun k hk => (ho0.lt k hk).1) (by rw [acs_append, acs_one, List.length_append]; exact hown) (by omega)
            exact ⟨⟨k + 1, D, c ++ [x], _, B, by omega, by omega, by simp; omega, rfl, by go_num, HN, hP⟩, by simp [Go.RowKit.intOf]; omega⟩
    · obtain rfl : k = X.length := by omega
      have HN : Hid (gpR S A [] [] X = D ++ [c]) := by show _ = _; rw [HF.out, List.drop_length, gpR]
      have hDn : D.length = S.length := by
        have := congrArg List.length HN.out
        simp at this
        omega
      have hT := hG.done hDn
      have hB := hG.bel
      clear hG HF ra rx rs
      go_wp2_with fail
      go_ret
      rw [HN.out]
      exact ⟨_, rfl, hT, hB⟩
end Go.Proofs.YtofmficdfkeffaaDoor

/-
  The contract of the reference's Docs.
-/
namespace Go.Proofs.YtofmficdfkeffaaDoor
open Go.ChangeShapes Go.WideShapes Go.ChangeAt Go.RowKit Go.PlainAid

theorem rda_one (W : World) (x : Atm) : RdA (W.alloc (.cells #[.int .i64 x.c, .int .i64 x.q, .int .i64 x.n, .int .i64 x.z] 42)) (.slice (some ⟨W.heap.size, 0, none⟩) 1 1) [x] :=
  rda_own (B := 0) (l := [x]) (World.ownsRow_lit W _ 1 (Nat.zero_le _) (by decide) rfl)
theorem tx_sz {l : List Atm} {n : Nat} (h : l.length ≤ n) : (txU l).length ≤ 4 * n := by
  have := enc_len (l.map Atm.z)
  unfold txU
  rw [List.length_map] at this
  omega
theorem rdt_at {W : World} {v : Value} {G : List (List Atm)} (h : RdT W v G) : ∃ ob, v = .slice (some ⟨ob, 0, none⟩) G.length G.length ∧ ob < W.heap.size ∧ ∀ i (hi : i < G.length), ∃ u, W.cell? ⟨ob, i, none⟩ = some u ∧ RdA W u G[i] := by
  obtain ⟨ob, e, h0, h⟩ := h
  exact ⟨ob, e, h0, fun i hi => h i G[i] (by simp [hi])⟩
theorem flt_take {A : List Atm} {P : Atm → Bool} {k : Nat} (hk : k < A.length) : (A.take (k + 1)).filter P = (A.take k).filter P ++ (if P A[k] = true then [A[k]] else []) := by
  rw [List.take_succ_eq_append_getElem hk, List.filter_append]
  by_cases h : P A[k] = true
  · rw [if_pos h]; simp [h]
  · rw [if_neg h]; simp [h]
theorem piece_mem {G : List (List Atm)} {i : Nat} (hi : i < G.length) {u : Atm} (hu : u ∈ G[i]) : u ∈ G.flatten := List.mem_flatten.2 ⟨_, List.getElem_mem hi, hu⟩
theorem gx_mem {A X Y : List Atm} {u : Atm} (hu : u ∈ (gpG (svP A X Y) [] [] (X.filter (stP A X Y))).flatten) : u ∈ X := by
  rw [gpG_all] at hu
  simp only [List.flatten_nil, List.nil_append, List.mem_filter] at hu
  exact hu.1.1
theorem piece_len {p : Atm → Bool} {l : List Atm} {i : Nat} (hi : i < (gpG p [] [] l).length) : (gpG p [] [] l)[i].length ≤ l.length := by
  have h1 : (gpG p [] [] l)[i].length ≤ (gpG p [] [] l).flatten.length := by
    have := List.sublist_flatten_of_mem (List.getElem_mem hi)
    exact this.length_le
  rw [gpG_all] at h1
  have h2 := List.length_filter_le (fun x => !p x) l
  simp at h1
  omega

set_option maxRecDepth 20000 in
set_option maxHeartbeats 1000000 in
theorem refDocs_any (va vx vy : Value) (a x y : List RunD) (nx ny : Int) (w : World) (ra : RdN w va a) (rx : RdN w vx x) (ry : RdN w vy y) (hm : a.length ≤ 1125899906842624 ∧ x.length ≤ 1125899906842624 ∧ y.length ≤ 1125899906842624) (hia : ∀ r ∈ a, r.Bd ∧ r.t.size ≤ 1048576) (hix : ∀ r ∈ x, r.Bd ∧ r.t.size ≤ 1048576) (hiy : ∀ r ∈ y, r.Bd ∧ r.t.size ≤ 1048576) :
    Calls Tryd.prog 11 #[va, vx, vy, .int .i64 nx, .int .i64 ny] w fun e w' => ∃ u, e = .returned (.tuple #[u, .int .i64 (mdE a x y nx ny)]) ∧ w'.ownsRow w.heap.size 65 4 u (mdL a x y nx ny).length (rcs (mdL a x y nx ny)) ∧ Below w.heap.size w w' := by
  have cK1 := rcheck_any va a w ra hm.1 (fun r h => (hia r h).1) (fun r h => (hia r h).2)
  have cK2 := fun W (h : Below w.heap.size w W) => rcheck_any vx x W (rx.below h) hm.2.1 (fun r h => (hix r h).1) (fun r h => (hix r h).2)
  have cK3 := fun W (h : Below w.heap.size w W) => rcheck_any vy y W (ry.below h) hm.2.2 (fun r h => (hiy r h).1) (fun r h => (hiy r h).2)
  have none_ : ∀ (z : Int) (w' : World), mdE a x y nx ny = z → z ≠ 0 → Below w.heap.size w w' → ∃ u, (Ending.returned (.tuple #[.slice none 0 0, .int .i64 z])) = .returned (.tuple #[u, .int .i64 (mdE a x y nx ny)]) ∧ w'.ownsRow w.heap.size 65 4 u (mdL a x y nx ny).length (rcs (mdL a x y nx ny)) ∧ Below w.heap.size w w' := fun z w' h h0 hb => by
    rw [mdL_no (by rw [h]; exact h0), h]
    exact ⟨_, rfl, World.ownsRow_nil _ _ _ _, hb⟩
  have hbad : (¬ Good a ∨ ¬ Good x ∨ ¬ Good y) → mdE a x y nx ny = 120 := fun h => by
    unfold mdE
    rw [if_neg]
    intro h2
    have g := ckL_good h2
    rcases h with h | h | h
    · exact h (g a (by simp))
    · exact h (g x (by simp))
    · exact h (g y (by simp))
  obtain ⟨fo, fc, ef, -⟩ := id ra
  obtain ⟨xo, xc, ex, -⟩ := id rx
  obtain ⟨yo, yc, ey, -⟩ := id ry
  subst ef ex ey
  clear hia hix hiy
  go_enter Tryd.func11, Tryd.ntmps11
  by_cases g1 : ckR a = 0
  · rw [g1] at cK1
    by_cases g2 : ckR x = 0
    · rw [g2] at cK2
      by_cases g3 : ckR y = 0
      · rw [g3] at cK3
        have G1 := ckR_zero.1 g1
        have G2 := ckR_zero.1 g2
        have G3 := ckR_zero.1 g3
        obtain ⟨nA, mA, lA, zA⟩ := good_kl G1
        obtain ⟨nX, mX, lX, zX⟩ := good_kl G2
        obtain ⟨nY, mY, lY, zY⟩ := good_kl G3
        have cA1 := fun W (h : Below w.heap.size w W) => atoms_good _ a W (ra.below h) G1
        have cA2 := fun W (h : Below w.heap.size w W) => atoms_good _ x W (rx.below h) G2
        have cA3 := fun W (h : Below w.heap.size w W) => atoms_good _ y W (ry.below h) G3
        have hck : ckL [a, x, y] = 0 := by
          unfold ckL
          rw [if_pos]
          simp [(good_iff a).2 G1, (good_iff x).2 G2, (good_iff y).2 G3]
        have HE : Hid (mdE a x y nx ny = if mdB (ats a) (ats x) (ats y) = true then (if (mgR (cmpI nx ny) (ats a) (ats x) (ats y)).length ≤ 1000 then 0 else 91) else 141) := by show _ = _; unfold mdE; rw [if_pos hck]
        have HL : Hid (mdE a x y nx ny = 0 → mdL a x y nx ny = rnA (mgR (cmpI nx ny) (ats a) (ats x) (ats y))) := fun h => by unfold mdL; rw [if_pos h]
        clear ra rx ry G1 G2 G3 hck g1 g2 g3 hbad
        generalize ats a = A at *
        generalize ats x = X at *
        generalize ats y = Y at *
        have cO := fun va vb vc W ha hb hc => rfits_any va vb vc A X Y W ha hb hc nA nX nY (by omega) (by omega) (by omega)
        go_wp2_with fail
        refine cK1.mono ?_
        rintro e w1 ⟨rfl, q1⟩
        go_wp2_with fail
        refine (cK2 _ q1).mono ?_
        rintro e w2 ⟨rfl, q2⟩
        replace q1 := chain q1 q2
        go_wp2_with fail
        refine (cK3 _ q1).mono ?_
        rintro e w2' ⟨rfl, q2'⟩
        replace q1 := chain q1 q2'
        clear cK1 cK2 cK3 q2 q2'
        go_wp2_with fail
        refine (cA1 _ q1).mono ?_
        rintro e w3 ⟨u3, rfl, o3, q3⟩
        have r3 := rda_own o3
        obtain ⟨a3, k3, rfl⟩ := own_form o3
        replace q1 := chain q1 q3
        clear cA1 o3 q3
        go_wp2_with fail
        refine (cA2 _ q1).mono ?_
        rintro e w4 ⟨u4, rfl, o4, q4⟩
        have r4 := rda_own o4
        obtain ⟨a4, k4, rfl⟩ := own_form o4
        replace r3 := r3.below q4
        replace q1 := chain q1 q4
        clear cA2 o4 q4
        go_wp2_with fail
        refine (cA3 _ q1).mono ?_
        rintro e w5 ⟨u5, rfl, o5, q5⟩
        have r5 := rda_own o5
        obtain ⟨a5, k5, rfl⟩ := own_form o5
        replace r3 := r3.below q5
        replace r4 := r4.below q5
        replace q1 := chain q1 q5
        clear cA3 o5 q5
        go_wp2_with fail
        refine (cO _ _ _ _ r3 r4 r5).mono ?_
        rintro e w6 ⟨rfl, q6⟩
        replace r3 := r3.below q6
        replace r4 := r4.below q6
        replace r5 := r5.below q6
        replace q1 := chain q1 q6
        clear cO q6
        cases hfit : mdB A X Y with
        | false =>
          have HN : Hid (mdE a x y nx ny = 141) := by show _ = _; rw [HE.out, hfit]; rfl
          clear HE HL r3 r4 r5 nA nX nY lA lX lY zA zX zY mA mX mY hfit
          go_wp2_with fail
          go_ret2
          exact none_ 141 _ HN.out (by decide) q1
        | true =>
          have eX := gpR_eq (A := A) (X := X) (Y := Y) X [] []
          have eY := gpR_eq (A := A) (X := X) (Y := Y) Y [] []
          have nGX := gap_lens (Y := Y) nA nX
          have nGY := gap_bal nA nX nY
          rw [nGX] at nGY
          have aEq := all_eq A X Y
          have mLen := mgR_len (turn := cmpI nx ny) (A := A) (X := X) (Y := Y)
          have lS := List.length_filter_le (svP A X Y) A
          have mem : ∀ u ∈ mgR (cmpI nx ny) A X Y, szI u.z ≠ 0 ∧ 0 ≤ u.n ∧ u.n ≤ 100000 := fun u hu => by
            have hm' : u.May ∧ szI u.z ≠ 0 := by
              unfold mgR at hu
              rcases mgG_mem _ _ _ _ u hu with h | h | h
              · have h := gx_mem h; exact ⟨mX u h, zX u h⟩
              · rw [svP_swap A X Y, stP_swap A X Y] at h
                have h := gx_mem h; exact ⟨mY u h, zY u h⟩
              · have h := (List.mem_filter.1 h).1; exact ⟨mA u h, zA u h⟩
            have := hm'.1
            unfold Atm.May at this
            exact ⟨hm'.2, by omega, by omega⟩
          have pX : ∀ i (hi : i < (gpG (svP A X Y) [] [] (X.filter (stP A X Y))).length), ((gpG (svP A X Y) [] [] (X.filter (stP A X Y)))[i]).length ≤ 1000 ∧ ∀ u ∈ (gpG (svP A X Y) [] [] (X.filter (stP A X Y)))[i], szI u.z ≠ 0 ∧ 0 ≤ u.n ∧ u.n ≤ 100000 := fun i hi => ⟨Nat.le_trans (piece_len hi) (Nat.le_trans (List.length_filter_le _ _) lX), fun u hu => by
            have h := gx_mem (piece_mem hi hu)
            have h2 := mX u h
            unfold Atm.May at h2
            exact ⟨zX u h, by omega, by omega⟩⟩
          have pY : ∀ i (hi : i < (gpG (svP A X Y) [] [] (Y.filter (stP A X Y))).length), ((gpG (svP A X Y) [] [] (Y.filter (stP A X Y)))[i]).length ≤ 1000 ∧ ∀ u ∈ (gpG (svP A X Y) [] [] (Y.filter (stP A X Y)))[i], szI u.z ≠ 0 ∧ 0 ≤ u.n ∧ u.n ≤ 100000 := fun i hi => ⟨Nat.le_trans (piece_len hi) (Nat.le_trans (List.length_filter_le _ _) lY), fun u hu => by
            have h := piece_mem hi hu
            rw [svP_swap A X Y, stP_swap A X Y] at h
            have h := gx_mem h
            have h2 := mY u h
            unfold Atm.May at h2
            exact ⟨zY u h, by omega, by omega⟩⟩
          have cG1 := fun va vx vs W h1 h2 h3 => rgaps_any va vx vs A X (A.filter (svP A X Y)) W h1 h2 h3 lA lX (by omega) (by rw [eX, nGX])
          have cG2 := fun va vx vs W h1 h2 h3 => rgaps_any va vx vs A Y (A.filter (svP A X Y)) W h1 h2 h3 lA lY (by omega) (by rw [eY, ← nGY])
          rw [eX] at cG1
          rw [eY] at cG2
          have HM : Hid (mgR (cmpI nx ny) A X Y = mgG (cmpI nx ny) (gpG (svP A X Y) [] [] (X.filter (stP A X Y))) (gpG (svP A X Y) [] [] (Y.filter (stP A X Y))) (A.filter (svP A X Y))) := rfl
          have HE2 : Hid (mdE a x y nx ny = if (mgR (cmpI nx ny) A X Y).length ≤ 1000 then 0 else 91) := by show _ = _; rw [HE.out, hfit]; rfl
          rw [← aEq] at nGX nGY lS HM cG1 cG2
          clear HE hfit eX eY aEq zA zX zY mA mX mY nA nX nY
          generalize gpG (svP A X Y) [] [] (X.filter (stP A X Y)) = GX at *
          generalize gpG (svP A X Y) [] [] (Y.filter (stP A X Y)) = GY at *
          generalize mgR (cmpI nx ny) A X Y = M at *
          have hB6 := q1.size
          go_wp2_with fail
          go_loopw [15, 16] (fun u i wr => ∃ k : Nat, k ≤ A.length ∧ i = .int .i64 (k : Int) ∧ wr.ownsRow w6.heap.size 42 4 u ((A.take k).filter fun u => hasK X u && hasK Y u).length (acs ((A.take k).filter fun u => hasK X u && hasK Y u)) ∧ Below w6.heap.size w6 wr) (fun _ i _ => A.length - (Go.RowKit.intOf i).toNat)
          case atStart => exact ⟨0, Nat.zero_le _, rfl, World.ownsRow_nil _ _ _ _, Below.refl _ _⟩
          case round =>
            obtain ⟨k, hk, rfl, ho, hb⟩ := hrel
            by_cases hlt : k < A.length
            · have hlt' : (k : Int) < (A.length : Int) := by omega
              have hx : A[k]? = some A[k] := by simp [hlt]
              have cX := rfind_any _ X A[k] wr (r4.below hb) (by omega)
              have cY := fun W (h : Below w6.heap.size w6 W) => rfind_any _ Y A[k] W (r5.below h) (by omega)
              have HS := (show Hid _ from flt_take (P := fun u => hasK X u && hasK Y u) hlt)
              have hll := Nat.le_trans (List.length_filter_le (fun u => hasK X u && hasK Y u) (A.take k)) (List.length_take_le k A)
              obtain ⟨ba, oa, rfl, hba, m0, m1, m2, m3⟩ := rda_at r3 hx
              have mc := fun W (h : Below w6.heap.size w6 W) (j : Nat) => h.cell (p := ⟨ba, j, none⟩) hba
              have b0 := (mc _ hb (oa + k * 4)).trans m0
              have b1 := (mc _ hb (oa + k * 4 + 1)).trans m1
              have b2 := (mc _ hb (oa + k * 4 + 2)).trans m2
              have b3 := (mc _ hb (oa + k * 4 + 3)).trans m3
              clear hx r3 r4 r5 HM HE2 HL pX pY cG1 cG2 mem
              generalize A[k] = u at *
              obtain ⟨a7, k7, rfl⟩ := own_form ho
              generalize hF : (A.take k).filter (fun u => hasK X u && hasK Y u) = F at *
              clear hF
              cases hX : hasK X u with
              | false =>
                have f1 := fdA_not.2 hX
                have HD : Hid ((A.take (k + 1)).filter (fun u => hasK X u && hasK Y u) = F) := by show _ = _; rw [HS.out, hX]; simp
                clear HS hX
                generalize fdA u X 0 = zx at *
                go_wp2_with fail
                refine cX.mono ?_
                rintro e W3 ⟨rfl, t3⟩
                replace ho := own_belowG ho t3
                replace hb := chain hb t3
                clear cX cY b0 b1 b2 b3 m0 m1 m2 m3 mc t3
                go_wp2_with fail
                exact ⟨⟨k + 1, by omega, by go_num, by rw [HD.out]; exact ho, hb⟩, by simp [Go.RowKit.intOf]; omega⟩
              | true =>
                have f1 := fdA_has.2 hX
                generalize fdA u X 0 = zx at *
                cases hY : hasK Y u with
                | false =>
                  have f2 := fdA_not.2 hY
                  have HD : Hid ((A.take (k + 1)).filter (fun u => hasK X u && hasK Y u) = F) := by show _ = _; rw [HS.out, hX, hY]; simp
                  clear HS hX hY
                  generalize fdA u Y 0 = zy at *
                  go_wp2_with fail
                  refine cX.mono ?_
                  rintro e W3 ⟨rfl, t3⟩
                  replace ho := own_belowG ho t3
                  replace hb := chain hb t3
                  clear cX b0 b1 b2 b3 t3
                  have b0 := (mc _ hb (oa + k * 4)).trans m0
                  have b1 := (mc _ hb (oa + k * 4 + 1)).trans m1
                  have b2 := (mc _ hb (oa + k * 4 + 2)).trans m2
                  have b3 := (mc _ hb (oa + k * 4 + 3)).trans m3
                  go_wp2_with fail
                  refine (cY _ hb).mono ?_
                  rintro e W4 ⟨rfl, t4⟩
                  replace ho := own_belowG ho t4
                  replace hb := chain hb t4
                  clear cY b0 b1 b2 b3 m0 m1 m2 m3 mc t4
                  go_wp2_with fail
                  exact ⟨⟨k + 1, by omega, by go_num, by rw [HD.out]; exact ho, hb⟩, by simp [Go.RowKit.intOf]; omega⟩
                | true =>
                  have f2 := fdA_has.2 hY
                  have HD : Hid ((A.take (k + 1)).filter (fun u => hasK X u && hasK Y u) = F ++ [u]) := by show _ = _; rw [HS.out, hX, hY]; simp
                  clear HS hX hY
                  generalize fdA u Y 0 = zy at *
                  go_wp2_with fail
                  refine cX.mono ?_
                  rintro e W3 ⟨rfl, t3⟩
                  replace ho := own_belowG ho t3
                  replace hb := chain hb t3
                  clear cX b0 b1 b2 b3 t3
                  have b0 := (mc _ hb (oa + k * 4)).trans m0
                  have b1 := (mc _ hb (oa + k * 4 + 1)).trans m1
                  have b2 := (mc _ hb (oa + k * 4 + 2)).trans m2
                  have b3 := (mc _ hb (oa + k * 4 + 3)).trans m3
                  go_wp2_with fail
                  refine (cY _ hb).mono ?_
                  rintro e W4 ⟨rfl, t4⟩
                  replace ho := own_belowG ho t4
                  replace hb := chain hb t4
                  clear cY b0 b1 b2 b3 t4
                  have b0 := (mc _ hb (oa + k * 4)).trans m0
                  have b1 := (mc _ hb (oa + k * 4 + 1)).trans m1
                  have b2 := (mc _ hb (oa + k * 4 + 2)).trans m2
                  have b3 := (mc _ hb (oa + k * 4 + 3)).trans m3
                  have hbA := hb.alloc hb.size (.cells #[.int .i64 u.c, .int .i64 u.q, .int .i64 u.n, .int .i64 u.z] 42)
                  have hoA := ho.alloc (.cells #[.int .i64 u.c, .int .i64 u.q, .int .i64 u.n, .int .i64 u.z] 42)
                  have hR1 := rda_one W4 u
                  clear m0 m1 m2 m3 mc
                  go_wp2_with (at_builtin; refine wpList_app_atoms _ rfl (.tmp 68) (.tmp 73) rfl w6.heap.size (.slice a7 F.length k7) _ F [u] rfl rfl hoA hbA.size hR1 (by simp; omega) ?_; intro v8 w8 ho8 hg8)
                  replace hb := hbA.grown hg8 hbA.size (fun k hk => (hoA.lt k hk).1)
                  exact ⟨⟨k + 1, by omega, by go_num, by rw [HD.out]; exact ho8, hb⟩, by simp [Go.RowKit.intOf]; omega⟩
            · obtain rfl : k = A.length := by omega
              rw [List.take_length] at ho
              have r7 := rda_own ho
              obtain ⟨a7, k7, rfl⟩ := own_form ho
              replace r3 := r3.below hb
              replace r4 := r4.below hb
              replace r5 := r5.below hb
              replace q1 := chain q1 hb
              clear ho hb hk hlt hB6
              generalize A.filter (fun u => hasK X u && hasK Y u) = S at *
              go_wp2_with fail
              refine (cG1 _ _ _ _ r3 r4 r7).mono ?_
              rintro e w8 ⟨u8, rfl, t8, q8⟩
              replace r3 := r3.below q8
              replace r5 := r5.below q8
              replace r7 := r7.below q8
              replace q1 := chain q1 q8
              obtain ⟨pb, rfl, -, -⟩ := rdt_at t8
              clear cG1 r4 q8
              go_wp2_with fail
              refine (cG2 _ _ _ _ r3 r5 r7).mono ?_
              rintro e w9 ⟨u9, rfl, t9, q9⟩
              replace r7 := r7.below q9
              replace t8 := t8.below q9
              replace q1 := chain q1 q9
              clear cG2 r3 r5 q9
              obtain ⟨pb', ep, hpb, hP⟩ := rdt_at t8
              cases ep
              obtain ⟨qb, rfl, hqb, hQ⟩ := rdt_at t9
              clear t8 t9
              have hlS : (S.length : Int) ≤ 1000 := by omega
              go_wp2_with fail
              go_loopw [19, 20] (fun u i wr => ∃ (k : Nat) (O : List Atm), k ≤ S.length + 1 ∧ i = .int .i64 (k : Int) ∧ wr.ownsRow w9.heap.size 42 4 u O.length (acs O) ∧ Below w9.heap.size w9 wr ∧ Hid (M = O ++ mgG (cmpI nx ny) (GX.drop k) (GY.drop k) (S.drop k))) (fun _ i _ => S.length + 1 - (Go.RowKit.intOf i).toNat)
              case atStart => exact ⟨0, [], Nat.zero_le _, rfl, World.ownsRow_nil _ _ _ _, Below.refl _ _, HM⟩
              case round =>
                obtain ⟨k, O, hk, rfl, ho, hb, HI⟩ := hrel
                clear HM
                obtain ⟨a0, k0, rfl⟩ := own_form ho
                have hOl : O.length ≤ 3000 := by
                  have := congrArg List.length HI.out
                  rw [List.length_append] at this
                  omega
                by_cases hlt : k ≤ S.length
                · have hlt' : (k : Int) ≤ (S.length : Int) := by omega
                  have hkX : k < GX.length := by omega
                  have hkY : k < GY.length := by omega
                  have hkX' : (k : Int) < (GX.length : Int) := by omega
                  have hkY' : (k : Int) < (GY.length : Int) := by omega
                  obtain ⟨up, cp, rp⟩ := hP k hkX
                  obtain ⟨uq, cq, rq⟩ := hQ k hkY
                  have HJ := (show Hid _ from HI.out.trans (congrArg (O ++ ·) (mgG_drop (turn := cmpI nx ny) (S := S) hkX hkY)))
                  obtain ⟨pX1, pX2⟩ := pX k hkX
                  obtain ⟨pY1, pY2⟩ := pY k hkY
                  have HP := (show Hid _ from pr_ref nx ny GX[k] GY[k])
                  have mc := fun W (h : Below w9.heap.size w9 W) => h.cell (p := ⟨pb, k, none⟩) hpb
                  have mq := fun W (h : Below w9.heap.size w9 W) => h.cell (p := ⟨qb, k, none⟩) hqb
                  have hml : O.length + (GX[k].length + GY[k].length) + 1 ≤ 100000 := by omega
                  clear hP hQ pX pY HI HE2 HL mem
                  generalize GX[k] = g at *
                  generalize GY[k] = h at *
                  have cT1 := fun s : Beh wr => rtext14_any up g s.it (rp.below (chain hb s.h)) (fun u hu => (pX2 u hu).1) (fun u hu => (pX2 u hu).2) pX1
                  have cT2 := fun s : Beh wr => rtext14_any uq h s.it (rq.below (chain hb s.h)) (fun u hu => (pY2 u hu).1) (fun u hu => (pY2 u hu).2) pY1
                  have sz1 : (txU g).length ≤ 4000 := tx_sz pX1
                  have sz2 : (txU h).length ≤ 4000 := tx_sz pY1
                  have cC := fun s : Beh wr => refCompare_any (mk (txU g)) (mk (txU h)) s.it (by rw [mk_size]; unfold maxLen; omega) (by rw [mk_size]; unfold maxLen; omega)
                  rw [mk_toList, mk_toList] at cC
                  clear pX2 pY2 sz1 sz2
                  generalize Lib.compareBytes (txU g) (txU h) = C at *
                  generalize mk (txU g) = T1 at *
                  generalize mk (txU h) = T2 at *
                  have e1 : ∀ s : Beh wr, s.it.cell? ⟨pb, k, none⟩ = some up := fun s => (mc _ (chain hb s.h)).trans cp
                  have e2 : ∀ s : Beh wr, s.it.cell? ⟨qb, k, none⟩ = some uq := fun s => (mq _ (chain hb s.h)).trans cq
                  obtain ⟨apo, apc, eup, -⟩ := id rp
                  subst eup
                  obtain ⟨aqo, aqc, euq, -⟩ := id rq
                  subst euq
                  go_upto_region 20 with fail
                  go_cut [21] (fun c wx => c = .int .i64 C ∧ Below wr.heap.size wr wx)
                  case first =>
                    refine wp_region_beh (by kernel_rfl) (by kernel_rfl) ?_
                    repeat (go_big_quiet_step ((first | (go_at_call 32; first | exact Beh.call (cT1 _) | exact Beh.call (cT2 _)) | (go_at_call 31; exact Beh.call (cC _)))))
                    refine wpQuiet_nil ?_
                    intro wq hw'
                    have hwq := Beh.out hw'
                    clear hw' e1 e2
                    go_wp2_with fail
                    go_meet
                    exact ⟨rfl, hwq⟩
                  case rest =>
                    obtain ⟨rfl, hx⟩ := hcut
                    replace ho := own_belowG ho hx
                    replace hb := chain hb hx
                    clear e1 e2 cT1 cT2 cC hx
                    by_cases c1 : C < 0
                    · have HD : Hid (prM (cmpI nx ny) g h = g ++ h) := by show _ = _; rw [HP.out, if_pos (.inl c1)]
                      have d1 := (mc _ hb).trans cp
                      have HQ : Hid (M = (O ++ g ++ h) ++ (S[k]?.toList ++ mgG (cmpI nx ny) (GX.drop (k + 1)) (GY.drop (k + 1)) (S.drop (k + 1)))) := by
                        show _ = _
                        rw [HJ.out, HD.out]
                        simp only [List.append_assoc]
                      have hl2 : (O ++ g ++ h).length ≤ 9000 := by simp only [List.length_append]; omega
                      clear HJ HD HP
                      by_cases hks : k < S.length
                      · have hks' : (k : Int) < (S.length : Int) := by omega
                        have hs : S[k]? = some S[k] := by simp [hks]
                        rw [hs] at HQ
                        obtain ⟨bs, os, rfl, hbs, m0, m1, m2, m3⟩ := rda_at r7 hs
                        have ms := fun W (h : Below w9.heap.size w9 W) (j : Nat) => h.cell (p := ⟨bs, j, none⟩) hbs
                        clear hs r7
                        generalize S[k] = u at *
                        go_wp2_with (first | (at_builtin; refine wpList_app_atoms _ rfl (.tmp 111) (.tmp 115) rfl w9.heap.size (.slice a0 O.length k0) _ O g rfl rfl ho hb.size (rp.below hb) (by omega) ?_; intro v1 w10 ho1 hg1; have hb1 := hb.grown hg1 hb.size (fun k hk => (ho.lt k hk).1); have d2 := (mq _ hb1).trans cq) | (at_builtin; refine wpList_app_atoms _ rfl (.tmp 117) (.tmp 121) rfl w9.heap.size v1 _ (O ++ g) h rfl rfl ho1 hb1.size (rq.below hb1) (by rw [List.length_append]; omega) ?_; intro v2 w11 ho2 hg2; have hb2 := hb1.grown hg2 hb1.size (fun k hk => (ho1.lt k hk).1); have b0 := (ms _ hb2 (os + k * 4)).trans m0; have b1 := (ms _ hb2 (os + k * 4 + 1)).trans m1; have b2 := (ms _ hb2 (os + k * 4 + 2)).trans m2; have b3 := (ms _ hb2 (os + k * 4 + 3)).trans m3; have hbA := hb2.alloc hb2.size (.cells #[.int .i64 u.c, .int .i64 u.q, .int .i64 u.n, .int .i64 u.z] 42); have hoA := ho2.alloc (.cells #[.int .i64 u.c, .int .i64 u.q, .int .i64 u.n, .int .i64 u.z] 42); have hR1 := rda_one w11 u) | (at_builtin; refine wpList_app_atoms _ rfl (.tmp 139) (.tmp 144) rfl w9.heap.size v2 _ (O ++ g ++ h) [u] rfl rfl hoA hbA.size hR1 (by simp only [List.length_cons, List.length_nil]; omega) ?_; intro v3 w12 ho3 hg3))
                        have hb3 := hbA.grown hg3 hbA.size (fun k hk => (hoA.lt k hk).1)
                        exact ⟨⟨k + 1, O ++ g ++ h ++ [u], by omega, by go_num, ho3, hb3, by show _ = _; rw [HQ.out]; simp⟩, by simp [Go.RowKit.intOf]; omega⟩
                      · have hks' : ¬ (k : Int) < (S.length : Int) := by omega
                        have hs : S[k]? = none := by simp; omega
                        rw [hs] at HQ
                        clear hs r7
                        go_wp2_with (first | (at_builtin; refine wpList_app_atoms _ rfl (.tmp 111) (.tmp 115) rfl w9.heap.size (.slice a0 O.length k0) _ O g rfl rfl ho hb.size (rp.below hb) (by omega) ?_; intro v1 w10 ho1 hg1; have hb1 := hb.grown hg1 hb.size (fun k hk => (ho.lt k hk).1); have d2 := (mq _ hb1).trans cq) | (at_builtin; refine wpList_app_atoms _ rfl (.tmp 117) (.tmp 121) rfl w9.heap.size v1 _ (O ++ g) h rfl rfl ho1 hb1.size (rq.below hb1) (by rw [List.length_append]; omega) ?_; intro v2 w11 ho2 hg2; have hb2 := hb1.grown hg2 hb1.size (fun k hk => (ho1.lt k hk).1)))
                        exact ⟨⟨k + 1, O ++ g ++ h, by omega, by go_num, ho2, hb2, by show _ = _; rw [HQ.out]; simp⟩, by simp [Go.RowKit.intOf]; omega⟩
                    · by_cases c2 : C = 0
                      · by_cases c3 : nx ≤ ny
                        · have HD : Hid (prM (cmpI nx ny) g h = g ++ h) := by show _ = _; rw [HP.out, if_pos (.inr ⟨c2, c3⟩)]
                          subst c2
                          have d1 := (mc _ hb).trans cp
                          have HQ : Hid (M = (O ++ g ++ h) ++ (S[k]?.toList ++ mgG (cmpI nx ny) (GX.drop (k + 1)) (GY.drop (k + 1)) (S.drop (k + 1)))) := by
                            show _ = _
                            rw [HJ.out, HD.out]
                            simp only [List.append_assoc]
                          have hl2 : (O ++ g ++ h).length ≤ 9000 := by simp only [List.length_append]; omega
                          clear HJ HD HP
                          by_cases hks : k < S.length
                          · have hks' : (k : Int) < (S.length : Int) := by omega
                            have hs : S[k]? = some S[k] := by simp [hks]
                            rw [hs] at HQ
                            obtain ⟨bs, os, rfl, hbs, m0, m1, m2, m3⟩ := rda_at r7 hs
                            have ms := fun W (h : Below w9.heap.size w9 W) (j : Nat) => h.cell (p := ⟨bs, j, none⟩) hbs
                            clear hs r7
                            generalize S[k] = u at *
                            go_wp2_with (first | (at_builtin; refine wpList_app_atoms _ rfl (.tmp 111) (.tmp 115) rfl w9.heap.size (.slice a0 O.length k0) _ O g rfl rfl ho hb.size (rp.below hb) (by omega) ?_; intro v1 w10 ho1 hg1; have hb1 := hb.grown hg1 hb.size (fun k hk => (ho.lt k hk).1); have d2 := (mq _ hb1).trans cq) | (at_builtin; refine wpList_app_atoms _ rfl (.tmp 117) (.tmp 121) rfl w9.heap.size v1 _ (O ++ g) h rfl rfl ho1 hb1.size (rq.below hb1) (by rw [List.length_append]; omega) ?_; intro v2 w11 ho2 hg2; have hb2 := hb1.grown hg2 hb1.size (fun k hk => (ho1.lt k hk).1); have b0 := (ms _ hb2 (os + k * 4)).trans m0; have b1 := (ms _ hb2 (os + k * 4 + 1)).trans m1; have b2 := (ms _ hb2 (os + k * 4 + 2)).trans m2; have b3 := (ms _ hb2 (os + k * 4 + 3)).trans m3; have hbA := hb2.alloc hb2.size (.cells #[.int .i64 u.c, .int .i64 u.q, .int .i64 u.n, .int .i64 u.z] 42); have hoA := ho2.alloc (.cells #[.int .i64 u.c, .int .i64 u.q, .int .i64 u.n, .int .i64 u.z] 42); have hR1 := rda_one w11 u) | (at_builtin; refine wpList_app_atoms _ rfl (.tmp 139) (.tmp 144) rfl w9.heap.size v2 _ (O ++ g ++ h) [u] rfl rfl hoA hbA.size hR1 (by simp only [List.length_cons, List.length_nil]; omega) ?_; intro v3 w12 ho3 hg3))
                            have hb3 := hbA.grown hg3 hbA.size (fun k hk => (hoA.lt k hk).1)
                            exact ⟨⟨k + 1, O ++ g ++ h ++ [u], by omega, by go_num, ho3, hb3, by show _ = _; rw [HQ.out]; simp⟩, by simp [Go.RowKit.intOf]; omega⟩
                          · have hks' : ¬ (k : Int) < (S.length : Int) := by omega
                            have hs : S[k]? = none := by simp; omega
                            rw [hs] at HQ
                            clear hs r7
                            go_wp2_with (first | (at_builtin; refine wpList_app_atoms _ rfl (.tmp 111) (.tmp 115) rfl w9.heap.size (.slice a0 O.length k0) _ O g rfl rfl ho hb.size (rp.below hb) (by omega) ?_; intro v1 w10 ho1 hg1; have hb1 := hb.grown hg1 hb.size (fun k hk => (ho.lt k hk).1); have d2 := (mq _ hb1).trans cq) | (at_builtin; refine wpList_app_atoms _ rfl (.tmp 117) (.tmp 121) rfl w9.heap.size v1 _ (O ++ g) h rfl rfl ho1 hb1.size (rq.below hb1) (by rw [List.length_append]; omega) ?_; intro v2 w11 ho2 hg2; have hb2 := hb1.grown hg2 hb1.size (fun k hk => (ho1.lt k hk).1)))
                            exact ⟨⟨k + 1, O ++ g ++ h, by omega, by go_num, ho2, hb2, by show _ = _; rw [HQ.out]; simp⟩, by simp [Go.RowKit.intOf]; omega⟩
                        · have HD : Hid (prM (cmpI nx ny) g h = h ++ g) := by show _ = _; rw [HP.out, if_neg (by omega)]
                          subst c2
                          have d1 := (mq _ hb).trans cq
                          have HQ : Hid (M = (O ++ h ++ g) ++ (S[k]?.toList ++ mgG (cmpI nx ny) (GX.drop (k + 1)) (GY.drop (k + 1)) (S.drop (k + 1)))) := by
                            show _ = _
                            rw [HJ.out, HD.out]
                            simp only [List.append_assoc]
                          have hl2 : (O ++ h ++ g).length ≤ 9000 := by simp only [List.length_append]; omega
                          clear HJ HD HP
                          by_cases hks : k < S.length
                          · have hks' : (k : Int) < (S.length : Int) := by omega
                            have hs : S[k]? = some S[k] := by simp [hks]
                            rw [hs] at HQ
                            obtain ⟨bs, os, rfl, hbs, m0, m1, m2, m3⟩ := rda_at r7 hs
                            have ms := fun W (h : Below w9.heap.size w9 W) (j : Nat) => h.cell (p := ⟨bs, j, none⟩) hbs
                            clear hs r7
                            generalize S[k] = u at *
                            go_wp2_with (first | (at_builtin; refine wpList_app_atoms _ rfl (.tmp 123) (.tmp 127) rfl w9.heap.size (.slice a0 O.length k0) _ O h rfl rfl ho hb.size (rq.below hb) (by omega) ?_; intro v1 w10 ho1 hg1; have hb1 := hb.grown hg1 hb.size (fun k hk => (ho.lt k hk).1); have d2 := (mc _ hb1).trans cp) | (at_builtin; refine wpList_app_atoms _ rfl (.tmp 129) (.tmp 133) rfl w9.heap.size v1 _ (O ++ h) g rfl rfl ho1 hb1.size (rp.below hb1) (by rw [List.length_append]; omega) ?_; intro v2 w11 ho2 hg2; have hb2 := hb1.grown hg2 hb1.size (fun k hk => (ho1.lt k hk).1); have b0 := (ms _ hb2 (os + k * 4)).trans m0; have b1 := (ms _ hb2 (os + k * 4 + 1)).trans m1; have b2 := (ms _ hb2 (os + k * 4 + 2)).trans m2; have b3 := (ms _ hb2 (os + k * 4 + 3)).trans m3; have hbA := hb2.alloc hb2.size (.cells #[.int .i64 u.c, .int .i64 u.q, .int .i64 u.n, .int .i64 u.z] 42); have hoA := ho2.alloc (.cells #[.int .i64 u.c, .int .i64 u.q, .int .i64 u.n, .int .i64 u.z] 42); have hR1 := rda_one w11 u) | (at_builtin; refine wpList_app_atoms _ rfl (.tmp 139) (.tmp 144) rfl w9.heap.size v2 _ (O ++ h ++ g) [u] rfl rfl hoA hbA.size hR1 (by simp only [List.length_cons, List.length_nil]; omega) ?_; intro v3 w12 ho3 hg3))
                            have hb3 := hbA.grown hg3 hbA.size (fun k hk => (hoA.lt k hk).1)
                            exact ⟨⟨k + 1, O ++ h ++ g ++ [u], by omega, by go_num, ho3, hb3, by show _ = _; rw [HQ.out]; simp⟩, by simp [Go.RowKit.intOf]; omega⟩
                          · have hks' : ¬ (k : Int) < (S.length : Int) := by omega
                            have hs : S[k]? = none := by simp; omega
                            rw [hs] at HQ
                            clear hs r7
                            go_wp2_with (first | (at_builtin; refine wpList_app_atoms _ rfl (.tmp 123) (.tmp 127) rfl w9.heap.size (.slice a0 O.length k0) _ O h rfl rfl ho hb.size (rq.below hb) (by omega) ?_; intro v1 w10 ho1 hg1; have hb1 := hb.grown hg1 hb.size (fun k hk => (ho.lt k hk).1); have d2 := (mc _ hb1).trans cp) | (at_builtin; refine wpList_app_atoms _ rfl (.tmp 129) (.tmp 133) rfl w9.heap.size v1 _ (O ++ h) g rfl rfl ho1 hb1.size (rp.below hb1) (by rw [List.length_append]; omega) ?_; intro v2 w11 ho2 hg2; have hb2 := hb1.grown hg2 hb1.size (fun k hk => (ho1.lt k hk).1)))
                            exact ⟨⟨k + 1, O ++ h ++ g, by omega, by go_num, ho2, hb2, by show _ = _; rw [HQ.out]; simp⟩, by simp [Go.RowKit.intOf]; omega⟩
                      · have HD : Hid (prM (cmpI nx ny) g h = h ++ g) := by show _ = _; rw [HP.out, if_neg (by omega)]
                        have c2' : (C == 0) = false := by simpa using c2
                        have d1 := (mq _ hb).trans cq
                        have HQ : Hid (M = (O ++ h ++ g) ++ (S[k]?.toList ++ mgG (cmpI nx ny) (GX.drop (k + 1)) (GY.drop (k + 1)) (S.drop (k + 1)))) := by
                          show _ = _
                          rw [HJ.out, HD.out]
                          simp only [List.append_assoc]
                        have hl2 : (O ++ h ++ g).length ≤ 9000 := by simp only [List.length_append]; omega
                        clear HJ HD HP
                        by_cases hks : k < S.length
                        · have hks' : (k : Int) < (S.length : Int) := by omega
                          have hs : S[k]? = some S[k] := by simp [hks]
                          rw [hs] at HQ
                          obtain ⟨bs, os, rfl, hbs, m0, m1, m2, m3⟩ := rda_at r7 hs
                          have ms := fun W (h : Below w9.heap.size w9 W) (j : Nat) => h.cell (p := ⟨bs, j, none⟩) hbs
                          clear hs r7
                          generalize S[k] = u at *
                          go_wp2_with (first | (at_builtin; refine wpList_app_atoms _ rfl (.tmp 123) (.tmp 127) rfl w9.heap.size (.slice a0 O.length k0) _ O h rfl rfl ho hb.size (rq.below hb) (by omega) ?_; intro v1 w10 ho1 hg1; have hb1 := hb.grown hg1 hb.size (fun k hk => (ho.lt k hk).1); have d2 := (mc _ hb1).trans cp) | (at_builtin; refine wpList_app_atoms _ rfl (.tmp 129) (.tmp 133) rfl w9.heap.size v1 _ (O ++ h) g rfl rfl ho1 hb1.size (rp.below hb1) (by rw [List.length_append]; omega) ?_; intro v2 w11 ho2 hg2; have hb2 := hb1.grown hg2 hb1.size (fun k hk => (ho1.lt k hk).1); have b0 := (ms _ hb2 (os + k * 4)).trans m0; have b1 := (ms _ hb2 (os + k * 4 + 1)).trans m1; have b2 := (ms _ hb2 (os + k * 4 + 2)).trans m2; have b3 := (ms _ hb2 (os + k * 4 + 3)).trans m3; have hbA := hb2.alloc hb2.size (.cells #[.int .i64 u.c, .int .i64 u.q, .int .i64 u.n, .int .i64 u.z] 42); have hoA := ho2.alloc (.cells #[.int .i64 u.c, .int .i64 u.q, .int .i64 u.n, .int .i64 u.z] 42); have hR1 := rda_one w11 u) | (at_builtin; refine wpList_app_atoms _ rfl (.tmp 139) (.tmp 144) rfl w9.heap.size v2 _ (O ++ h ++ g) [u] rfl rfl hoA hbA.size hR1 (by simp only [List.length_cons, List.length_nil]; omega) ?_; intro v3 w12 ho3 hg3))
                          have hb3 := hbA.grown hg3 hbA.size (fun k hk => (hoA.lt k hk).1)
                          exact ⟨⟨k + 1, O ++ h ++ g ++ [u], by omega, by go_num, ho3, hb3, by show _ = _; rw [HQ.out]; simp⟩, by simp [Go.RowKit.intOf]; omega⟩
                        · have hks' : ¬ (k : Int) < (S.length : Int) := by omega
                          have hs : S[k]? = none := by simp; omega
                          rw [hs] at HQ
                          clear hs r7
                          go_wp2_with (first | (at_builtin; refine wpList_app_atoms _ rfl (.tmp 123) (.tmp 127) rfl w9.heap.size (.slice a0 O.length k0) _ O h rfl rfl ho hb.size (rq.below hb) (by omega) ?_; intro v1 w10 ho1 hg1; have hb1 := hb.grown hg1 hb.size (fun k hk => (ho.lt k hk).1); have d2 := (mc _ hb1).trans cp) | (at_builtin; refine wpList_app_atoms _ rfl (.tmp 129) (.tmp 133) rfl w9.heap.size v1 _ (O ++ h) g rfl rfl ho1 hb1.size (rp.below hb1) (by rw [List.length_append]; omega) ?_; intro v2 w11 ho2 hg2; have hb2 := hb1.grown hg2 hb1.size (fun k hk => (ho1.lt k hk).1)))
                          exact ⟨⟨k + 1, O ++ h ++ g, by omega, by go_num, ho2, hb2, by show _ = _; rw [HQ.out]; simp⟩, by simp [Go.RowKit.intOf]; omega⟩
                · obtain rfl : k = S.length + 1 := by omega
                  have HZ : Hid (M = O) := by
                    show _ = _
                    rw [HI.out, List.drop_eq_nil_of_le (show GX.length ≤ S.length + 1 by omega), mgG_end, List.append_nil]
                  have rO := rda_own ho
                  have hn1 : ¬ ((S.length : Int) + 1 ≤ (S.length : Int)) := by omega
                  clear HI hP hQ pX pY ho
                  rw [HZ.out] at HE2 HL mem
                  replace q1 := chain q1 hb
                  by_cases h1000 : O.length ≤ 1000
                  · have hE := HE2.out
                    rw [if_pos h1000] at hE
                    have hL := HL.out hE
                    have h1000' : ¬ ((1000 : Int) < (O.length : Int)) := by omega
                    have cR := runs_any _ O _ rO (fun u hu => (mem u hu).1) (fun u hu => (mem u hu).2) (by omega)
                    have HR : Hid (mdE a x y nx ny = 0 ∧ mdL a x y nx ny = rnA O) := ⟨hE, hL⟩
                    clear hE hL HE2 HL mem HZ rO
                    generalize rnA O = RO at *
                    go_wp2_with fail
                    refine cR.mono ?_
                    rintro e w13 ⟨u13, rfl, o13, q13⟩
                    have HX := (show Hid _ from And.intro (own_lower o13 q1.size) (chain q1 q13))
                    obtain ⟨a13, k13, rfl⟩ := own_form o13
                    clear o13 q13 cR
                    go_wp2_with fail
                    go_ret2
                    rw [HR.out.1, HR.out.2]
                    exact ⟨_, rfl, HX.out.1, HX.out.2⟩
                  · have hE := HE2.out
                    rw [if_neg h1000] at hE
                    have h1000' : (1000 : Int) < (O.length : Int) := by omega
                    have HN : Hid (mdE a x y nx ny = 91) := hE
                    clear hE HE2 HL mem HZ rO
                    go_wp2_with fail
                    go_ret2
                    exact none_ 91 _ HN.out (by decide) q1
      · have HN := (show Hid _ from hbad (.inr (.inr fun h => g3 (ckR_zero.2 h))))
        have g3' : (ckR y != 0) = true := by simpa using g3
        clear ra rx ry g1 g2 g3 hbad
        generalize ckR y = z at *
        go_wp2_with fail
        refine cK1.mono ?_
        rintro e w1 ⟨rfl, q1⟩
        go_wp2_with fail
        refine (cK2 _ q1).mono ?_
        rintro e w2 ⟨rfl, q2⟩
        replace q1 := chain q1 q2
        go_wp2_with fail
        refine (cK3 _ q1).mono ?_
        rintro e w3 ⟨rfl, q3⟩
        replace q1 := chain q1 q3
        clear cK1 cK2 cK3 q2 q3
        go_wp2_with fail
        go_ret2
        exact none_ 120 _ HN.out (by decide) q1
    · have HN := (show Hid _ from hbad (.inr (.inl fun h => g2 (ckR_zero.2 h))))
      have g2' : (ckR x != 0) = true := by simpa using g2
      clear ra rx ry g1 g2 hbad
      generalize ckR x = z at *
      go_wp2_with fail
      refine cK1.mono ?_
      rintro e w1 ⟨rfl, q1⟩
      go_wp2_with fail
      refine (cK2 _ q1).mono ?_
      rintro e w2 ⟨rfl, q2⟩
      replace q1 := chain q1 q2
      clear cK1 cK2 cK3 q2
      go_wp2_with fail
      go_ret2
      exact none_ 120 _ HN.out (by decide) q1
  · have HN := (show Hid _ from hbad (.inl fun h => g1 (ckR_zero.2 h)))
    have g1' : (ckR a != 0) = true := by simpa using g1
    clear ra rx ry g1 hbad
    generalize ckR a = z at *
    go_wp2_with fail
    refine cK1.mono ?_
    rintro e w1 ⟨rfl, q1⟩
    clear cK1 cK2 cK3
    go_wp2_with fail
    go_ret2
    exact none_ 120 _ HN.out (by decide) q1
end Go.Proofs.YtofmficdfkeffaaDoor
