/-
  The reference's marks as data; the contracts of its checks and marks.
-/
import Derived.Test.YtgabanndjiegdabDrF
namespace Go.Proofs.Ytgabanndjiegdab
open Go.ChangeShapes Go.WideShapes Go.ChangeAt Go.RowKit Go.PlainAid

def mF : Nat ⊕ Int → Int
  | .inl j => (j : Int)
  | .inr _ => -1
def mP : Nat ⊕ Int → Int
  | .inl _ => 0
  | .inr z => z
def mcs (l : List (Nat ⊕ Int)) : List Value := (l.map fun m => [Value.int .i64 (mF m), .int .i64 (mP m)]).flatten
theorem mcs_append (a b : List (Nat ⊕ Int)) : mcs (a ++ b) = mcs a ++ mcs b := by simp [mcs]
theorem mcs_one (m : Nat ⊕ Int) : mcs [m] = [Value.int .i64 (mF m), .int .i64 (mP m)] := by simp [mcs]
theorem mcs_length (l : List (Nat ⊕ Int)) : (mcs l).length = l.length * 2 := by
  induction l with
  | nil => rfl
  | cons m l ih =>
    have e : mcs (m :: l) = [Value.int .i64 (mF m), .int .i64 (mP m)] ++ mcs l := by simp [mcs]
    rw [e, List.length_append, ih, List.length_cons]; simp; omega
theorem mcs_at (l : List (Nat ⊕ Int)) (i : Nat) (m : Nat ⊕ Int) (h : l[i]? = some m) : (mcs l)[i * 2]? = some (.int .i64 (mF m)) ∧ (mcs l)[i * 2 + 1]? = some (.int .i64 (mP m)) := by
  have hi := (List.getElem?_eq_some_iff.1 h).1
  have e0 : l = l.take i ++ ([m] ++ l.drop (i + 1)) := by
    have h1 : l[i] = m := (List.getElem?_eq_some_iff.1 h).2
    rw [← h1]
    simp
  have e1 : mcs l = mcs (l.take i) ++ ([Value.int .i64 (mF m), .int .i64 (mP m)] ++ mcs (l.drop (i + 1))) := by
    rw [← mcs_one, ← mcs_append, ← mcs_append, ← e0]
  have e2 : (mcs (l.take i)).length = i * 2 := by rw [mcs_length, List.length_take]; congr 1; omega
  rw [e1]
  refine ⟨?_, ?_⟩ <;> rw [List.getElem?_append_right (by omega), e2] <;> simp
/-- At v lie marks. -/
def RdM (w : World) (v : Value) (l : List (Nat ⊕ Int)) : Prop :=
  ∃ ao cp, v = .slice ao l.length cp ∧ ∀ (i : Nat) (m : Nat ⊕ Int), l[i]? = some m → ∃ b off, ao = some ⟨b, off, none⟩ ∧ b < w.heap.size ∧ w.cell? ⟨b, off + i * 2, none⟩ = some (.int .i64 (mF m)) ∧ w.cell? ⟨b, off + i * 2 + 1, none⟩ = some (.int .i64 (mP m))
theorem RdM.below {w w' : World} {v : Value} {l : List (Nat ⊕ Int)} (h : RdM w v l) (hb : Below w.heap.size w w') : RdM w' v l := by
  obtain ⟨ao, cp, e, h1⟩ := h
  refine ⟨ao, cp, e, fun i m hi => ?_⟩
  obtain ⟨b, off, e1, hl, c0, c1⟩ := h1 i m hi
  exact ⟨b, off, e1, Nat.lt_of_lt_of_le hl hb.size, (hb.cell (p := ⟨b, off + i * 2, none⟩) hl).trans c0, (hb.cell (p := ⟨b, off + i * 2 + 1, none⟩) hl).trans c1⟩
theorem rdm_own {W : World} {B : Nat} {v : Value} {l : List (Nat ⊕ Int)} (h : W.ownsRow B 96 2 v l.length (mcs l)) : RdM W v l := by
  rcases h.2 with ⟨rfl, h0⟩ | ⟨g, cap, cur, rfl, hb, hg, hn, _, hc, ht⟩
  · have : l = [] := List.eq_nil_of_length_eq_zero h0
    subst this
    exact ⟨none, 0, rfl, fun i m hi => by simp at hi⟩
  · refine ⟨_, cap, rfl, fun i m hm => ⟨g, 0, rfl, (h.lt g rfl).2, ?_⟩⟩
    obtain ⟨c0, c1⟩ := mcs_at l i m hm
    have hadd : ∀ j, (⟨g, 0, none⟩ : Addr).add j = ⟨g, 0 + j, none⟩ := fun j => by unfold Addr.add; split <;> simp_all
    have g0 := h.cells (g := g) rfl _ _ c0
    have g1 := h.cells (g := g) rfl _ _ c1
    rw [hadd] at g0 g1
    exact ⟨g0, by rw [Nat.add_assoc]; exact g1⟩
theorem own_mark {w1 : World} {base n : Nat} {v' : Value} {L : List (Nat ⊕ Int)} {m : Nat ⊕ Int} {a b : Int} (h : w1.ownsRow base 96 2 v' (n + 1) (mcs L ++ [Value.int .i64 a, .int .i64 b])) (hn : L.length = n) (ha : a = mF m) (hb : b = mP m) :
    w1.ownsRow base 96 2 v' (L ++ [m]).length (mcs (L ++ [m])) := by
  subst hn; subst ha; subst hb
  rw [mcs_append, mcs_one, List.length_append]
  exact h
theorem two_one (a b : Int) : ∀ u ∈ [Value.int .i64 a, .int .i64 b], u.oneCell' = true := by
  intro u hu
  simp at hu
  rcases hu with rfl | rfl <;> rfl
theorem Try.infoMk : (Try.prog.info? 96).map (fun i => (i.zero, i.size, i.bytes)) = some (some (.agg #[.int .i64 0, .int .i64 0]), 2, 16) := by kernel_rfl

theorem rchecks_any (vA vB : Value) (A B : List OpD) (w : World) (hA : RdD w vA A) (hB : RdD w vB B) (mA : A.length ≤ maxLen) (mB : B.length ≤ maxLen) (iA : ∀ o ∈ A, o.Sm) (iB : ∀ o ∈ B, o.Sm) :
    Calls Try.prog 47 #[vA, vB] w fun e w' => e = .returned (.int .i64 (if chk A = 0 then chk B else chk A)) ∧ Below w.heap.size w w' := by
  have c1 := refCheck_any vA A w hA mA iA
  have c2 := fun W h => refCheck_any vB B W h mB iB
  by_cases c : chk A = 0
  · rw [if_pos c]
    rw [c] at c1
    clear c
    generalize chk B = eb at *
    go_enter Try.func47, Try.ntmps47
    go_wp2_with fail
    refine c1.mono ?_
    rintro e w1 ⟨rfl, hb1⟩
    go_wp2_with fail
    refine (c2 _ (hB.below hb1)).mono ?_
    rintro e w2 ⟨rfl, hb2⟩
    go_wp2_with fail
    go_ret
    exact ⟨rfl, chain hb1 hb2⟩
  · have c' : (chk A != 0) = true := by simpa using c
    rw [if_neg c]
    clear c
    generalize chk A = ea at *
    go_enter Try.func47, Try.ntmps47
    go_wp2_with fail
    refine c1.mono ?_
    rintro e w1 ⟨rfl, hb1⟩
    go_wp2_with fail
    go_ret
    exact ⟨rfl, hb1⟩

theorem take_uw' {l : List St} {k : Nat} (h : k < l.length) : uw (l.take (k + 1)) = uw (l.take k) ++ (l[k]).u := by
  rw [List.take_succ_eq_append_getElem h, uw_append]; simp [uw]
theorem mk_len (l : List St) : (mkU 0 (uw l)).length = tsum l := by rw [show (mkU 0 (uw l)).length = targU (uw l) from rfl, targ_uw]

set_option maxRecDepth 20000 in
set_option maxHeartbeats 3000000 in
theorem rmarks_any (v : Value) (ds : List OpD) (w : World) (hr : RdD w v ds) (hi : ∀ o ∈ ds, o.Sm) (hc0 : chk ds = 0) :
    Calls Try.prog 50 #[v] w fun e w' => ∃ u, e = .returned u ∧ w'.ownsRow w.heap.size 96 2 u (mkU 0 (uw (stR ds))).length (mcs (mkU 0 (uw (stR ds)))) ∧ Below w.heap.size w w' := by
  obtain ⟨i0, hin, hz0, hz1, hz2⟩ := info_parts Try.infoMk
  have hbd := stR_bd ds
  have hln := stR_len ds
  have hds := stR_op hc0
  have hok := stR_ok (fun o ho => sm_in (hi o ho))
  generalize stR ds = l at *
  subst hds
  obtain ⟨ao, cp, rfl, _, hc⟩ := hr
  rw [List.length_map] at *
  clear hi hc0
  go_enter Try.func50, Try.ntmps50
  go_wp2_with fail
  go_loopw [3, 4, 5] (fun d a i wr => ∃ (k : Nat) (M : List (Nat ⊕ Int)), k ≤ l.length ∧ i = .int .i64 (k : Int) ∧ a = .int .i64 (bsum (l.take k) : Int) ∧ Hid (M = mkU 0 (uw (l.take k))) ∧ wr.ownsRow w.heap.size 96 2 d M.length (mcs M) ∧ Below w.heap.size w wr) (fun _ _ i _ => l.length - (intOf i).toNat)
  case atStart => exact ⟨0, [], by omega, rfl, rfl, rfl, World.ownsRow_nil _ _ _ _, Below.refl _ _⟩
  case round =>
    obtain ⟨k, M, hk, rfl, rfl, HM, hown, hbl⟩ := hrel
    have hst := sum_take l k
    have hML : M.length ≤ 1000 := by
      have := mk_len (l.take k)
      rw [← HM.out] at this
      omega
    have hsz := hbl.size
    by_cases hlt : k < l.length
    · have hlt' : (k : Int) < (l.length : Int) := by omega
      have hsk := hok l[k] (List.getElem_mem hlt)
      have hbt := bsum_take l k hlt
      have htt := tsum_take l k hlt
      have hst2 := sum_take l (k + 1)
      obtain ⟨b, off, rfl, hbb, e0, e1, e2⟩ := hc k (l[k]).op (by simp [hlt])
      have hBc : ∀ {W : World} o, Below w.heap.size w W → W.cell? ⟨b, o, none⟩ = w.cell? ⟨b, o, none⟩ := fun o h => h.cell (p := ⟨b, o, none⟩) hbb
      have c0 := (hBc _ hbl).trans e0
      have c1 := (hBc _ hbl).trans e1
      have c2 := (hBc _ hbl).trans e2
      have HT : Hid (mkU 0 (uw (l.take (k + 1))) = M ++ mkU (bsum (l.take k)) (l[k]).u) := by
        show _ = _
        rw [take_uw' hlt, mkU_append, ← HM.out, base_uw, Nat.zero_add]
      have hMt : M.length = tsum (l.take k) := by rw [HM.out, mk_len]
      clear hc HM
      generalize l[k] = st at *
      have b1 : (bsum (l.take k) : Int) ≤ 1000 := by omega
      cases st with
      | keep m =>
        simp only [St.op, St.Ok, St.b, St.c] at c0 c1 c2 e0 e1 e2 hsk hbt htt
        have m1 : (m : Int) ≤ 1000 := by omega
        have HB : Hid (bsum (l.take (k + 1)) = bsum (l.take k) + m) := hbt
        have hMm : M.length + m ≤ 1000 := by omega
        have HTK : Hid (mkU 0 (uw (l.take (k + 1))) = M ++ (List.range m).map (fun j => .inl (bsum (l.take k) + j))) := by
          show _ = _
          rw [HT.out]; simp only [St.u, mkU_K]
        clear hst hst2 hbt htt HT hMt
        generalize bsum (l.take k) = B at *
        go_wp2_with fail
        go_loopw [3, 6] (fun d q w2 => ∃ j : Nat, j ≤ m ∧ q = .int .i64 (j : Int) ∧ w2.ownsRow w.heap.size 96 2 d (M ++ (List.range j).map (fun j => Sum.inl (B + j))).length (mcs (M ++ (List.range j).map (fun j => Sum.inl (B + j)))) ∧ Below w.heap.size w w2) (fun _ q _ => m - (intOf q).toNat)
        case atStart => exact ⟨0, by omega, rfl, by simpa using hown, hbl⟩
        case round =>
          obtain ⟨j, hj, rfl, hown2, hbl2⟩ := hrel
          clear c0 c1 c2 hown hbl
          have c0 := (hBc _ hbl2).trans e0
          have c1 := (hBc _ hbl2).trans e1
          have hsz2 := hbl2.size
          by_cases hjm : j < m
          · have hjm' : (j : Int) < (m : Int) := by omega
            have hll : (M ++ (List.range j).map (fun j => Sum.inl (B + j))).length ≤ 1000 := by rw [List.length_append, List.length_map, List.length_range]; omega
            have HS : Hid (M ++ (List.range (j + 1)).map (fun j => Sum.inl (B + j)) = (M ++ (List.range j).map (fun j => Sum.inl (B + j))) ++ [Sum.inl (B + j)]) := by
              show _ = _
              rw [List.range_succ, List.map_append, List.append_assoc]; rfl
            generalize M ++ (List.range j).map (fun j => Sum.inl (B + j)) = L at *
            obtain ⟨ao5, cp5, rfl⟩ := own_form hown2
            have hf : (B : Int) + (j : Int) = mF (.inl (B + j)) := by show _ = ((B + j : Nat) : Int); omega
            clear hBc e0 e1 e2
            go_wp2_with (at_builtin; refine wpList_append_lies _ rfl (.tmp 32) (.tmp 37) 93 rfl w.heap.size 96 i0 (.agg #[.int .i64 0, .int .i64 0]) 2 16 Try.underlying93 hin hz0 hz1 hz2 rfl (by decide) (.slice ao5 L.length cp5) L.length (mcs L) rfl (hown2.alloc _) ⟨_, 0, none⟩ 1 1 [.int .i64 ((B : Int) + (j : Int)), .int .i64 0] rfl rfl (many_new _ _ _) (two_one _ _) (by decide) (by unfold maxLen; omega) (by omega) (by simp; omega) _ rfl ?_; intro g4 c4 w4 ho4 hg4 _ _)
            have R4 := own_mark (m := .inl (B + j)) ho4 rfl hf rfl
            have B4 : Below w.heap.size w w4 := (hbl2.alloc hsz2 _).grown hg4 (by simp; omega) (fun k hk => (hown2.lt k hk).1)
            go_roundw
            case rel => exact ⟨j + 1, by omega, by go_num, by rw [HS.out]; exact R4, B4⟩
            case measure => simp [intOf]; omega
          · obtain rfl : j = m := by omega
            clear hBc e0 e2
            go_wp2_with fail
            go_roundw
            case rel => exact ⟨k + 1, _, by omega, by go_num, by rw [HB.out]; go_num, HTK.out.symm, hown2, hbl2⟩
            case measure => simp [intOf]; omega
      | rem m =>
        simp only [St.op, St.Ok, St.b, St.c] at c0 c1 c2 e0 e1 e2 hsk hbt htt
        have m1 : (m : Int) ≤ 1000 := by omega
        have HB : Hid (bsum (l.take (k + 1)) = bsum (l.take k) + m) := hbt
        have HTK : Hid (mkU 0 (uw (l.take (k + 1))) = M) := by
          show _ = _
          rw [HT.out]; simp only [St.u, mkU_R, List.append_nil]
        clear hst hst2 hbt htt HT hMt hBc e0 e1 e2
        generalize bsum (l.take k) = B at *
        go_wp2_with fail
        go_roundw
        case rel => exact ⟨k + 1, M, by omega, by go_num, by rw [HB.out]; go_num, HTK.out.symm, hown, hbl⟩
        case measure => simp [intOf]; omega
      | ins t =>
        simp only [St.op, St.Ok, St.b, St.c] at c0 c1 c2 e0 e1 e2 hsk hbt htt
        have h0 : 0 < cpl t := hsk.1
        have hts := size_cpl h0
        have hpl := pts_len (t := t) (by omega)
        have HB : Hid (bsum (l.take (k + 1)) = bsum (l.take k)) := by show _ = _; omega
        have hMm : M.length + (pts t).length ≤ 1000 := by omega
        have HTK : Hid (mkU 0 (uw (l.take (k + 1))) = M ++ (pts t).map .inr) := by
          show _ = _
          rw [HT.out]; simp only [St.u, mkU_I]
        have hPt := fun W => refPoints_ok t (cpl t).toNat W (by omega) (cpl_valid (by omega))
        have hpe : (cpl t).toNat = (pts t).length := by omega
        have hpd : ptL t (cpl t).toNat = pts t := rfl
        rw [hpd, hpe] at hPt
        have hp0 : 0 < (pts t).length := by omega
        clear hst hst2 hbt htt HT hMt hpl hpe hpd hts h0 hsk
        generalize bsum (l.take k) = B at *
        generalize pts t = P at *
        go_wp2_with fail
        refine (hPt _).mono ?_
        rintro e w1 ⟨u1, rfl, ho1, hb1⟩
        have hown1 := own_belowG hown hb1
        have hbl1 := hbl.trans (hb1.mono hsz)
        obtain ⟨po, pc, rfl⟩ := own_form ho1
        clear hPt hown hb1
        go_wp2_with fail
        go_loopw [3, 9] (fun d q w2 => ∃ j : Nat, j ≤ P.length ∧ q = .int .i64 (j : Int) ∧ w2.ownsRow w.heap.size 96 2 d (M ++ (P.take j).map Sum.inr).length (mcs (M ++ (P.take j).map Sum.inr)) ∧ Below w.heap.size w w2 ∧ w2.ownsRow wr.heap.size 3 1 (.slice po P.length pc) P.length (iv P)) (fun _ q _ => P.length - (intOf q).toNat)
        case atStart => exact ⟨0, by omega, rfl, by simpa using hown1, hbl1, ho1⟩
        case round =>
          obtain ⟨j, hj, rfl, hown2, hbl2, hP2⟩ := hrel
          clear c0 c1 c2 hown1 hbl1 ho1
          have c1 := (hBc _ hbl2).trans e1
          have hsz2 := hbl2.size
          by_cases hjm : j < P.length
          · have hjm' : (j : Int) < (P.length : Int) := by omega
            obtain ⟨po', pc', ep, _, hpz⟩ := rdp_own hP2
            simp at ep
            obtain ⟨rfl, rfl⟩ := ep
            obtain ⟨pb, pof, rfl, hpb, hpc⟩ := hpz hp0
            have cj := hpc j hjm
            have hll : (M ++ (P.take j).map (Sum.inr (α := Nat))).length ≤ 1000 := by rw [List.length_append, List.length_map, List.length_take]; omega
            have HS : Hid (M ++ (P.take (j + 1)).map (Sum.inr (α := Nat)) = (M ++ (P.take j).map Sum.inr) ++ [Sum.inr (P.getD j 0)]) := by
              show _ = _
              rw [take_snocI P j hjm, List.map_append, List.append_assoc]; rfl
            clear hpz hpc hBc e0 e1 e2
            generalize P.getD j 0 = z at *
            generalize M ++ (P.take j).map (Sum.inr (α := Nat)) = L at *
            have hap := own_apart hP2 hown2 (by decide)
            obtain ⟨ao5, cp5, rfl⟩ := own_form hown2
            go_wp2_with (at_builtin; refine wpList_append_lies _ rfl (.tmp 56) (.tmp 62) 93 rfl w.heap.size 96 i0 (.agg #[.int .i64 0, .int .i64 0]) 2 16 Try.underlying93 hin hz0 hz1 hz2 rfl (by decide) (.slice ao5 L.length cp5) L.length (mcs L) rfl (hown2.alloc _) ⟨_, 0, none⟩ 1 1 [.int .i64 (-1), .int .i64 z] rfl rfl (many_new _ _ _) (two_one _ _) (by decide) (by unfold maxLen; omega) (by omega) (by simp; omega) _ rfl ?_; intro g4 c4 w4 ho4 hg4 _ _)
            have R4 := own_mark (m := .inr z) ho4 rfl rfl rfl
            have B4 : Below w.heap.size w w4 := (hbl2.alloc hsz2 _).grown hg4 (by simp; omega) (fun k hk => (hown2.lt k hk).1)
            have P4 := (hP2.alloc (.cells #[.int .i64 (-1), .int .i64 z] 96)).kept hg4 hap
            go_roundw
            case rel => exact ⟨j + 1, by omega, by go_num, by rw [HS.out]; exact R4, B4, P4⟩
            case measure => simp [intOf]; omega
          · obtain rfl : j = P.length := by omega
            rw [List.take_length] at hown2
            clear hBc e0 e2
            go_wp2_with fail
            go_roundw
            case rel => exact ⟨k + 1, _, by omega, by go_num, by rw [HB.out], HTK.out.symm, hown2, hbl2⟩
            case measure => simp [intOf]; omega
    · have e : k = l.length := by omega
      subst e
      have HF : Hid (M = mkU 0 (uw l)) := by show _ = _; have := HM.out; rw [List.take_length] at this; exact this
      clear hc hok HM
      go_wp2_with fail
      go_ret
      exact ⟨_, rfl, by rw [← HF.out]; exact hown, hbl⟩
end Go.Proofs.Ytgabanndjiegdab
