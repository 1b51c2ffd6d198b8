/-
  The contracts of the closures of merged, of cmp.Or, and of merged.
-/
import Derived.Test.YtjimolafoihnpaaDoorMgF
import Derived.Deep.RegionWith
import Derived.Deep.DeepCutAuto
import Derived.Laws.EntriesVeiled
namespace Go.Proofs.YtjimolafoihnpaaDoor
open Go.ChangeShapes Go.WideShapes Go.ChangeAt Go.RowKit Go.PlainAid

/-- What all three have. -/
def svP (A X Y : List Atm) (u : Atm) : Bool := hasK A u && hasK X u && hasK Y u
/-- What stays of a side. -/
def stP (A X Y : List Atm) (u : Atm) : Bool := svP A X Y u || !hasK A u
/-- The first that is not 0. -/
def orI (a b : Int) : Int := if a = 0 then b else a
/-- How two pieces stand in a gap. -/
def sgn (turn : Int) (g h : List Atm) : Int := orI (Lib.compareBytes (txU g) (txU h)) turn
def prM (turn : Int) (g h : List Atm) : List Atm := if 0 < sgn turn g h then h ++ g else g ++ h
/-- Gap by gap. -/
def mgG (turn : Int) : List (List Atm) → List (List Atm) → List Atm → List Atm
  | g :: GX, h :: GY, S => prM turn g h ++ (S.head?.toList ++ mgG turn GX GY S.tail)
  | _, _, _ => []
def mgR (turn : Int) (A X Y : List Atm) : List Atm := mgG turn (gpG (svP A X Y) [] [] (X.filter (stP A X Y))) (gpG (svP A X Y) [] [] (Y.filter (stP A X Y))) (A.filter (svP A X Y))
theorem mgG_drop {turn : Int} {GX GY : List (List Atm)} {S : List Atm} {k : Nat} (hx : k < GX.length) (hy : k < GY.length) : mgG turn (GX.drop k) (GY.drop k) (S.drop k) = prM turn GX[k] GY[k] ++ (S[k]?.toList ++ mgG turn (GX.drop (k + 1)) (GY.drop (k + 1)) (S.drop (k + 1))) := by
  rw [List.drop_eq_getElem_cons hx, List.drop_eq_getElem_cons hy, mgG]
  simp [List.head?_drop]
theorem mgG_end (turn : Int) (GY : List (List Atm)) (S : List Atm) : mgG turn [] GY S = [] := by simp [mgG]

set_option maxRecDepth 20000 in
set_option maxHeartbeats 1000000 in
theorem merged1_any (p q r : Nat) (a x y : RwV) (A X Y : List Atm) (u : Atm) (w : World) (hA : IsRw w a A) (hX : IsRw w x X) (hY : IsRw w y Y) (bA : RwB w p a A.length) (bX : RwB w q x X.length) (bY : RwB w r y Y.length) (hu : AtK.Wf u.key) :
    Calls Tryd.prog 62 #[.agg #[.int .i64 u.c, .int .i64 u.q, .int .i64 u.n, .int .i32 u.z], .pointer (some ⟨p, 0, none⟩), .pointer (some ⟨q, 0, none⟩), .pointer (some ⟨r, 0, none⟩)] w fun e w' => e = .returned (.bool (svP A X Y u)) ∧ Below w.heap.size w w' := by
  have hb : Below w.heap.size w (w.alloc (.cells #[.int .i64 u.c, .int .i64 u.q, .int .i64 u.n, .int .i32 u.z] 136)) := (Below.refl _ w).alloc (Nat.le_refl _) _
  have hU : UB (w.alloc (.cells #[.int .i64 u.c, .int .i64 u.q, .int .i64 u.n, .int .i32 u.z] 136)) w.heap.size u := heap_alloc_new w _
  have h1 := hasR_any a A u _ (hA.below hb) hu
  have h2 := fun W (h : Below w.heap.size w W) => hasR_any x X u W (hX.below h) hu
  have h3 := fun W (h : Below w.heap.size w W) => hasR_any y Y u W (hY.below h) hu
  obtain ⟨c0, c1⟩ := (bA.below hb).cells
  obtain ⟨u0, u1, u2, u3⟩ := ub_cells hU
  go_enter Tryd.func62, Tryd.ntmps62
  cases e1 : hasK A u
  · rw [e1] at h1
    have HR : Hid (svP A X Y u = false) := by show _ = _; unfold svP; rw [e1]; rfl
    clear e1
    go_wp2_with fail
    refine h1.mono ?_
    rintro e w1 ⟨rfl, hb1⟩
    go_wp2_with fail
    go_ret
    exact ⟨ret_b HR.out.symm, chain hb hb1⟩
  · rw [e1] at h1
    have HQ : Hid (svP A X Y u = (hasK X u && hasK Y u)) := by show _ = _; unfold svP; rw [e1]; rfl
    go_wp2_with fail
    refine h1.mono ?_
    rintro e w1 ⟨rfl, hb1⟩
    have hB := chain hb hb1
    have hU1 := hU.below hb1
    obtain ⟨d0, d1⟩ := (bX.below hB).cells
    obtain ⟨v0, v1, v2, v3⟩ := ub_cells hU1
    have h2 := h2 _ hB
    clear h1 c0 c1 u0 u1 u2 u3 e1
    cases e2 : hasK X u
    · rw [e2] at h2
      have HR : Hid (svP A X Y u = false) := by show _ = _; rw [HQ.out, e2]; rfl
      clear e2 HQ
      go_wp2_with fail
      refine h2.mono ?_
      rintro e w2 ⟨rfl, hb2⟩
      go_wp2_with fail
      go_ret
      exact ⟨ret_b HR.out.symm, chain hB hb2⟩
    · rw [e2] at h2
      have HR : Hid (svP A X Y u = hasK Y u) := by show _ = _; rw [HQ.out, e2]; rfl
      go_wp2_with fail
      refine h2.mono ?_
      rintro e w2 ⟨rfl, hb2⟩
      have hB2 := chain hB hb2
      obtain ⟨k0, k1⟩ := (bY.below hB2).cells
      obtain ⟨l0, l1, l2, l3⟩ := ub_cells (hU1.below hb2)
      have h3 := h3 _ hB2
      clear h2 d0 d1 v0 v1 v2 v3 e2 HQ
      generalize hasK Y u = bv at *
      go_wp2_with fail
      refine h3.mono ?_
      rintro e w3 ⟨rfl, hb3⟩
      go_wp2_with fail
      go_ret
      exact ⟨ret_b HR.out.symm, chain hB2 hb3⟩

/-- The cell of the closure survives. -/
def FB (W : World) (f p q r : Nat) : Prop := W.heap[f]? = some (.cells #[.func (.func 62) #[] #[.pointer (some ⟨p, 0, none⟩), .pointer (some ⟨q, 0, none⟩), .pointer (some ⟨r, 0, none⟩)]] 138)
theorem FB.below {W W' : World} {f p q r : Nat} (h : FB W f p q r) (hb : Below W.heap.size W W') : FB W' f p q r := (hb.block f (heap_lt h)).trans h
theorem FB.cell {W : World} {f p q r : Nat} (h : FB W f p q r) : W.cell? ⟨f, 0, none⟩ = some (.func (.func 62) #[] #[.pointer (some ⟨p, 0, none⟩), .pointer (some ⟨q, 0, none⟩), .pointer (some ⟨r, 0, none⟩)]) := by
  unfold World.cell?; rw [h]; rfl

set_option maxRecDepth 20000 in
set_option maxHeartbeats 1000000 in
theorem merged2_any (f p q r : Nat) (a x y : RwV) (A X Y : List Atm) (u : Atm) (w : World) (hA : IsRw w a A) (hX : IsRw w x X) (hY : IsRw w y Y) (bA : RwB w p a A.length) (bX : RwB w q x X.length) (bY : RwB w r y Y.length) (hf : FB w f p q r) (hu : AtK.Wf u.key) :
    Calls Tryd.prog 63 #[.agg #[.int .i64 u.c, .int .i64 u.q, .int .i64 u.n, .int .i32 u.z], .pointer (some ⟨f, 0, none⟩), .pointer (some ⟨p, 0, none⟩)] w fun e w' => e = .returned (.bool (stP A X Y u)) ∧ Below w.heap.size w w' := by
  have hb : Below w.heap.size w (w.alloc (.cells #[.int .i64 u.c, .int .i64 u.q, .int .i64 u.n, .int .i32 u.z] 136)) := (Below.refl _ w).alloc (Nat.le_refl _) _
  have hU : UB (w.alloc (.cells #[.int .i64 u.c, .int .i64 u.q, .int .i64 u.n, .int .i32 u.z] 136)) w.heap.size u := heap_alloc_new w _
  have h1 := merged1_any p q r a x y A X Y u _ (hA.below hb) (hX.below hb) (hY.below hb) (bA.below hb) (bX.below hb) (bY.below hb) hu
  have h2 := fun W (h : Below w.heap.size w W) => hasR_any a A u W (hA.below h) hu
  have c0 := (hf.below hb).cell
  obtain ⟨u0, u1, u2, u3⟩ := ub_cells hU
  unfold stP
  go_enter Tryd.func63, Tryd.ntmps63
  cases e1 : svP A X Y u
  · rw [e1] at h1
    go_wp2_with fail
    refine h1.mono ?_
    rintro e w1 ⟨rfl, hb1⟩
    have hB := chain hb hb1
    obtain ⟨d0, d1⟩ := (bA.below hB).cells
    obtain ⟨v0, v1, v2, v3⟩ := ub_cells (hU.below hb1)
    clear h1 c0 u0 u1 u2 u3 e1
    go_wp2_with fail
    refine (h2 _ hB).mono ?_
    rintro e w2 ⟨rfl, hb2⟩
    go_wp2_with fail
    go_ret
    exact ⟨by simp, chain hB hb2⟩
  · rw [e1] at h1
    go_wp2_with fail
    refine h1.mono ?_
    rintro e w1 ⟨rfl, hb1⟩
    go_wp2_with fail
    go_ret
    exact ⟨rfl, chain hb hb1⟩

set_option maxRecDepth 20000 in
set_option maxHeartbeats 1000000 in
theorem cmpOr_any (b : Nat) (x y : Int) (w : World) (h0 : w.cell? ⟨b, 0, none⟩ = some (.int .i64 x)) (h1 : w.cell? ⟨b, 1, none⟩ = some (.int .i64 y)) :
    Calls Tryd.prog 66 #[.slice (some ⟨b, 0, none⟩) 2 2] w fun e w' => e = .returned (.int .i64 (orI x y)) ∧ Below w.heap.size w w' := by
  unfold orI
  by_cases hx : x = 0
  · subst hx
    rw [if_pos rfl]
    by_cases hy : y = 0
    · subst hy
      go_enter Tryd.func66, Tryd.ntmps66
      go_wp2_with fail
      go_rounds 3
      go_ret
      exact ⟨rfl, Below.refl _ _⟩
    · have hy' : (y != 0) = true := by simpa using hy
      go_enter Tryd.func66, Tryd.ntmps66
      go_wp2_with fail
      go_rounds 3
      go_ret
      exact ⟨rfl, Below.refl _ _⟩
  · rw [if_neg hx]
    have hx' : (x != 0) = true := by simpa using hx
    go_enter Tryd.func66, Tryd.ntmps66
    go_wp2_with fail
    go_rounds 3
    go_ret
    exact ⟨rfl, Below.refl _ _⟩
end Go.Proofs.YtjimolafoihnpaaDoor

/-
  The contract of merged.
-/
namespace Go.Proofs.YtjimolafoihnpaaDoor
open Go.ChangeShapes Go.WideShapes Go.ChangeAt Go.RowKit Go.PlainAid

theorem mk_tl (l : List UInt8) : (mk l).data.toList = l := by simp [mk]
theorem two_cells (W : World) (x y : Int) : (W.alloc (.cells #[.int .i64 x, .int .i64 y] 3)).cell? ⟨W.heap.size, 0, none⟩ = some (.int .i64 x) ∧ (W.alloc (.cells #[.int .i64 x, .int .i64 y] 3)).cell? ⟨W.heap.size, 1, none⟩ = some (.int .i64 y) := by
  have h := heap_alloc_new W (.cells #[.int .i64 x, .int .i64 y] 3)
  refine ⟨?_, ?_⟩ <;> (unfold World.cell?; rw [h]; rfl)

set_option maxRecDepth 20000 in
set_option maxHeartbeats 2000000 in
theorem merged_any (a x y : RwV) (A X Y : List Atm) (turn : Int) (w : World) (hA : IsRw w a A) (hX : IsRw w x X) (hY : IsRw w y Y) (lA : A.length ≤ 1000) (lX : X.length ≤ 1000) (lY : Y.length ≤ 1000) (zX : ∀ u ∈ X, szI u.z ≠ 0) (zY : ∀ u ∈ Y, szI u.z ≠ 0)
    (hbal : (gpG (svP A X Y) [] [] (X.filter (stP A X Y))).length = (gpG (svP A X Y) [] [] (Y.filter (stP A X Y))).length) (hRl : (mgR turn A X Y).length ≤ 100000) :
    Calls Tryd.prog 40 #[.agg #[.slice a.ao A.length a.cp, .map (some a.b)], .agg #[.slice x.ao X.length x.cp, .map (some x.b)], .agg #[.slice y.ao Y.length y.cp, .map (some y.b)], .int .i64 turn] w fun e w' => ∃ u, e = .returned u ∧ w'.ownsRow w.heap.size 136 4 u (mgR turn A X Y).length (ucs (mgR turn A X Y)) ∧ Below w.heap.size w w' := by
  obtain ⟨q3, bA, bX, bY⟩ := boxes3 a x y A.length X.length Y.length w
  have hmf : ∀ (fn : Fn) (first cap : Array Value) (w : World), (Instr.makeFunc fn first cap).run Tryd.prog w = .ok (.func fn first cap) w := fun _ _ _ _ => rfl
  have s3 : (((w.alloc (.cells #[.slice a.ao A.length a.cp, .map (some a.b)] 85)).alloc (.cells #[.slice x.ao X.length x.cp, .map (some x.b)] 85)).alloc (.cells #[.slice y.ao Y.length y.cp, .map (some y.b)] 85)).heap.size = w.heap.size + 1 + 1 + 1 := by simp
  have q4 := fun o => (Below.refl _ (((w.alloc (.cells #[.slice a.ao A.length a.cp, .map (some a.b)] 85)).alloc (.cells #[.slice x.ao X.length x.cp, .map (some x.b)] 85)).alloc (.cells #[.slice y.ao Y.length y.cp, .map (some y.b)] 85))).alloc (Nat.le_refl _) o
  have n4 := heap_alloc_new (((w.alloc (.cells #[.slice a.ao A.length a.cp, .map (some a.b)] 85)).alloc (.cells #[.slice x.ao X.length x.cp, .map (some x.b)] 85)).alloc (.cells #[.slice y.ao Y.length y.cp, .map (some y.b)] 85)) (.cells #[.func (.func 62) #[] #[.pointer (some ⟨w.heap.size, 0, none⟩), .pointer (some ⟨w.heap.size + 1, 0, none⟩), .pointer (some ⟨w.heap.size + 1 + 1, 0, none⟩)]] 138)
  rw [s3] at n4
  have q4 := q4 (.cells #[.func (.func 62) #[] #[.pointer (some ⟨w.heap.size, 0, none⟩), .pointer (some ⟨w.heap.size + 1, 0, none⟩), .pointer (some ⟨w.heap.size + 1 + 1, 0, none⟩)]] 138)
  replace bA := bA.below q4
  replace bX := bX.below q4
  replace bY := bY.below q4
  have hB := chain q3 q4
  have hF : FB _ (w.heap.size + 1 + 1 + 1) w.heap.size (w.heap.size + 1) (w.heap.size + 1 + 1) := n4
  clear q3 q4 s3 n4
  go_enter Tryd.func40, Tryd.ntmps40
  obtain ⟨c0, c1⟩ := bA.cells
  have c2 := hF.cell
  go_wp2_with fail
  generalize World.alloc (World.alloc (World.alloc (World.alloc _ _) _) _) _ = w4 at *
  have wA := hA.mp.1
  have wX := hX.mp.1
  have wY := hY.mp.1
  replace hA := hA.below hB
  replace hX := hX.below hB
  replace hY := hY.below hB
  have pS : ∀ W, Below w4.heap.size w4 W → ∀ l : List Atm, (∀ u ∈ l, AtK.Wf u.key) → Pr W 62 #[] #[.pointer (some ⟨w.heap.size, 0, none⟩), .pointer (some ⟨w.heap.size + 1, 0, none⟩), .pointer (some ⟨w.heap.size + 1 + 1, 0, none⟩)] l (svP A X Y) := fun W hW l hl =>
    ⟨fun _ _ => by kernel_rfl, fun W' hb u hu => merged1_any _ _ _ a x y A X Y u W' ((hA.below hW).below hb) ((hX.below hW).below hb) ((hY.below hW).below hb) ((bA.below hW).below hb) ((bX.below hW).below hb) ((bY.below hW).below hb) (hl u hu)⟩
  have pT : ∀ W, Below w4.heap.size w4 W → ∀ l : List Atm, (∀ u ∈ l, AtK.Wf u.key) → Pr W 63 #[] #[.pointer (some ⟨w.heap.size + 1 + 1 + 1, 0, none⟩), .pointer (some ⟨w.heap.size, 0, none⟩)] l (stP A X Y) := fun W hW l hl =>
    ⟨fun _ _ => by kernel_rfl, fun W' hb u hu => merged2_any _ _ _ _ a x y A X Y u W' ((hA.below hW).below hb) ((hX.below hW).below hb) ((hY.below hW).below hb) ((bA.below hW).below hb) ((bX.below hW).below hb) ((bY.below hW).below hb) ((hF.below hW).below hb) (hl u hu)⟩
  have cS := those_any _ _ _ _ A _ w4 hA.rd (pS w4 (Below.refl _ _) A wA) (by omega)
  have cX := fun W (hW : Below w4.heap.size w4 W) => those_any _ _ _ _ X _ W (hX.rd.below hW) (pT W hW X wX) (by omega)
  have cY := fun W (hW : Below w4.heap.size w4 W) => those_any _ _ _ _ Y _ W (hY.rd.below hW) (pT W hW Y wY) (by omega)
  have gX := fun u W (hW : Below w4.heap.size w4 W) (hu : RdK W u (X.filter (stP A X Y))) => gaps_any _ _ _ u (X.filter (stP A X Y)) _ W hu (pS W hW _ (fun z hz => wX z (List.mem_filter.1 hz).1)) (Nat.le_trans (List.length_filter_le ..) (by omega))
  have gY := fun u W (hW : Below w4.heap.size w4 W) (hu : RdK W u (Y.filter (stP A X Y))) => gaps_any _ _ _ u (Y.filter (stP A X Y)) _ W hu (pS W hW _ (fun z hz => wY z (List.mem_filter.1 hz).1)) (Nat.le_trans (List.length_filter_le ..) (by omega))
  have mX : ∀ g ∈ gpG (svP A X Y) [] [] (X.filter (stP A X Y)), (∀ u ∈ g, szI u.z ≠ 0) ∧ g.length ≤ 1000 := fun g hg => ⟨fun u hu => zX u (List.mem_filter.1 (gpG_mem hg u hu)).1, Nat.le_trans (gpG_small hg) (Nat.le_trans (List.length_filter_le ..) lX)⟩
  have mY : ∀ g ∈ gpG (svP A X Y) [] [] (Y.filter (stP A X Y)), (∀ u ∈ g, szI u.z ≠ 0) ∧ g.length ≤ 1000 := fun g hg => ⟨fun u hu => zY u (List.mem_filter.1 (gpG_mem hg u hu)).1, Nat.le_trans (gpG_small hg) (Nat.le_trans (List.length_filter_le ..) lY)⟩
  have lGX : (gpG (svP A X Y) [] [] (X.filter (stP A X Y))).length ≤ 2000 := by
    rw [gpG_len]
    have h1 := List.length_filter_le (svP A X Y) (X.filter (stP A X Y))
    have h2 := List.length_filter_le (stP A X Y) X
    simp only [List.length_nil]
    omega
  have lS : (A.filter (svP A X Y)).length ≤ 1000 := Nat.le_trans (List.length_filter_le ..) lA
  have HR : Hid (mgR turn A X Y = mgG turn (gpG (svP A X Y) [] [] (X.filter (stP A X Y))) (gpG (svP A X Y) [] [] (Y.filter (stP A X Y))) (A.filter (svP A X Y))) := rfl
  clear pS pT c0 c1 c2 hmf wA wX wY zX zY hA hX hY
  generalize gpG (svP A X Y) [] [] (X.filter (stP A X Y)) = GX at *
  generalize gpG (svP A X Y) [] [] (Y.filter (stP A X Y)) = GY at *
  generalize X.filter (stP A X Y) = FX at *
  generalize Y.filter (stP A X Y) = FY at *
  generalize A.filter (svP A X Y) = S at *
  obtain ⟨R, HRd⟩ : ∃ R, Hid (mgR turn A X Y = R) := ⟨_, rfl⟩
  rw [HRd.out] at HR hRl
  have HBal : Hid (GX.length = GY.length) := hbal
  clear hbal
  have c2 := hF.cell
  refine cS.mono ?_
  rintro e w5 ⟨uS, rfl, hoS, q5⟩
  have rS := rdk_own hoS
  obtain ⟨aS, kS, rfl⟩ := own_form hoS
  have hs5 := q5.size
  obtain ⟨x0, x1⟩ := (bX.below q5).cells
  have f0 := (hF.below q5).cell
  clear cS hoS c2
  go_upto_region 4 with fail
  go_cut [12] (fun u wx => RdG wx u GX ∧ Below w5.heap.size w5 wx)
  case first =>
    go_region_with (first | (go_at_call 64; refine (cX _ (chain q5 (Below.drew (Below.refl _ w5)))).mono ?_; rintro e wa ⟨ua, rfl, hoa, qa⟩; have ra := rdk_own hoa; obtain ⟨aa, ka, rfl⟩ := own_form hoa; have hqa : Below w5.heap.size w5 wa := chain (Below.drew (Below.refl _ w5)) qa; have fa := (hF.below (chain q5 hqa)).cell) | (go_at_call 65; refine (gX _ _ (chain q5 hqa) ra).mono ?_; rintro e wb ⟨ub, rfl, hgb, qb⟩; obtain ⟨ab, kb, eb, -⟩ := id hgb; subst eb))
    all_goals
      go_wp2_with fail
      go_meet
    all_goals exact ⟨hgb, chain hqa qb⟩
  case rest =>
    obtain ⟨hGX, q6⟩ := hcut
    obtain ⟨agx, kgx, egx, -⟩ := id hGX
    subst egx
    replace rS := rS.below q6
    have q46 := chain q5 q6
    clear cX gX x0 x1 f0
    obtain ⟨y0, y1⟩ := (bY.below q46).cells
    have f0 := (hF.below q46).cell
    obtain ⟨w6, rfl⟩ : ∃ z, z = wc := ⟨_, rfl⟩
    go_upto_region 5 with fail
    go_cut [13] (fun u wx => RdG wx u GY ∧ Below w6.heap.size w6 wx)
    case first =>
      go_region_with (first | (go_at_call 64; refine (cY _ (chain q46 (Below.drew (Below.refl _ w6)))).mono ?_; rintro e wa ⟨ua, rfl, hoa, qa⟩; have ra := rdk_own hoa; obtain ⟨aa, ka, rfl⟩ := own_form hoa; have hqa : Below w6.heap.size w6 wa := chain (Below.drew (Below.refl _ w6)) qa; have fa := (hF.below (chain q46 hqa)).cell) | (go_at_call 65; refine (gY _ _ (chain q46 hqa) ra).mono ?_; rintro e wb ⟨ub, rfl, hgb, qb⟩; obtain ⟨ab, kb, eb, -⟩ := id hgb; subst eb))
      all_goals
        go_wp2_with fail
        go_meet
      all_goals exact ⟨hgb, chain hqa qb⟩
    case rest =>
      obtain ⟨hGY, q7⟩ := hcut
      obtain ⟨agy, kgy, egy, -⟩ := id hGY
      subst egy
      replace rS := rS.below q7
      replace hGX := hGX.below q7
      replace hB := chain hB (chain q46 q7)
      clear cY gY y0 y1 f0 q46 q7 q6 q5 hF bA bX bY hs5
      obtain ⟨w7, rfl⟩ : ∃ z, z = wc := ⟨_, rfl⟩
      have h0 : Hid ([] ++ mgG turn (GX.drop 0) (GY.drop 0) (S.drop 0) = R) := by show _ = _; rw [HR.out]; simp
      clear HR
      go_wp2_with fail
      go_loopw [14, 38] (fun u i wr => ∃ (k : Nat) (O : List Atm), k ≤ GX.length ∧ i = .int .i64 (k : Int) ∧ Hid (O ++ mgG turn (GX.drop k) (GY.drop k) (S.drop k) = R) ∧ wr.ownsRow w7.heap.size 136 4 u O.length (ucs O) ∧ Below w7.heap.size w7 wr) (fun _ i _ => GX.length - (Go.RowKit.intOf i).toNat)
      case atStart => exact ⟨0, [], Nat.zero_le _, rfl, h0, World.ownsRow_nil _ _ _ _, Below.refl _ _⟩
      case round =>
        obtain ⟨k, O, hk, rfl, hO, ho, hb⟩ := hrel
        clear h0
        obtain ⟨aO, kO, rfl⟩ := own_form ho
        by_cases hlt : k < GX.length
        · have hlt' : (k : Int) < (GX.length : Int) := by omega
          have hlt2 : k < GY.length := by rw [← HBal.out]; exact hlt
          have hlt2' : (k : Int) < (GY.length : Int) := by omega
          have hgx : GX[k]? = some GX[k] := by simp [hlt]
          have hgy : GY[k]? = some GY[k] := by simp [hlt2]
          obtain ⟨b1, o1, u1, rfl, hb1, e1, r1⟩ := rdg_at hGX hgx
          obtain ⟨b2, o2, u2, rfl, hb2, e2, r2⟩ := rdg_at hGY hgy
          have p1 : ∀ s : Beh wr, s.it.cell? ⟨b1, o1 + k, none⟩ = some u1 := fun s => ((chain hb s.h).cell (p := ⟨b1, o1 + k, none⟩) hb1).trans e1
          have p2 : ∀ s : Beh wr, s.it.cell? ⟨b2, o2 + k, none⟩ = some u2 := fun s => ((chain hb s.h).cell (p := ⟨b2, o2 + k, none⟩) hb2).trans e2
          have hOo := hO.out
          rw [mgG_drop hlt hlt2] at hOo
          obtain ⟨m1, m2⟩ := mX GX[k] (by simp)
          obtain ⟨n1, n2⟩ := mY GY[k] (by simp)
          generalize GX[k] = g at *
          generalize GY[k] = h at *
          obtain ⟨ag, cg, eg, -⟩ := id r1
          subst eg
          obtain ⟨ah, ch, eh, -⟩ := id r2
          subst eh
          have hle : O.length + (g.length + h.length) ≤ 100000 := by
            have := congrArg List.length hOo
            simp only [List.length_append] at this
            have hp : (prM turn g h).length = g.length + h.length := by unfold prM; split <;> simp; omega
            omega
          have cT1 := fun W (hW : Below w7.heap.size w7 W) => textOf_any (.slice ag g.length cg) g W (r1.below hW) m1 (by omega)
          have cT2 := fun W (hW : Below w7.heap.size w7 W) => textOf_any (.slice ah h.length ch) h W (r2.below hW) n1 (by omega)
          have cC := fun W => strCompare_any (mk (txU g)) (mk (txU h)) W
          simp only [mk_tl] at cC
          clear hO e1 e2 hgx hgy m1 n1 mX mY hGX hGY
          go_upto_region 10 with fail
          refine wp_region_beh (by kernel_rfl) (by kernel_rfl) ?_
          repeat (go_big_quiet_step (fail))
          refine wpQuiet_nil ?_
          intro wq hw'
          have hwq := Beh.out hw'
          clear hw' p1 p2
          go_wp2_with fail
          refine (cT1 _ (chain hb hwq)).mono ?_
          rintro e wt1 ⟨rfl, t1⟩
          have hB9 := chain hwq t1
          clear cT1 t1 hwq
          go_wp2_with fail
          refine (cT2 _ (chain hb hB9)).mono ?_
          rintro e wt2 ⟨rfl, t2⟩
          replace hB9 := chain hB9 t2
          clear cT2 t2
          go_wp2_with fail
          refine (cC _).mono ?_
          rintro e wt3 ⟨rfl, t3⟩
          replace hB9 := chain hB9 t3
          clear cC t3
          have hsg : orI (Lib.compareBytes (txU g) (txU h)) turn = sgn turn g h := rfl
          generalize Lib.compareBytes (txU g) (txU h) = z at *
          obtain ⟨i1, i2⟩ := two_cells wt3 z turn
          have cO := cmpOr_any _ z turn _ i1 i2
          rw [hsg] at cO
          have hB9a := chain hB9 ((Below.refl _ wt3).alloc (Nat.le_refl _) (.cells #[.int .i64 z, .int .i64 turn] 3))
          clear i1 i2 hsg hB9
          go_wp2_with fail
          refine cO.mono ?_
          rintro e wt4 ⟨rfl, t4⟩
          have hB9 := chain hB9a t4
          have hb9 := chain hb hB9
          have ho9 := own_belowG ho hB9
          have hs9 := hb9.size
          have r19 := r1.below hb9
          have r29 := r2.below hb9
          clear cO t4 hB9a hB9 ho hb
          by_cases c : 0 < sgn turn g h
          · by_cases hsl : k < S.length
            · have hsl' : (k : Int) < (S.length : Int) := by omega
              obtain ⟨sx, hsx⟩ : ∃ sx, S[k]? = some sx := ⟨S[k], by simp [hsl]⟩
              obtain ⟨bs, os, rfl, -⟩ := rdk_at rS hsx
              have HE : Hid (O ++ h ++ g ++ [sx] ++ mgG turn (GX.drop (k + 1)) (GY.drop (k + 1)) (S.drop (k + 1)) = R) := by show _ = _; rw [← hOo]; unfold prM; rw [if_pos c]; simp [hsx]
              clear hOo
              go_wp2_with (first | (at_builtin; refine wpList_app_units _ rfl (.tmp 60) (.tmp 61) rfl w7.heap.size (.slice aO O.length kO) _ O h rfl rfl ho9 hs9 r29 (by omega) ?_; intro v10 w10 ho10 hg10; have hb10 := hb9.grown hg10 hs9 (fun k hk => (ho9.lt k hk).1); obtain ⟨O1, HO1⟩ : ∃ O1, Hid (O ++ h = O1) := ⟨_, rfl⟩; rw [HO1.out] at ho10; have HL1 : Hid (O1.length = O.length + h.length) := (by show _ = _; rw [← HO1.out]; simp); obtain ⟨a10, k10, rfl⟩ := own_form ho10; have hs10 := hb10.size; have r110 := r1.below hb10) | (at_builtin; refine wpList_app_units _ rfl (.tmp 62) (.tmp 63) rfl w7.heap.size _ _ O1 g rfl rfl ho10 hs10 r110 (by have := HL1.out; omega) ?_; intro v11 w11 ho11 hg11; have hb11 := hb10.grown hg11 hs10 (fun k hk => (ho10.lt k hk).1); obtain ⟨O2, HO2⟩ : ∃ O2, Hid (O1 ++ g = O2) := ⟨_, rfl⟩; rw [HO2.out] at ho11; have HL2 : Hid (O2.length = O1.length + g.length) := (by show _ = _; rw [← HO2.out]; simp); obtain ⟨a11, k11, rfl⟩ := own_form ho11; have hs11 := hb11.size; obtain ⟨_, _, es, -, z0, z1, z2, z3⟩ := rdk_at (rS.below hb11) hsx; cases es) | (at_builtin; refine wpList_app_units _ rfl (.tmp 69) (.tmp 74) rfl w7.heap.size _ _ O2 [sx] rfl rfl (ho11.alloc _) (by simp; omega) (rdk_new w11 sx) (by have := HL1.out; have := HL2.out; simp; omega) ?_; intro v12 w12 ho12 hg12; have hb12 := (hb11.alloc hs11 _).grown hg12 (by simp; omega) (fun k hk => (ho11.lt k hk).1); obtain ⟨O3, HO3⟩ : ∃ O3, Hid (O2 ++ [sx] = O3) := ⟨_, rfl⟩; rw [HO3.out] at ho12; obtain ⟨a12, k12, rfl⟩ := own_form ho12))
              have HE3 : Hid (O3 ++ mgG turn (GX.drop (k + 1)) (GY.drop (k + 1)) (S.drop (k + 1)) = R) := by show _ = _; rw [← HO3.out, ← HO2.out, ← HO1.out]; exact HE.out
              refine ⟨⟨k + 1, O3, by omega, by go_num, HE3, ho12, hb12⟩, ?_⟩
              simp [Go.RowKit.intOf]
              omega
            · have hsl' : ¬ (k : Int) < (S.length : Int) := by omega
              have hsx : S[k]? = none := List.getElem?_eq_none (by omega)
              have HE : Hid (O ++ h ++ g ++ mgG turn (GX.drop (k + 1)) (GY.drop (k + 1)) (S.drop (k + 1)) = R) := by show _ = _; rw [← hOo]; unfold prM; rw [if_pos c]; simp [hsx]
              clear hOo
              go_wp2_with (first | (at_builtin; refine wpList_app_units _ rfl (.tmp 60) (.tmp 61) rfl w7.heap.size (.slice aO O.length kO) _ O h rfl rfl ho9 hs9 r29 (by omega) ?_; intro v10 w10 ho10 hg10; have hb10 := hb9.grown hg10 hs9 (fun k hk => (ho9.lt k hk).1); obtain ⟨O1, HO1⟩ : ∃ O1, Hid (O ++ h = O1) := ⟨_, rfl⟩; rw [HO1.out] at ho10; have HL1 : Hid (O1.length = O.length + h.length) := (by show _ = _; rw [← HO1.out]; simp); obtain ⟨a10, k10, rfl⟩ := own_form ho10; have hs10 := hb10.size; have r110 := r1.below hb10) | (at_builtin; refine wpList_app_units _ rfl (.tmp 62) (.tmp 63) rfl w7.heap.size _ _ O1 g rfl rfl ho10 hs10 r110 (by have := HL1.out; omega) ?_; intro v11 w11 ho11 hg11; have hb11 := hb10.grown hg11 hs10 (fun k hk => (ho10.lt k hk).1); obtain ⟨O2, HO2⟩ : ∃ O2, Hid (O1 ++ g = O2) := ⟨_, rfl⟩; rw [HO2.out] at ho11; have HL2 : Hid (O2.length = O1.length + g.length) := (by show _ = _; rw [← HO2.out]; simp); obtain ⟨a11, k11, rfl⟩ := own_form ho11; have hs11 := hb11.size))
              have HE3 : Hid (O2 ++ mgG turn (GX.drop (k + 1)) (GY.drop (k + 1)) (S.drop (k + 1)) = R) := by show _ = _; rw [← HO2.out, ← HO1.out]; exact HE.out
              refine ⟨⟨k + 1, O2, by omega, by go_num, HE3, ho11, hb11⟩, ?_⟩
              simp [Go.RowKit.intOf]
              omega
          · by_cases hsl : k < S.length
            · have hsl' : (k : Int) < (S.length : Int) := by omega
              obtain ⟨sx, hsx⟩ : ∃ sx, S[k]? = some sx := ⟨S[k], by simp [hsl]⟩
              obtain ⟨bs, os, rfl, -⟩ := rdk_at rS hsx
              have HE : Hid (O ++ g ++ h ++ [sx] ++ mgG turn (GX.drop (k + 1)) (GY.drop (k + 1)) (S.drop (k + 1)) = R) := by show _ = _; rw [← hOo]; unfold prM; rw [if_neg c]; simp [hsx]
              clear hOo
              go_wp2_with (first | (at_builtin; refine wpList_app_units _ rfl (.tmp 60) (.tmp 61) rfl w7.heap.size (.slice aO O.length kO) _ O g rfl rfl ho9 hs9 r19 (by omega) ?_; intro v10 w10 ho10 hg10; have hb10 := hb9.grown hg10 hs9 (fun k hk => (ho9.lt k hk).1); obtain ⟨O1, HO1⟩ : ∃ O1, Hid (O ++ g = O1) := ⟨_, rfl⟩; rw [HO1.out] at ho10; have HL1 : Hid (O1.length = O.length + g.length) := (by show _ = _; rw [← HO1.out]; simp); obtain ⟨a10, k10, rfl⟩ := own_form ho10; have hs10 := hb10.size; have r210 := r2.below hb10) | (at_builtin; refine wpList_app_units _ rfl (.tmp 62) (.tmp 63) rfl w7.heap.size _ _ O1 h rfl rfl ho10 hs10 r210 (by have := HL1.out; omega) ?_; intro v11 w11 ho11 hg11; have hb11 := hb10.grown hg11 hs10 (fun k hk => (ho10.lt k hk).1); obtain ⟨O2, HO2⟩ : ∃ O2, Hid (O1 ++ h = O2) := ⟨_, rfl⟩; rw [HO2.out] at ho11; have HL2 : Hid (O2.length = O1.length + h.length) := (by show _ = _; rw [← HO2.out]; simp); obtain ⟨a11, k11, rfl⟩ := own_form ho11; have hs11 := hb11.size; obtain ⟨_, _, es, -, z0, z1, z2, z3⟩ := rdk_at (rS.below hb11) hsx; cases es) | (at_builtin; refine wpList_app_units _ rfl (.tmp 69) (.tmp 74) rfl w7.heap.size _ _ O2 [sx] rfl rfl (ho11.alloc _) (by simp; omega) (rdk_new w11 sx) (by have := HL1.out; have := HL2.out; simp; omega) ?_; intro v12 w12 ho12 hg12; have hb12 := (hb11.alloc hs11 _).grown hg12 (by simp; omega) (fun k hk => (ho11.lt k hk).1); obtain ⟨O3, HO3⟩ : ∃ O3, Hid (O2 ++ [sx] = O3) := ⟨_, rfl⟩; rw [HO3.out] at ho12; obtain ⟨a12, k12, rfl⟩ := own_form ho12))
              have HE3 : Hid (O3 ++ mgG turn (GX.drop (k + 1)) (GY.drop (k + 1)) (S.drop (k + 1)) = R) := by show _ = _; rw [← HO3.out, ← HO2.out, ← HO1.out]; exact HE.out
              refine ⟨⟨k + 1, O3, by omega, by go_num, HE3, ho12, hb12⟩, ?_⟩
              simp [Go.RowKit.intOf]
              omega
            · have hsl' : ¬ (k : Int) < (S.length : Int) := by omega
              have hsx : S[k]? = none := List.getElem?_eq_none (by omega)
              have HE : Hid (O ++ g ++ h ++ mgG turn (GX.drop (k + 1)) (GY.drop (k + 1)) (S.drop (k + 1)) = R) := by show _ = _; rw [← hOo]; unfold prM; rw [if_neg c]; simp [hsx]
              clear hOo
              go_wp2_with (first | (at_builtin; refine wpList_app_units _ rfl (.tmp 60) (.tmp 61) rfl w7.heap.size (.slice aO O.length kO) _ O g rfl rfl ho9 hs9 r19 (by omega) ?_; intro v10 w10 ho10 hg10; have hb10 := hb9.grown hg10 hs9 (fun k hk => (ho9.lt k hk).1); obtain ⟨O1, HO1⟩ : ∃ O1, Hid (O ++ g = O1) := ⟨_, rfl⟩; rw [HO1.out] at ho10; have HL1 : Hid (O1.length = O.length + g.length) := (by show _ = _; rw [← HO1.out]; simp); obtain ⟨a10, k10, rfl⟩ := own_form ho10; have hs10 := hb10.size; have r210 := r2.below hb10) | (at_builtin; refine wpList_app_units _ rfl (.tmp 62) (.tmp 63) rfl w7.heap.size _ _ O1 h rfl rfl ho10 hs10 r210 (by have := HL1.out; omega) ?_; intro v11 w11 ho11 hg11; have hb11 := hb10.grown hg11 hs10 (fun k hk => (ho10.lt k hk).1); obtain ⟨O2, HO2⟩ : ∃ O2, Hid (O1 ++ h = O2) := ⟨_, rfl⟩; rw [HO2.out] at ho11; have HL2 : Hid (O2.length = O1.length + h.length) := (by show _ = _; rw [← HO2.out]; simp); obtain ⟨a11, k11, rfl⟩ := own_form ho11; have hs11 := hb11.size))
              have HE3 : Hid (O2 ++ mgG turn (GX.drop (k + 1)) (GY.drop (k + 1)) (S.drop (k + 1)) = R) := by show _ = _; rw [← HO2.out, ← HO1.out]; exact HE.out
              refine ⟨⟨k + 1, O2, by omega, by go_num, HE3, ho11, hb11⟩, ?_⟩
              simp [Go.RowKit.intOf]
              omega
        · obtain rfl : k = GX.length := by omega
          have hOR : O = R := by
            have := hO.out
            rw [List.drop_length, mgG_end, List.append_nil] at this
            exact this
          subst hOR
          clear hO mX mY hGX hGY
          go_wp2_with fail
          go_ret
          rw [HRd.out]
          exact ⟨.slice aO O.length kO, rfl, own_lower ho hB.size, chain hB hb⟩
end Go.Proofs.YtjimolafoihnpaaDoor
