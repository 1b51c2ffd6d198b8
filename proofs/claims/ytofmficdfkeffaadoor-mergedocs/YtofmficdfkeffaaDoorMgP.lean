/-
  The contract of live, layer 14.
-/
import Derived.Test.YtofmficdfkeffaaDoorMgM
import Derived.Test.YtofmficdfkeffaaDoorDpGDpJ
namespace Go.Proofs.YtofmficdfkeffaaDoor
open Go.ChangeShapes Go.WideShapes Go.ChangeAt Go.RowKit Go.PlainAid

def vB : List RunD := [⟨0, 1, 0, ⟨#[97, 98]⟩⟩]
def vX : List RunD := [⟨0, 1, 0, ⟨#[97]⟩⟩, ⟨0, 2, 0, ⟨#[88]⟩⟩, ⟨0, 1, 1, ⟨#[98]⟩⟩]
def vY : List RunD := [⟨0, 1, 0, ⟨#[97]⟩⟩, ⟨0, 3, 0, ⟨#[89]⟩⟩, ⟨0, 1, 1, ⟨#[98]⟩⟩]
def vM : List RunD := [⟨0, 1, 0, ⟨#[97]⟩⟩, ⟨0, 2, 0, ⟨#[88]⟩⟩, ⟨0, 3, 0, ⟨#[89]⟩⟩, ⟨0, 1, 1, ⟨#[98]⟩⟩]
def vD : List OpD := [⟨1, 2, ⟨#[]⟩⟩, ⟨2, 0, ⟨#[89]⟩⟩, ⟨1, 1, ⟨#[]⟩⟩]
set_option maxRecDepth 100000 in
theorem atB : ats vB = [⟨0, 1, 0, 97⟩, ⟨0, 1, 1, 98⟩] := by kernel_rfl
set_option maxRecDepth 100000 in
theorem atX' : ats vX = [⟨0, 1, 0, 97⟩, ⟨0, 2, 0, 88⟩, ⟨0, 1, 1, 98⟩] := by kernel_rfl
set_option maxRecDepth 100000 in
theorem atY' : ats vY = [⟨0, 1, 0, 97⟩, ⟨0, 3, 0, 89⟩, ⟨0, 1, 1, 98⟩] := by kernel_rfl
set_option maxRecDepth 100000 in
theorem atM : ats vM = [⟨0, 1, 0, 97⟩, ⟨0, 2, 0, 88⟩, ⟨0, 3, 0, 89⟩, ⟨0, 1, 1, 98⟩] := by kernel_rfl
theorem ckV : ckL [vB, vX, vY] = 0 := by decide
theorem ckW : ckL [vX, vM] = 0 := by decide
set_option maxRecDepth 100000 in
theorem mgV : mgR (cmpI 2 3) (ats vB) (ats vX) (ats vY) = ats vM := by rw [atB, atX', atY', atM]; kernel_rfl
set_option maxRecDepth 100000 in
theorem mbV : mdB (ats vB) (ats vX) (ats vY) = true := by rw [atB, atX', atY']; kernel_rfl
theorem lvM : mdE vB vX vY 2 3 = 0 ∧ mdL vB vX vY 2 3 = vM := by
  have h0 : mdE vB vX vY 2 3 = 0 := by
    unfold mdE
    rw [if_pos ckV, if_pos mbV, mgV, atM]
    rfl
  refine ⟨h0, ?_⟩
  unfold mdL
  rw [if_pos h0, mgV]
  exact rnA_of (good_ats.1 (ckL_good ckW vM (by simp))).1
set_option maxRecDepth 100000 in
theorem ftV : fitD (ats vX) (ats vM) = true := by rw [atX', atM]; kernel_rfl
set_option maxRecDepth 100000 in
theorem lvD : ddE vX vM = 0 ∧ ddL vX vM = vD := by
  have h0 : ddE vX vM = 0 := by
    unfold ddE
    rw [if_pos ckW, if_pos ftV]
  refine ⟨h0, ?_⟩
  unfold ddL
  rw [if_pos h0, atX', atM]
  kernel_rfl
theorem lvMT : mk (txB vM) = ⟨#[97, 88, 89, 98]⟩ := by decide
theorem inV : ∀ l ∈ [vB, vX, vY], l.length ≤ 1125899906842624 ∧ ∀ r ∈ l, r.In := by
  intro l hl
  simp only [List.mem_cons, List.not_mem_nil, or_false] at hl
  rcases hl with rfl | rfl | rfl
  · refine ⟨by decide, fun r hr => ?_⟩
    simp only [vB, List.mem_cons, List.not_mem_nil, or_false] at hr
    subst hr
    show ByteArray.size _ ≤ _
    decide
  · refine ⟨by decide, fun r hr => ?_⟩
    simp only [vX, List.mem_cons, List.not_mem_nil, or_false] at hr
    rcases hr with rfl | rfl | rfl <;> (show ByteArray.size _ ≤ _; decide)
  · refine ⟨by decide, fun r hr => ?_⟩
    simp only [vY, List.mem_cons, List.not_mem_nil, or_false] at hr
    rcases hr with rfl | rfl | rfl <;> (show ByteArray.size _ ≤ _; decide)
theorem inW : ∀ l ∈ [vX, vM], l.length ≤ 1125899906842624 ∧ ∀ r ∈ l, r.In := by
  intro l hl
  simp only [List.mem_cons, List.not_mem_nil, or_false] at hl
  rcases hl with rfl | rfl
  · refine ⟨by decide, fun r hr => ?_⟩
    simp only [vX, List.mem_cons, List.not_mem_nil, or_false] at hr
    rcases hr with rfl | rfl | rfl <;> (show ByteArray.size _ ≤ _; decide)
  · refine ⟨by decide, fun r hr => ?_⟩
    simp only [vM, List.mem_cons, List.not_mem_nil, or_false] at hr
    rcases hr with rfl | rfl | rfl | rfl <;> (show ByteArray.size _ ≤ _; decide)
theorem lit_rdn (l : List RunD) (W : World) : RdN (W.alloc (.cells (rcs l).toArray 65)) (.slice (some ⟨W.heap.size, 0, none⟩) l.length l.length) l := by
  refine ⟨_, _, rfl, Nat.le_refl _, fun i r hr => ⟨W.heap.size, 0, rfl, by simp, ?_⟩⟩
  obtain ⟨c0, c1, c2, c3⟩ := rcs_at l i r hr
  have h := many_new W (rcs l) 65
  have h0 := h _ _ c0
  have h1 := h _ _ c1
  have h2 := h _ _ c2
  have h3 := h _ _ c3
  rw [addr4] at h0 h1 h2 h3
  exact ⟨h0, by rw [Nat.add_assoc]; exact h1, by rw [Nat.add_assoc]; exact h2, by rw [Nat.add_assoc]; exact h3⟩

set_option maxRecDepth 20000 in
set_option maxHeartbeats 1000000 in
theorem live14_any (w : World) (hV : VS w) : Calls Tryd.prog 13 #[] w fun e w' => e = .returned (.bool true) ∧ Below w.heap.size w w' := by
  have q1 : Below w.heap.size w (w.alloc (.cells #[.int .i64 0, .int .i64 1] 40)) := (Below.refl _ w).alloc (Nat.le_refl _) _
  have s1 : (w.alloc (.cells #[.int .i64 0, .int .i64 1] 40)).heap.size = w.heap.size + 1 := by simp
  have r2 := lit_rdn vB (w.alloc (.cells #[.int .i64 0, .int .i64 1] 40))
  have q2 := (Below.refl _ (w.alloc (.cells #[.int .i64 0, .int .i64 1] 40))).alloc (Nat.le_refl _) (.cells (rcs vB).toArray 65)
  have s2 : ((w.alloc (.cells #[.int .i64 0, .int .i64 1] 40)).alloc (.cells (rcs vB).toArray 65)).heap.size = w.heap.size + 1 + 1 := by simp
  have r3 := lit_rdn vX ((w.alloc (.cells #[.int .i64 0, .int .i64 1] 40)).alloc (.cells (rcs vB).toArray 65))
  have q3 := (Below.refl _ ((w.alloc (.cells #[.int .i64 0, .int .i64 1] 40)).alloc (.cells (rcs vB).toArray 65))).alloc (Nat.le_refl _) (.cells (rcs vX).toArray 65)
  have s3 : (((w.alloc (.cells #[.int .i64 0, .int .i64 1] 40)).alloc (.cells (rcs vB).toArray 65)).alloc (.cells (rcs vX).toArray 65)).heap.size = w.heap.size + 1 + 1 + 1 := by simp
  have r4 := lit_rdn vY (((w.alloc (.cells #[.int .i64 0, .int .i64 1] 40)).alloc (.cells (rcs vB).toArray 65)).alloc (.cells (rcs vX).toArray 65))
  have q4 := (Below.refl _ (((w.alloc (.cells #[.int .i64 0, .int .i64 1] 40)).alloc (.cells (rcs vB).toArray 65)).alloc (.cells (rcs vX).toArray 65))).alloc (Nat.le_refl _) (.cells (rcs vY).toArray 65)
  rw [s1] at r2
  rw [s2] at r3
  rw [s3] at r4
  replace r2 := r2.below (chain q3 q4)
  replace r3 := r3.below q4
  have hB := chain (chain (chain q1 q2) q3) q4
  clear q1 q2 q3 q4 s1 s2 s3
  have c1 := docs_any _ _ _ vB vX vY 2 3 _ (hV.below hB) r2 r3 r4 inV
  rw [lvM.1, lvM.2] at c1
  go_enter Tryd.func13, Tryd.ntmps13
  go_wp2_with fail
  refine c1.mono ?_
  generalize World.alloc (World.alloc (World.alloc (World.alloc _ _) _) _) _ = w0 at *
  rintro e w1 ⟨u1, rfl, ho1, q1⟩
  have rM := rdn_own ho1
  have ho1' : w1.ownsRow w0.heap.size 65 4 u1 4 (rcs vM) := ho1
  obtain ⟨a1, k1, rfl⟩ := own_form ho1'
  have hB1 := chain hB q1
  have c2 := mdelta_any _ _ vX vM w1 (hV.below hB1) (r3.below q1) rM inW
  rw [lvD.1, lvD.2] at c2
  clear ho1 ho1' r2 r3 r4 c1 hB q1
  go_wp2_with fail
  refine c2.mono ?_
  rintro e w2 ⟨u2, rfl, ho2, q2⟩
  have ho2' : w2.ownsRow w1.heap.size 67 3 u2 3 (ocs vD) := ho2
  have rD := rdd_own ho2
  obtain ⟨a2, k2, rfl⟩ := own_form ho2'
  have hB2 := chain hB1 q2
  have cT := rtext_any _ vM w2 (rM.below q2) (by decide) (by decide)
  rw [lvMT] at cT
  clear ho2 ho2' c2 hB1
  go_wp2_with fail
  refine cT.mono ?_
  rintro e w3 ⟨rfl, q3⟩
  obtain ⟨bd, od, rfl, d0, d1, d2⟩ := rdd_at (rD.below q3) 1 ⟨2, 0, ⟨#[89]⟩⟩ rfl
  clear cT rM rD
  go_wp2_with fail
  go_ret
  exact ⟨rfl, chain hB2 q3⟩
end Go.Proofs.YtofmficdfkeffaaDoor

/-
  Cases opened; merging is even.
-/
namespace Go.Proofs.YtofmficdfkeffaaDoor
open Go.ChangeShapes Go.WideShapes Go.ChangeAt Go.RowKit Go.PlainAid

theorem open_rnv {H : Type} {enc : TypeId × Value → H} {w : World} {spare : Nat → Bool} {held : Bool} {fuel : Nat} {v : Value} {x : DataW H × List MemPlace}
    (h : DataW.trod enc Tryd.prog w 0 spare held fuel 22 [v] = some x) (hz : ∀ n ∈ x.1.weights Tryd.prog 22, n ≤ reachBytes) :
    ∃ l : List RunD, RdN w v l ∧ l.length ≤ 4398046511104 ∧ ∀ r ∈ l, r.Bd ∧ r.In := by
  obtain ⟨ao, len, cap, rfl⟩ : ∃ ao len cap, v = .slice ao len cap := by
    rcases Go.Deep.open_slice Tryd.underlying22 h with ⟨hcs, _⟩ | ⟨a, l, c, m, n, D, Pl, hcs, _⟩
    · simp at hcs
      exact ⟨_, _, _, hcs⟩
    · simp at hcs
      exact ⟨_, _, _, hcs⟩
  exact open_rnz (ao := ao) (len := len) (cap := cap) h hz
set_option maxRecDepth 20000 in
/-- A case, out of its cells. -/
theorem open_case {H : Type} {enc : TypeId × Value → H} {w : World} {spare : Nat → Bool} {held : Bool} {n : Nat} {cs : List Value} {x : DataW H × List MemPlace} (h : DataW.trod enc Tryd.prog w 0 spare held n 24 cs = some x) (hz : ∀ n ∈ x.1.weights Tryd.prog 24, n ≤ reachBytes) :
    ∃ (vA vB vC : Value) (nx ny : Int) (A B C : List RunD), cs = [vA, vB, vC, .int .i64 nx, .int .i64 ny] ∧ RdN w vA A ∧ A.length ≤ 4398046511104 ∧ (∀ r ∈ A, r.Bd ∧ r.In) ∧ RdN w vB B ∧ B.length ≤ 4398046511104 ∧ (∀ r ∈ B, r.Bd ∧ r.In) ∧ RdN w vC C ∧ C.length ≤ 4398046511104 ∧ (∀ r ∈ C, r.Bd ∧ r.In) := by
  obtain ⟨xs, m, _, hx, hl, _, hf⟩ := DataW.trod_struct Tryd.underlying24 h
  have h4 : Tryd.prog.cellsOf 24 = 5 := by kernel_rfl
  have c3 : Tryd.prog.cellsOf 3 = 1 := by kernel_rfl
  have c9 : Tryd.prog.cellsOf 22 = 1 := by kernel_rfl
  rw [h4] at hl
  have hxl : xs.length = 5 := by assumption
  match xs, hxl, cs, hl with
  | [y0, y1, y2, y3, y4], _, [v0, v1, v2, v3, v4], _ =>
    have g0 := hf 0 _ rfl
    have g1 := hf 1 _ rfl
    have g2 := hf 2 _ rfl
    have g3 := hf 3 _ rfl
    have g4 := hf 4 _ rfl
    simp [c3, c9] at g0 g1 g2 g3 g4
    have z0 : ∀ n ∈ y0.1.weights Tryd.prog 22, n ≤ reachBytes := fun n hn => hz n (by
      rw [hx]
      simp only [List.map]
      unfold DataW.weights
      rw [Tryd.underlying24]
      exact DataW.weights_mem_each (j := 0) (t := 22) (d := y0.1) rfl rfl n hn)
    have z1 : ∀ n ∈ y1.1.weights Tryd.prog 22, n ≤ reachBytes := fun n hn => hz n (by
      rw [hx]
      simp only [List.map]
      unfold DataW.weights
      rw [Tryd.underlying24]
      exact DataW.weights_mem_each (j := 1) (t := 22) (d := y1.1) rfl rfl n hn)
    have z2 : ∀ n ∈ y2.1.weights Tryd.prog 22, n ≤ reachBytes := fun n hn => hz n (by
      rw [hx]
      simp only [List.map]
      unfold DataW.weights
      rw [Tryd.underlying24]
      exact DataW.weights_mem_each (j := 2) (t := 22) (d := y2.1) rfl rfl n hn)
    obtain ⟨A, rA, mA, oA⟩ := open_rnv g0 z0
    obtain ⟨B, rB, mB, oB⟩ := open_rnv g1 z1
    obtain ⟨C, rC, mC, oC⟩ := open_rnv g2 z2
    obtain ⟨a3, e3, -, -⟩ := DataW.trod_int Tryd.underlying3 g3
    obtain ⟨a4, e4, -, -⟩ := DataW.trod_int Tryd.underlying3 g4
    simp at e3 e4
    exact ⟨v0, v1, v2, a3, a4, A, B, C, by rw [e3, e4], rA, mA, oA, rB, mB, oB, rC, mC, oC⟩

theorem case_val {v vA vB vC : Value} {nx ny : Int} (h : v.cells.toList = [vA, vB, vC, .int .i64 nx, .int .i64 ny]) : v = .agg #[vA, vB, vC, .int .i64 nx, .int .i64 ny] := by
  cases v <;> simp [Value.cells] at h
  rename_i cs
  congr 1
  exact Array.toList_inj.1 (by simpa using h)
/-- A case in its box. -/
theorem case_cells (W : World) (vA vB vC : Value) (nx ny : Int) : (W.alloc (.cells #[vA, vB, vC, .int .i64 nx, .int .i64 ny] 24)).heap[W.heap.size]? = some (.cells #[vA, vB, vC, .int .i64 nx, .int .i64 ny] 24) := heap_alloc_new W _
/-- .. later. -/
def CB (W : World) (p : Nat) (vA vB vC : Value) (nx ny : Int) : Prop := W.heap[p]? = some (.cells #[vA, vB, vC, .int .i64 nx, .int .i64 ny] 24)
theorem CB.below {W W' : World} {p : Nat} {vA vB vC : Value} {nx ny : Int} (h : CB W p vA vB vC nx ny) (hb : Below W.heap.size W W') : CB W' p vA vB vC nx ny := (hb.block p (heap_lt h)).trans h
theorem CB.cells {W : World} {p : Nat} {vA vB vC : Value} {nx ny : Int} (h : CB W p vA vB vC nx ny) : W.cell? ⟨p, 0, none⟩ = some vA ∧ W.cell? ⟨p, 1, none⟩ = some vB ∧ W.cell? ⟨p, 2, none⟩ = some vC ∧ W.cell? ⟨p, 3, none⟩ = some (.int .i64 nx) ∧ W.cell? ⟨p, 4, none⟩ = some (.int .i64 ny) := by
  refine ⟨?_, ?_, ?_, ?_, ?_⟩ <;> (unfold World.cell?; rw [h]; rfl)

/-! ### Even -/
theorem cmpB_neg : ∀ (a b : List UInt8), Lib.compareBytes b a = - Lib.compareBytes a b
  | [], [] => by simp [Lib.compareBytes]
  | [], _ :: _ => by simp [Lib.compareBytes]
  | _ :: _, [] => by simp [Lib.compareBytes]
  | x :: a, y :: b => by
    have ih := cmpB_neg a b
    simp only [Lib.compareBytes]
    have h1 : ¬ (x < y ∧ y < x) := by rw [UInt8.lt_iff_toNat_lt, UInt8.lt_iff_toNat_lt]; omega
    by_cases c1 : x < y
    · rw [if_pos c1, if_neg (fun h => h1 ⟨c1, h⟩), if_pos c1]; rfl
    · by_cases c2 : y < x
      · rw [if_pos c2, if_neg c1, if_pos c2]
      · rw [if_neg c2, if_neg c1, if_neg c1, if_neg c2]; exact ih
theorem cmpI_neg (a b : Int) : cmpI b a = - cmpI a b := by
  unfold cmpI
  by_cases h1 : a < b
  · rw [if_pos h1, if_neg (by omega), if_pos h1]; rfl
  · by_cases h2 : b < a
    · rw [if_pos h2, if_neg h1, if_pos h2]
    · rw [if_neg h2, if_neg h1, if_neg h1, if_neg h2]; rfl
theorem sgn_neg (turn : Int) (g h : List Atm) : sgn (-turn) h g = - sgn turn g h := by
  unfold sgn orI
  rw [cmpB_neg (txU g) (txU h)]
  by_cases e : Lib.compareBytes (txU g) (txU h) = 0
  · rw [if_pos (by omega), if_pos e]
  · rw [if_neg (by omega), if_neg e]
theorem sgn_ne {turn : Int} (h : turn ≠ 0) (g p : List Atm) : sgn turn g p ≠ 0 := by
  unfold sgn orI
  split
  · exact h
  · assumption
theorem prM_swap {turn : Int} (ht : turn ≠ 0) (g h : List Atm) : prM (-turn) h g = prM turn g h := by
  have h0 := sgn_ne ht g h
  unfold prM
  rw [sgn_neg]
  by_cases c : 0 < sgn turn g h
  · rw [if_pos c, if_neg (by omega)]
  · rw [if_neg c, if_pos (by omega)]
theorem prM_len (t u : Int) (g h : List Atm) : (prM t h g).length = (prM u g h).length := by
  unfold prM
  split <;> split <;> simp <;> omega
theorem mgG_swap {turn : Int} (ht : turn ≠ 0) : ∀ (GX GY : List (List Atm)) (S : List Atm), mgG (-turn) GY GX S = mgG turn GX GY S
  | [], [], S => by simp [mgG]
  | [], h :: GY, S => by simp [mgG]
  | g :: GX, [], S => by simp [mgG]
  | g :: GX, h :: GY, S => by rw [mgG, mgG, prM_swap ht, mgG_swap ht GX GY S.tail]
theorem mgG_slen (t u : Int) : ∀ (GX GY : List (List Atm)) (S : List Atm), (mgG t GY GX S).length = (mgG u GX GY S).length
  | [], [], S => by simp [mgG]
  | [], h :: GY, S => by simp [mgG]
  | g :: GX, [], S => by simp [mgG]
  | g :: GX, h :: GY, S => by rw [mgG, mgG, List.length_append, List.length_append, List.length_append, List.length_append, prM_len t u, mgG_slen t u GX GY S.tail]
theorem mgR_swap {turn : Int} (ht : turn ≠ 0) (A X Y : List Atm) : mgR (-turn) A Y X = mgR turn A X Y := by
  unfold mgR
  rw [svP_swap A Y X, stP_swap A Y X]
  exact mgG_swap ht _ _ _
theorem mgR_slen (t u : Int) (A X Y : List Atm) : (mgR t A Y X).length = (mgR u A X Y).length := by
  unfold mgR
  rw [svP_swap A Y X, stP_swap A Y X]
  exact mgG_slen t u _ _ _
theorem any_swap (A X Y : List Atm) : X.any (fun u => hasK Y u && !hasK A u) = Y.any (fun u => hasK X u && !hasK A u) := by
  have key : ∀ P Q : List Atm, P.any (fun u => hasK Q u && !hasK A u) = true → Q.any (fun u => hasK P u && !hasK A u) = true := fun P Q h => by
    rw [List.any_eq_true] at h ⊢
    obtain ⟨u, hu, h1⟩ := h
    simp only [Bool.and_eq_true] at h1
    obtain ⟨v, hv, e⟩ := hasK_iff.1 h1.1
    refine ⟨v, hv, ?_⟩
    simp only [Bool.and_eq_true]
    refine ⟨hasK_iff.2 ⟨u, hu, e.symm⟩, ?_⟩
    have : hasK A v = hasK A u := by unfold hasK; rw [e]
    rw [this]
    exact h1.2
  cases h : X.any (fun u => hasK Y u && !hasK A u)
  · cases h2 : Y.any (fun u => hasK X u && !hasK A u)
    · rfl
    · rw [key Y X h2] at h; cases h
  · exact (key X Y h).symm
theorem mdB_swap (A X Y : List Atm) : mdB A Y X = mdB A X Y := by
  unfold mdB
  rw [any_swap A X Y]
  cases fitD A X <;> cases fitD A Y <;> rfl
theorem ckL_swap (b x y : List RunD) : ckL [b, y, x] = ckL [b, x, y] := by
  unfold ckL
  simp only [List.all_cons, List.all_nil, Bool.and_true]
  congr 1
  cases ckG [] none b <;> cases ckG [] none x <;> cases ckG [] none y <;> rfl
theorem mdE_swap (b x y : List RunD) (nx ny : Int) : mdE b y x ny nx = mdE b x y nx ny := by
  unfold mdE
  rw [ckL_swap, mdB_swap, mgR_slen (cmpI ny nx) (cmpI nx ny)]
theorem mdL_swap (b x y : List RunD) {nx ny : Int} (h : nx ≠ ny) : mdL b y x ny nx = mdL b x y nx ny := by
  unfold mdL
  rw [mdE_swap, cmpI_neg nx ny, mgR_swap]
  unfold cmpI
  split
  · decide
  · split
    · decide
    · omega
theorem mdL_len (b x y : List RunD) (nx ny : Int) : (mdL b x y nx ny).length ≤ 1000 := by
  unfold mdL
  split
  · rename_i h
    unfold mdE at h
    split at h
    · rename_i hck
      split at h
      · split at h
        · rename_i hl
          have gb := good_kl (ckL_good hck b (by simp))
          have gx := good_kl (ckL_good hck x (by simp))
          have gy := good_kl (ckL_good hck y (by simp))
          refine Nat.le_trans (rnA_len (fun u hu => ?_)) hl
          rcases mgR_mem hu with h | h | h
          · exact gx.2.2.2 u h
          · exact gy.2.2.2 u h
          · exact gb.2.2.2 u h
        · cases h
      · cases h
    · cases h
  · simp
end Go.Proofs.YtofmficdfkeffaaDoor
