/-
  The contract of composed.
-/
import Derived.Test.YtgabanndjiegdabOtH
namespace Go.Proofs.Ytgabanndjiegdab
open Go.ChangeShapes Go.WideShapes Go.ChangeAt Go.RowKit Go.PlainAid

theorem cm_start {w w0 w1 w2 w3 w4 : World} {vA vB : Value} {pA qA pB qB : Nat} {LA LB LA' LB' : List U} {BA' BB' : List Nat} {X Y : OpD}
    (h1 : ItL w1 pA qA LA ([pA, qA] ++ vA.ownBlock.toList)) (h2 : ItL w2 pB qB LB ([pB, qB] ++ vB.ownBlock.toList)) (hw0 : w0 = w) (hp : w.heap.size ≤ pA ∧ w.heap.size ≤ qA ∧ w1.heap.size ≤ pB ∧ w1.heap.size ≤ qB)
    (hb1 : Below w.heap.size w w1) (hb2 : Below w1.heap.size w1 w2) (hbb : ∀ g, vB.ownBlock = some g → g < w.heap.size) (hap : ∀ g, vA.ownBlock = some g → vB.ownBlock ≠ some g)
    (h3 : ItL w3 pA qA LA' BA') (hB3 : ∀ g ∈ BA', g ∈ [pA, qA] ++ vA.ownBlock.toList ∨ w2.heap.size ≤ g) (ho3 : Only [pA, qA] w2 w3)
    (h4 : ItL w4 pB qB LB' BB') (hB4 : ∀ g ∈ BB', g ∈ [pB, qB] ++ vB.ownBlock.toList ∨ w3.heap.size ≤ g) (ho4 : Only [pB, qB] w3 w4) :
    Cm w ((w4.alloc (.cells X.cs 35)).alloc (.cells Y.cs 35)) w4.heap.size (w4.heap.size + 1) pA qA pB qB X Y LA' LB' (.slice none 0 0) [] BA' BB' := by
  subst hw0
  obtain ⟨hpa, hqa, hla⟩ := h1.in
  obtain ⟨hpb, hqb, hlb⟩ := h2.in
  obtain ⟨_, _, hl3⟩ := h3.in
  obtain ⟨_, _, hl4⟩ := h4.in
  have s1 := hb1.size
  have s2 := hb2.size
  have s3 := ho3.size
  have s4 := ho4.size
  have hpl := hla pA (by simp)
  have hql := hla qA (by simp)
  have hdj : ∀ g, g ∈ [pA, qA] ++ vA.ownBlock.toList → g ∉ [pB, qB] ++ vB.ownBlock.toList := fun g hg hm => by
    have hg1 := hla g hg
    simp only [List.cons_append, List.nil_append, List.mem_cons, Option.mem_toList] at hg hm
    rcases hm with rfl | rfl | hm
    · omega
    · omega
    · have := hbb g hm
      rcases hg with rfl | rfl | hg
      · omega
      · omega
      · exact hap g hg hm
  have hAB : ∀ g ∈ BA', g ∉ BB' := fun g ha hb => by
    have hlg := hl3 g ha
    rcases hB4 g hb with h | h
    · rcases hB3 g ha with h' | h'
      · exact hdj g h' h
      · have := hlb g h; omega
    · omega
  have hiA4 : ItL w4 pA qA LA' BA' := h3.only ho4 (fun g hg hm => by
    have hlg := hl3 g hg
    have hm' : g ∈ [pB, qB] ++ vB.ownBlock.toList := List.mem_append_left _ hm
    rcases hB3 g hg with h | h
    · exact hdj g h hm'
    · have := hlb g hm'; omega)
  have hO : ∀ S, Only S w4 ((w4.alloc (.cells X.cs 35)).alloc (.cells Y.cs 35)) := fun S => (Only.alloc _ _ _).trans (Only.alloc _ _ _)
  have e1 : ((w4.alloc (.cells X.cs 35)).alloc (.cells Y.cs 35)).heap[w4.heap.size + 1]? = some (.cells Y.cs 35) := by
    have := heap_alloc_new (w4.alloc (.cells X.cs 35)) (.cells Y.cs 35)
    rw [World.size_alloc] at this
    exact this
  have hl3' : ∀ g ∈ BA', g < w4.heap.size := fun g hg => by have := hl3 g hg; omega
  refine ⟨World.ownsRow_nil _ _ _ _, (Below.heap_alloc _ _ _ (by simp)).trans (heap_alloc_new w4 _), e1, hiA4.only (hO []) (by simp), h4.only (hO []) (by simp), hAB, ⟨fun h => by have := hl3' _ h; omega, fun h => by have := hl4 _ h; omega, fun h => by have := hl3' _ h; omega, fun h => by have := hl4 _ h; omega, by omega⟩, fun g e => (by cases e), ?_, ⟨hp.1, hp.2.1, by omega, by omega, by omega, by omega⟩⟩
  have b3 : Below w0.heap.size w2 w3 := ho3.below (by omega) (by simp; omega)
  have b4 : Below w0.heap.size w3 w4 := ho4.below (by omega) (by simp; omega)
  exact (((hb1.trans (hb2.mono s1)).trans b3).trans b4).trans ((hO []).below (by omega) (by simp))

/-- What the walk asks where an operation is stored in three cells. -/
theorem stf {W : World} {b : Nat} {o : OpD} (h : W.heap[b]? = some (.cells o.cs 35 (0, 0))) :
    W.frozen? ⟨b, 0, none⟩ = false ∧ W.cell? ⟨b, 0, none⟩ = some (.int .i64 o.k) ∧ (∀ k, (W.setCell ⟨b, 0, none⟩ k).frozen? ⟨b, 1, none⟩ = false) ∧ (∀ k, (W.setCell ⟨b, 0, none⟩ k).cell? ⟨b, 1, none⟩ = some (.int .i64 o.n)) ∧
    (∀ k n, ((W.setCell ⟨b, 0, none⟩ k).setCell ⟨b, 1, none⟩ n).frozen? ⟨b, 2, none⟩ = false) ∧ (∀ k n, ((W.setCell ⟨b, 0, none⟩ k).setCell ⟨b, 1, none⟩ n).cell? ⟨b, 2, none⟩ = some (.string o.t)) := by
  have h1 : ∀ k, (W.setCell ⟨b, 0, none⟩ k).heap[b]? = _ := fun k => heap_setCell h 0 k
  have h2 : ∀ k n, ((W.setCell ⟨b, 0, none⟩ k).setCell ⟨b, 1, none⟩ n).heap[b]? = _ := fun k n => heap_setCell (h1 k) 1 n
  exact ⟨frz h 0, cell_of_row _ _ 0 _ _ (0, 0) h, fun k => frz (h1 k) 1, fun k => cell_of_row _ _ 1 _ _ (0, 0) (h1 k), fun k n => frz (h2 k n) 2, fun k n => cell_of_row _ _ 2 _ _ (0, 0) (h2 k n)⟩
theorem stf2 {W : World} {b c : Nat} {o : OpD} (h : W.heap[c]? = some (.cells o.cs 35 (0, 0))) (hn : c ≠ b) :
    (∀ x y z, (((W.setCell ⟨b, 0, none⟩ x).setCell ⟨b, 1, none⟩ y).setCell ⟨b, 2, none⟩ z).frozen? ⟨c, 0, none⟩ = false) ∧ (∀ x y z, (((W.setCell ⟨b, 0, none⟩ x).setCell ⟨b, 1, none⟩ y).setCell ⟨b, 2, none⟩ z).cell? ⟨c, 0, none⟩ = some (.int .i64 o.k)) ∧
    (∀ x y z k, ((((W.setCell ⟨b, 0, none⟩ x).setCell ⟨b, 1, none⟩ y).setCell ⟨b, 2, none⟩ z).setCell ⟨c, 0, none⟩ k).frozen? ⟨c, 1, none⟩ = false) ∧ (∀ x y z k, ((((W.setCell ⟨b, 0, none⟩ x).setCell ⟨b, 1, none⟩ y).setCell ⟨b, 2, none⟩ z).setCell ⟨c, 0, none⟩ k).cell? ⟨c, 1, none⟩ = some (.int .i64 o.n)) ∧
    (∀ x y z k n, (((((W.setCell ⟨b, 0, none⟩ x).setCell ⟨b, 1, none⟩ y).setCell ⟨b, 2, none⟩ z).setCell ⟨c, 0, none⟩ k).setCell ⟨c, 1, none⟩ n).frozen? ⟨c, 2, none⟩ = false) ∧ (∀ x y z k n, (((((W.setCell ⟨b, 0, none⟩ x).setCell ⟨b, 1, none⟩ y).setCell ⟨b, 2, none⟩ z).setCell ⟨c, 0, none⟩ k).setCell ⟨c, 1, none⟩ n).cell? ⟨c, 2, none⟩ = some (.string o.t)) := by
  have hV : ∀ x y z, (((W.setCell ⟨b, 0, none⟩ x).setCell ⟨b, 1, none⟩ y).setCell ⟨b, 2, none⟩ z).heap[c]? = some (.cells o.cs 35 (0, 0)) := fun x y z =>
    only_heap h (((Only.setCell (S := [b]) W (by simp) x).trans (Only.setCell _ (by simp) y)).trans (Only.setCell _ (by simp) z)) (by simp; exact hn)
  exact ⟨fun x y z => (stf (hV x y z)).1, fun x y z => (stf (hV x y z)).2.1, fun x y z => (stf (hV x y z)).2.2.1, fun x y z => (stf (hV x y z)).2.2.2.1, fun x y z => (stf (hV x y z)).2.2.2.2.1, fun x y z => (stf (hV x y z)).2.2.2.2.2⟩
/-- Three stores are one. -/
theorem set3 {W : World} {b : Nat} {o : OpD} (h : W.heap[b]? = some (.cells o.cs 35 (0, 0))) (k n t : Value) : ((W.setCell ⟨b, 0, none⟩ k).setCell ⟨b, 1, none⟩ n).setCell ⟨b, 2, none⟩ t = W.setRow b #[k, n, t] := by
  have h1 : (W.setCell ⟨b, 0, none⟩ k).heap[b]? = _ := heap_setCell h 0 k
  have h2 : ((W.setCell ⟨b, 0, none⟩ k).setCell ⟨b, 1, none⟩ n).heap[b]? = _ := heap_setCell h1 1 n
  rw [setCell_eq_setRow _ b 2 _ 35 (0, 0) t h2, setCell_eq_setRow _ b 1 _ 35 (0, 0) n h1, setCell_eq_setRow W b 0 _ 35 (0, 0) k h, setRow_setRow, setRow_setRow]
  rfl

theorem unit_go {w : World} {p q : Nat} {L : List U} {B : List Nat} (h : ItL w p q L B) :
    Calls Try.prog 58 #[.pointer (some ⟨p, 0, none⟩), .pointer (some ⟨q, 0, none⟩)] w fun e w' => e = .returned (.agg #[.int .i64 (hdU L).k, .int .i64 (hdU L).n, .string (hdU L).t]) ∧ (∃ B', ItL w' p q L.tail B' ∧ ∀ g ∈ B', g ∈ B ∨ w.heap.size ≤ g) ∧ Only [p, q] w w' := unit_any h

set_option maxRecDepth 20000 in
set_option maxHeartbeats 4000000 in
theorem composed_any (vA vB : Value) (dA dB : List St) (w : World) (hA : RdD w vA (dA.map St.op)) (hB : RdD w vB (dB.map St.op)) (hbA : ∀ g, vA.ownBlock = some g → g < w.heap.size) (hbB : ∀ g, vB.ownBlock = some g → g < w.heap.size) (hap : ∀ g, vA.ownBlock = some g → vB.ownBlock ≠ some g)
    (okA : ∀ s ∈ dA, s.Ok ∧ s.c ≤ 1000) (okB : ∀ s ∈ dB, s.Ok ∧ s.c ≤ 1000) (hlen : (uw dA).length + (uw dB).length ≤ 100000) (ht : tgtU (uw dA) = baseU (uw dB)) :
    Calls Try.prog 29 #[vA, vB] w fun e w' => ∃ u, e = .returned u ∧ w'.ownsRow w.heap.size 35 3 u (cmp (uw dA) (uw dB)).length (ocs ((cmp (uw dA) (uw dB)).map uop)) ∧ Below w.heap.size w w' := by
  obtain ⟨i0, hin, hz0, hz1, hz2⟩ := info_parts Try.infoOp
  have hU1 := units_any vA dA w hA hbA okA
  go_enter Try.func29, Try.ntmps29
  go_wp2_with fail
  refine hU1.mono ?_
  rintro e w1 ⟨rfl, hI1, hb1, hs1⟩
  have hU2 := units_any vB dB w1 (hB.below hb1) (fun g e => by have := hbB g e; omega) okB
  go_wp2_with fail
  refine hU2.mono ?_
  rintro e w2 ⟨rfl, hI2, hb2, hs2⟩
  have hs1' : w1.heap.size = w.heap.size + 2 := hs1
  rw [hs1] at hI2 hs2
  clear hU1 hU2
  have hI12 := hI1.only (Only.of_below (S := []) hb2) (by simp)
  go_wp2_with fail
  refine (unit_go hI12).mono ?_
  rintro e w3 ⟨rfl, ⟨BA, hI3, hB3⟩, ho3⟩
  have hI23 := hI2.only ho3 (fun g hg hm => by
    simp only [List.cons_append, List.nil_append, List.mem_cons, Option.mem_toList, List.not_mem_nil, or_false] at hg hm
    rcases hg with rfl | rfl | hg
    · omega
    · omega
    · have := hbB g hg; omega)
  go_wp2_with fail
  refine (unit_go hI23).mono ?_
  rintro e w4 ⟨rfl, ⟨BB, hI4, hB4⟩, ho4⟩
  have hM := cm_start (X := hdU (uw dA)) (Y := hdU (uw dB)) hI1 hI2 rfl ⟨by omega, by omega, by omega, by omega⟩ hb1 hb2 hbB hap hI3 hB3 ho3 hI4 hB4 ho4
  clear hI1 hI2 hI12 hI23 hI3 hB3 ho3 hI4 hB4 ho4 hb1 hb2 hs2
  go_wp2_with fail
  clear hA hB okA okB hbA hbB hap hs1 hs1'
  go_loopg [5] ((uw dA).length + (uw dB).length) (fun g d wr => ∃ (LA LB : List U) (D : List OpD) (BA BB : List Nat), Aside (D ++ (cmp LA LB).map uop = (cmp (uw dA) (uw dB)).map uop) ∧ Aside (tgtU LA = baseU LB) ∧ Aside (LA.length + LB.length = g ∧ D.length + g ≤ 100000) ∧ Cm w wr w4.heap.size (w4.heap.size + 1) (w.heap.size + 1) w.heap.size (w.heap.size + 2 + 1) (w.heap.size + 2) (hdU LA) (hdU LB) LA.tail LB.tail d D BA BB)
  case atStart => exact ⟨uw dA, uw dB, [], BA, BB, by show _ = _; simp, ht, ⟨rfl, by simpa using hlen⟩, hM⟩
  case round =>
    clear hM BA BB ht
    obtain ⟨LA, LB, D, BA, BB, HE, HT, HG, hM⟩ := hrel
    have hDl : D.length ≤ 100000 := by have := HG.out; omega
    obtain ⟨ao5, cp5, rfl⟩ := own_form hM.own
    obtain ⟨x0, x1, x2⟩ := hM.cellsX
    obtain ⟨y0, y1, y2⟩ := hM.cellsY
    rcases LA with _ | ⟨u, a⟩
    · rcases LB with _ | ⟨v, b⟩
      · simp only [hdU, zop] at x0 y0
        clear x1 x2 y1 y2
        go_wp2_with fail
        go_ret
        have hE := HE.out
        simp only [cmp, List.map_nil, List.append_nil] at hE
        refine ⟨_, rfl, ?_, hM.bel⟩
        have hl : D.length = (cmp (uw dA) (uw dB)).length := by rw [hE, List.length_map]
        rw [← hl, ← hE]
        exact hM.own
      · cases v with
        | K =>
          exfalso
          have := HT.out
          simp only [tgtU, baseU] at this
          omega
        | R =>
          exfalso
          have := HT.out
          simp only [tgtU, baseU] at this
          omega
        | I z =>
          simp only [hdU, uop, zop] at x0 x1 x2 y0 y1 y2
          clear x1 x2
          go_wp2_with (first | (at_builtin; refine wpList_append_lies _ rfl (.tmp 40) (.tmp 42) 22 rfl w.heap.size 35 i0 (.agg #[.int .i64 0, .int .i64 0, .string ⟨#[]⟩]) 3 32 Try.underlying22 hin hz0 hz1 hz2 rfl (by decide) (.slice ao5 D.length cp5) D.length (ocs D) rfl (hM.own.alloc _) ⟨_, 0, none⟩ 1 1 [.int .i64 2, .int .i64 0, .string (mk (ptB z.toNat))] rfl rfl (many_new _ _ _) (three_one _ _ _) (by decide) (by unfold maxLen; omega) (by omega) (by have := hM.le; simp; omega) _ rfl ?_; intro g9 c9 w9 ho9 hg9 hl9 _; have hMa := hM.app (o := ⟨2, 0, (mk (ptB z.toNat))⟩) ho9 hg9 (hl9.imp id (fun e => by rw [e, World.size_alloc])); clear ho9 hg9 hl9) | (go_at_call 58; refine (unit_go hMa.ib).mono ?_; rintro e w8 ⟨rfl, ⟨BB2, hI8, hB8⟩, ho8⟩; have hM1 := hMa.callB ho8 hI8 hB8; clear hI8 hB8 ho8; obtain ⟨s0, s1, s2, s3, s4, s5⟩ := stf hM1.cy))
          clear s0 s1 s2 s3 s4 s5
          rw [set3 hM1.cy]
          have hM2 := hM1.storeY (hdU b)
          go_roundg ((([] : List U)).length + (b).length)
          case measure => have := HG.out; simp at this; simp; omega
          case rel =>
            refine ⟨([] : List U), b, D ++ [uop (.I z)], BA, BB2, ?_, ?_, ?_, hM2⟩
            · have := HE.out
              show _ = _
              rw [← this]
              simp [cmp, uop]
            · have := HT.out
              show _ = _
              simp [tgtU, baseU] at this ⊢
              omega
            · have := HG.out
              refine ⟨rfl, ?_⟩
              simp at this ⊢
              omega
    · cases u with
      | R =>
        simp only [hdU, uop] at x0 x1 x2
        clear y1 y2
        go_wp2_with (first | (at_builtin; refine wpList_append_lies _ rfl (.tmp 30) (.tmp 32) 22 rfl w.heap.size 35 i0 (.agg #[.int .i64 0, .int .i64 0, .string ⟨#[]⟩]) 3 32 Try.underlying22 hin hz0 hz1 hz2 rfl (by decide) (.slice ao5 D.length cp5) D.length (ocs D) rfl (hM.own.alloc _) ⟨_, 0, none⟩ 1 1 [.int .i64 3, .int .i64 1, .string ⟨#[]⟩] rfl rfl (many_new _ _ _) (three_one _ _ _) (by decide) (by unfold maxLen; omega) (by omega) (by have := hM.le; simp; omega) _ rfl ?_; intro g9 c9 w9 ho9 hg9 hl9 _; have hMa := hM.app (o := ⟨3, 1, ⟨#[]⟩⟩) ho9 hg9 (hl9.imp id (fun e => by rw [e, World.size_alloc])); clear ho9 hg9 hl9) | (go_at_call 58; refine (unit_go hMa.ia).mono ?_; rintro e w8 ⟨rfl, ⟨BA2, hI8, hB8⟩, ho8⟩; have hM1 := hMa.callA ho8 hI8 hB8; clear hI8 hB8 ho8; obtain ⟨s0, s1, s2, s3, s4, s5⟩ := stf hM1.cx))
        clear s0 s1 s2 s3 s4 s5
        rw [set3 hM1.cx]
        have hM2 := hM1.storeX (hdU a)
        go_roundg ((a).length + (LB).length)
        case measure => have := HG.out; simp at this; simp; omega
        case rel =>
          refine ⟨a, LB, D ++ [uop .R], BA2, BB, ?_, ?_, ?_, hM2⟩
          · have := HE.out
            show _ = _
            rw [← this]
            simp [cmp, uop]
          · have := HT.out
            show _ = _
            simp [tgtU] at this ⊢
            omega
          · have := HG.out
            refine ⟨rfl, ?_⟩
            simp at this ⊢
            omega
      | K =>
        rcases LB with _ | ⟨v, b⟩
        · exfalso
          have := HT.out
          simp only [tgtU, baseU] at this
          omega
        · cases v with
          | K =>
            simp only [hdU, uop] at x0 x1 x2 y0 y1 y2
            clear y1 y2
            go_wp2_with (at_builtin; refine wpList_append_lies _ rfl (.tmp 50) (.tmp 52) 22 rfl w.heap.size 35 i0 (.agg #[.int .i64 0, .int .i64 0, .string ⟨#[]⟩]) 3 32 Try.underlying22 hin hz0 hz1 hz2 rfl (by decide) (.slice ao5 D.length cp5) D.length (ocs D) rfl (hM.own.alloc _) ⟨_, 0, none⟩ 1 1 [.int .i64 1, .int .i64 1, .string ⟨#[]⟩] rfl rfl (many_new _ _ _) (three_one _ _ _) (by decide) (by unfold maxLen; omega) (by omega) (by have := hM.le; simp; omega) _ rfl ?_; intro g9 c9 w9 ho9 hg9 hl9 _; have hMa := hM.app (o := ⟨1, 1, ⟨#[]⟩⟩) ho9 hg9 (hl9.imp id (fun e => by rw [e, World.size_alloc])); clear ho9 hg9 hl9)
            refine (unit_go hMa.ia).mono ?_
            rintro e w8 ⟨rfl, ⟨BA2, hI8, hB8⟩, ho8⟩
            have hM1 := hMa.callA ho8 hI8 hB8
            clear hI8 hB8 ho8
            go_wp2_with fail
            refine (unit_go hM1.ib).mono ?_
            rintro e w10 ⟨rfl, ⟨BB2, hI8, hB8⟩, ho8⟩
            have hM2 := hM1.callB ho8 hI8 hB8
            clear hI8 hB8 ho8
            obtain ⟨s0, s1, s2, s3, s4, s5⟩ := stf hM2.cx
            obtain ⟨t0, t1, t2, t3, t4, t5⟩ := stf2 hM2.cy (b := w4.heap.size) (by omega)
            go_wp2_with fail
            clear s0 s1 s2 s3 s4 s5 t0 t1 t2 t3 t4 t5
            rw [set3 hM2.cx]
            have hM3 := hM2.storeX (hdU a)
            have e3 := set3 (W := w10.setRow w4.heap.size #[.int .i64 (hdU a).k, .int .i64 (hdU a).n, .string (hdU a).t]) hM3.cy (.int .i64 (hdU b).k) (.int .i64 (hdU b).n) (.string (hdU b).t)
            rw [e3]
            have hM4 := hM3.storeY (hdU b)
            go_roundg ((a).length + (b).length)
            case measure => have := HG.out; simp at this; simp; omega
            case rel =>
              refine ⟨a, b, D ++ [uop (.K)], BA2, BB2, ?_, ?_, ?_, hM4⟩
              · have := HE.out
                show _ = _
                rw [← this]
                simp [cmp, uop]
              · have := HT.out
                show _ = _
                simp [tgtU, baseU] at this ⊢
                omega
              · have := HG.out
                refine ⟨rfl, ?_⟩
                simp at this ⊢
                omega
          | R =>
            simp only [hdU, uop] at x0 x1 x2 y0 y1 y2
            clear x1 x2
            go_wp2_with (at_builtin; refine wpList_append_lies _ rfl (.tmp 58) (.tmp 60) 22 rfl w.heap.size 35 i0 (.agg #[.int .i64 0, .int .i64 0, .string ⟨#[]⟩]) 3 32 Try.underlying22 hin hz0 hz1 hz2 rfl (by decide) (.slice ao5 D.length cp5) D.length (ocs D) rfl (hM.own.alloc _) ⟨_, 0, none⟩ 1 1 [.int .i64 3, .int .i64 1, .string ⟨#[]⟩] rfl rfl (many_new _ _ _) (three_one _ _ _) (by decide) (by unfold maxLen; omega) (by omega) (by have := hM.le; simp; omega) _ rfl ?_; intro g9 c9 w9 ho9 hg9 hl9 _; have hMa := hM.app (o := ⟨3, 1, ⟨#[]⟩⟩) ho9 hg9 (hl9.imp id (fun e => by rw [e, World.size_alloc])); clear ho9 hg9 hl9)
            refine (unit_go hMa.ia).mono ?_
            rintro e w8 ⟨rfl, ⟨BA2, hI8, hB8⟩, ho8⟩
            have hM1 := hMa.callA ho8 hI8 hB8
            clear hI8 hB8 ho8
            go_wp2_with fail
            refine (unit_go hM1.ib).mono ?_
            rintro e w10 ⟨rfl, ⟨BB2, hI8, hB8⟩, ho8⟩
            have hM2 := hM1.callB ho8 hI8 hB8
            clear hI8 hB8 ho8
            obtain ⟨s0, s1, s2, s3, s4, s5⟩ := stf hM2.cx
            obtain ⟨t0, t1, t2, t3, t4, t5⟩ := stf2 hM2.cy (b := w4.heap.size) (by omega)
            go_wp2_with fail
            clear s0 s1 s2 s3 s4 s5 t0 t1 t2 t3 t4 t5
            rw [set3 hM2.cx]
            have hM3 := hM2.storeX (hdU a)
            have e3 := set3 (W := w10.setRow w4.heap.size #[.int .i64 (hdU a).k, .int .i64 (hdU a).n, .string (hdU a).t]) hM3.cy (.int .i64 (hdU b).k) (.int .i64 (hdU b).n) (.string (hdU b).t)
            rw [e3]
            have hM4 := hM3.storeY (hdU b)
            go_roundg ((a).length + (b).length)
            case measure => have := HG.out; simp at this; simp; omega
            case rel =>
              refine ⟨a, b, D ++ [uop .R], BA2, BB2, ?_, ?_, ?_, hM4⟩
              · have := HE.out
                show _ = _
                rw [← this]
                simp [cmp, uop]
              · have := HT.out
                show _ = _
                simp [tgtU, baseU] at this ⊢
                omega
              · have := HG.out
                refine ⟨rfl, ?_⟩
                simp at this ⊢
                omega
          | I z =>
            simp only [hdU, uop] at x0 x1 x2 y0 y1 y2
            clear x1 x2
            go_wp2_with (first | (at_builtin; refine wpList_append_lies _ rfl (.tmp 40) (.tmp 42) 22 rfl w.heap.size 35 i0 (.agg #[.int .i64 0, .int .i64 0, .string ⟨#[]⟩]) 3 32 Try.underlying22 hin hz0 hz1 hz2 rfl (by decide) (.slice ao5 D.length cp5) D.length (ocs D) rfl (hM.own.alloc _) ⟨_, 0, none⟩ 1 1 [.int .i64 2, .int .i64 0, .string (mk (ptB z.toNat))] rfl rfl (many_new _ _ _) (three_one _ _ _) (by decide) (by unfold maxLen; omega) (by omega) (by have := hM.le; simp; omega) _ rfl ?_; intro g9 c9 w9 ho9 hg9 hl9 _; have hMa := hM.app (o := ⟨2, 0, (mk (ptB z.toNat))⟩) ho9 hg9 (hl9.imp id (fun e => by rw [e, World.size_alloc])); clear ho9 hg9 hl9) | (go_at_call 58; refine (unit_go hMa.ib).mono ?_; rintro e w8 ⟨rfl, ⟨BB2, hI8, hB8⟩, ho8⟩; have hM1 := hMa.callB ho8 hI8 hB8; clear hI8 hB8 ho8; obtain ⟨s0, s1, s2, s3, s4, s5⟩ := stf hM1.cy))
            clear s0 s1 s2 s3 s4 s5
            rw [set3 hM1.cy]
            have hM2 := hM1.storeY (hdU b)
            go_roundg ((.K :: a).length + (b).length)
            case measure => have := HG.out; simp at this; simp; omega
            case rel =>
              refine ⟨.K :: a, b, D ++ [uop (.I z)], BA, BB2, ?_, ?_, ?_, hM2⟩
              · have := HE.out
                show _ = _
                rw [← this]
                simp [cmp, uop]
              · have := HT.out
                show _ = _
                simp [tgtU, baseU] at this ⊢
                omega
              · have := HG.out
                refine ⟨rfl, ?_⟩
                simp at this ⊢
                omega
      | I y =>
        rcases LB with _ | ⟨v, b⟩
        · exfalso
          have := HT.out
          simp only [tgtU, baseU] at this
          omega
        · cases v with
          | K =>
            simp only [hdU, uop] at x0 x1 x2 y0 y1 y2
            clear y1 y2
            go_wp2_with (at_builtin; refine wpList_append_lies _ rfl (.tmp 50) (.tmp 52) 22 rfl w.heap.size 35 i0 (.agg #[.int .i64 0, .int .i64 0, .string ⟨#[]⟩]) 3 32 Try.underlying22 hin hz0 hz1 hz2 rfl (by decide) (.slice ao5 D.length cp5) D.length (ocs D) rfl (hM.own.alloc _) ⟨_, 0, none⟩ 1 1 [.int .i64 2, .int .i64 0, .string (mk (ptB y.toNat))] rfl rfl (many_new _ _ _) (three_one _ _ _) (by decide) (by unfold maxLen; omega) (by omega) (by have := hM.le; simp; omega) _ rfl ?_; intro g9 c9 w9 ho9 hg9 hl9 _; have hMa := hM.app (o := ⟨2, 0, (mk (ptB y.toNat))⟩) ho9 hg9 (hl9.imp id (fun e => by rw [e, World.size_alloc])); clear ho9 hg9 hl9)
            refine (unit_go hMa.ia).mono ?_
            rintro e w8 ⟨rfl, ⟨BA2, hI8, hB8⟩, ho8⟩
            have hM1 := hMa.callA ho8 hI8 hB8
            clear hI8 hB8 ho8
            go_wp2_with fail
            refine (unit_go hM1.ib).mono ?_
            rintro e w10 ⟨rfl, ⟨BB2, hI8, hB8⟩, ho8⟩
            have hM2 := hM1.callB ho8 hI8 hB8
            clear hI8 hB8 ho8
            obtain ⟨s0, s1, s2, s3, s4, s5⟩ := stf hM2.cx
            obtain ⟨t0, t1, t2, t3, t4, t5⟩ := stf2 hM2.cy (b := w4.heap.size) (by omega)
            go_wp2_with fail
            clear s0 s1 s2 s3 s4 s5 t0 t1 t2 t3 t4 t5
            rw [set3 hM2.cx]
            have hM3 := hM2.storeX (hdU a)
            have e3 := set3 (W := w10.setRow w4.heap.size #[.int .i64 (hdU a).k, .int .i64 (hdU a).n, .string (hdU a).t]) hM3.cy (.int .i64 (hdU b).k) (.int .i64 (hdU b).n) (.string (hdU b).t)
            rw [e3]
            have hM4 := hM3.storeY (hdU b)
            go_roundg ((a).length + (b).length)
            case measure => have := HG.out; simp at this; simp; omega
            case rel =>
              refine ⟨a, b, D ++ [uop (.I y)], BA2, BB2, ?_, ?_, ?_, hM4⟩
              · have := HE.out
                show _ = _
                rw [← this]
                simp [cmp, uop]
              · have := HT.out
                show _ = _
                simp [tgtU, baseU] at this ⊢
                omega
              · have := HG.out
                refine ⟨rfl, ?_⟩
                simp at this ⊢
                omega
          | R =>
            simp only [hdU, uop] at x0 x1 x2 y0 y1 y2
            clear x1 x2 y1 y2
            go_wp2_with fail
            refine (unit_go hM.ia).mono ?_
            rintro e w8 ⟨rfl, ⟨BA2, hI8, hB8⟩, ho8⟩
            have hM1 := hM.callA ho8 hI8 hB8
            clear hI8 hB8 ho8
            go_wp2_with fail
            refine (unit_go hM1.ib).mono ?_
            rintro e w10 ⟨rfl, ⟨BB2, hI8, hB8⟩, ho8⟩
            have hM2 := hM1.callB ho8 hI8 hB8
            clear hI8 hB8 ho8
            obtain ⟨s0, s1, s2, s3, s4, s5⟩ := stf hM2.cx
            obtain ⟨t0, t1, t2, t3, t4, t5⟩ := stf2 hM2.cy (b := w4.heap.size) (by omega)
            go_wp2_with fail
            clear s0 s1 s2 s3 s4 s5 t0 t1 t2 t3 t4 t5
            rw [set3 hM2.cx]
            have hM3 := hM2.storeX (hdU a)
            have e3 := set3 (W := w10.setRow w4.heap.size #[.int .i64 (hdU a).k, .int .i64 (hdU a).n, .string (hdU a).t]) hM3.cy (.int .i64 (hdU b).k) (.int .i64 (hdU b).n) (.string (hdU b).t)
            rw [e3]
            have hM4 := hM3.storeY (hdU b)
            go_roundg ((a).length + (b).length)
            case measure => have := HG.out; simp at this; simp; omega
            case rel =>
              refine ⟨a, b, D, BA2, BB2, ?_, ?_, ?_, hM4⟩
              · have := HE.out
                show _ = _
                rw [← this]
                simp [cmp]
              · have := HT.out
                show _ = _
                simp [tgtU, baseU] at this ⊢
                omega
              · have := HG.out
                refine ⟨rfl, ?_⟩
                simp at this ⊢
                omega
          | I z =>
            simp only [hdU, uop] at x0 x1 x2 y0 y1 y2
            clear x1 x2
            go_wp2_with (first | (at_builtin; refine wpList_append_lies _ rfl (.tmp 40) (.tmp 42) 22 rfl w.heap.size 35 i0 (.agg #[.int .i64 0, .int .i64 0, .string ⟨#[]⟩]) 3 32 Try.underlying22 hin hz0 hz1 hz2 rfl (by decide) (.slice ao5 D.length cp5) D.length (ocs D) rfl (hM.own.alloc _) ⟨_, 0, none⟩ 1 1 [.int .i64 2, .int .i64 0, .string (mk (ptB z.toNat))] rfl rfl (many_new _ _ _) (three_one _ _ _) (by decide) (by unfold maxLen; omega) (by omega) (by have := hM.le; simp; omega) _ rfl ?_; intro g9 c9 w9 ho9 hg9 hl9 _; have hMa := hM.app (o := ⟨2, 0, (mk (ptB z.toNat))⟩) ho9 hg9 (hl9.imp id (fun e => by rw [e, World.size_alloc])); clear ho9 hg9 hl9) | (go_at_call 58; refine (unit_go hMa.ib).mono ?_; rintro e w8 ⟨rfl, ⟨BB2, hI8, hB8⟩, ho8⟩; have hM1 := hMa.callB ho8 hI8 hB8; clear hI8 hB8 ho8; obtain ⟨s0, s1, s2, s3, s4, s5⟩ := stf hM1.cy))
            clear s0 s1 s2 s3 s4 s5
            rw [set3 hM1.cy]
            have hM2 := hM1.storeY (hdU b)
            go_roundg ((.I y :: a).length + (b).length)
            case measure => have := HG.out; simp at this; simp; omega
            case rel =>
              refine ⟨.I y :: a, b, D ++ [uop (.I z)], BA, BB2, ?_, ?_, ?_, hM2⟩
              · have := HE.out
                show _ = _
                rw [← this]
                simp [cmp, uop]
              · have := HT.out
                show _ = _
                simp [tgtU, baseU] at this ⊢
                omega
              · have := HG.out
                refine ⟨rfl, ?_⟩
                simp at this ⊢
                omega
end Go.Proofs.Ytgabanndjiegdab
