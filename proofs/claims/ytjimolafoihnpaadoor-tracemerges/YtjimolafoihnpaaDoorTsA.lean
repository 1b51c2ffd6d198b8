/-
  The program's row.
-/
import Derived.Test.YtjimolafoihnpaaDoorTrY
import Derived.Deep.LoopGhost
import Derived.Test.YtjimolafoihnpaaDoorTrK
import Derived.Test.YtjimolafoihnpaaDoorTrM
namespace Go.Proofs.YtjimolafoihnpaaDoor.tc
open Go.Maps Go.ChangeShapes Go.WideShapes Go.ChangeAt Go.RowKit Go.PlainAid

/-- Those that come later, until none is left. -/
def drn (D : List (List (Nat × Int))) (H : List (List Nat)) : Nat → Gs → Option Gs
  | 0, s => if s.lt = [] then some s else none
  | F + 1, s => match s.lt.getLast? with
    | none => some s
    | some d => (goO D H 1000 d { s with lt := s.lt.dropLast }).bind (drn D H F)
/-- A document, and what it left. -/
def dcG (D : List (List (Nat × Int))) (H : List (List Nat)) (F : Nat) (s : Gs) (d : Nat) : Option Gs := (goO D H 1000 d s).bind (drn D H F)
def rowM (D : List (List (Nat × Int))) (H : List (List Nat)) (n F : Nat) : Option Gs := (List.range D.length).foldlM (dcG D H F) ⟨List.replicate D.length 0, List.replicate n 0, [], []⟩
theorem drn_nil {D : List (List (Nat × Int))} {H : List (List Nat)} {g : Nat} {s s2 : Gs} (h : drn D H g s = some s2) (hl : s.lt = []) : s = s2 := by
  cases g with
  | zero => rw [drn, if_pos hl] at h; injection h
  | succ g =>
    rw [drn, hl] at h
    injection h
theorem drn_app {D : List (List (Nat × Int))} {H : List (List Nat)} {g x : Nat} {l : List Nat} {s s2 : Gs} (h : drn D H g s = some s2) (hl : s.lt = l ++ [x]) : ∃ g' s3, g = g' + 1 ∧ goO D H 1000 x { s with lt := l } = some s3 ∧ drn D H g' s3 = some s2 := by
  cases g with
  | zero => rw [drn, if_neg (by rw [hl]; simp)] at h; cases h
  | succ g =>
    rw [drn, hl] at h
    simp only [List.getLast?_append, List.getLast?_singleton, Option.some_or, List.dropLast_concat] at h
    cases h9 : goO D H 1000 x { s with lt := l } with
    | none => rw [h9] at h; cases h
    | some s3 => rw [h9] at h; exact ⟨g, s3, rfl, rfl, h⟩
theorem own_cap {W : World} {B e z n k : Nat} {a : Option Addr} {xs : List Value} (h : W.ownsRow B e z (.slice a n k) n xs) : n ≤ k ∧ k ≤ maxLen := by
  rcases h.2 with ⟨h1, h2⟩ | ⟨g, cap, cur, h1, h2, h3, h4, h5, -⟩
  · injection h1 with _ _ h1
    unfold maxLen
    omega
  · injection h1 with _ _ h1
    omega
/-- Five blocks made. -/
theorem al5 (w : World) (q : Nat) (h : w.heap.size = q) (a b c d e : Obj) : Below q w (((((w.alloc a).alloc b).alloc c).alloc d).alloc e) ∧ (((((w.alloc a).alloc b).alloc c).alloc d).alloc e).heap[q]? = some a ∧ (((((w.alloc a).alloc b).alloc c).alloc d).alloc e).heap[q + 1]? = some b ∧ (((((w.alloc a).alloc b).alloc c).alloc d).alloc e).heap[q + 2]? = some c ∧ (((((w.alloc a).alloc b).alloc c).alloc d).alloc e).heap[q + 3]? = some d ∧ (((((w.alloc a).alloc b).alloc c).alloc d).alloc e).heap[q + 4]? = some e := by
  have g1 := alloc_b w a
  have g2 := alloc_b (w.alloc a) b
  have g3 := alloc_b ((w.alloc a).alloc b) c
  have g4 := alloc_b (((w.alloc a).alloc b).alloc c) d
  have g5 := alloc_b ((((w.alloc a).alloc b).alloc c).alloc d) e
  have k1 := heap_alloc_new w a
  have k2 := heap_alloc_new (w.alloc a) b
  have k3 := heap_alloc_new ((w.alloc a).alloc b) c
  have k4 := heap_alloc_new (((w.alloc a).alloc b).alloc c) d
  have k5 := heap_alloc_new ((((w.alloc a).alloc b).alloc c).alloc d) e
  have s1 : (w.alloc a).heap.size = q + 1 := by rw [World.size_alloc, h]
  have s2 : ((w.alloc a).alloc b).heap.size = q + 2 := by rw [World.size_alloc, s1]
  have s3 : (((w.alloc a).alloc b).alloc c).heap.size = q + 3 := by rw [World.size_alloc, s2]
  have s4 : ((((w.alloc a).alloc b).alloc c).alloc d).heap.size = q + 4 := by rw [World.size_alloc, s3]
  rw [h] at g1 k1
  rw [s1] at g2 k2
  rw [s2] at g3 k3
  rw [s3] at g4 k4
  rw [s4] at g5 k5
  refine ⟨(((g1.trans (g2.mono (by omega))).trans (g3.mono (by omega))).trans (g4.mono (by omega))).trans (g5.mono (by omega)), ?_, ?_, ?_, ?_, k5⟩
  · exact (g5.block _ (by omega)).trans ((g4.block _ (by omega)).trans ((g3.block _ (by omega)).trans ((g2.block _ (by omega)).trans k1)))
  · exact (g5.block _ (by omega)).trans ((g4.block _ (by omega)).trans ((g3.block _ (by omega)).trans k2))
  · exact (g5.block _ (by omega)).trans ((g4.block _ (by omega)).trans k3)
  · exact (g5.block _ (by omega)).trans k4
set_option maxRecDepth 20000 in
set_option maxHeartbeats 400000 in
theorem row_any (b F : Nat) (D : List (List (Nat × Int))) (N : List AtK) (sE : Gs) (w : World) (hr : BkR w b D N) (hD : D.length ≤ 1048576) (hN : N.length ≤ 1048576) (hrow : ∀ r ∈ D, r.length ≤ 1048576 ∧ ∀ x ∈ r, x.1 < N.length) (hE : (hvD D).length ≤ 1048576) (hM : rowM D (tabH (hvD D) N.length) N.length F = some sE) :
    Calls Tryd.prog 29 #[.pointer (some ⟨b, 0, none⟩)] w fun e w' => ∃ v, e = .returned v ∧ w'.ownsRow w.heap.size 3 1 v sE.row.length (cv sE.row) ∧ Below w.heap.size w w' := by
  obtain ⟨Z, Z1, Z2, hmk⟩ := make_any (t := 68) Tryd.underlying68 infoInt rfl (by decide) (by decide) N.length (by omega)
  obtain ⟨Y, Y1, Y2, hmkD⟩ := make_any (t := 68) Tryd.underlying68 infoInt rfl (by decide) (by decide) D.length (by omega)
  rw [rep_one _ _ rfl] at Z1 Y1
  have hb0 := alloc_b w (.cells #[.pointer (some ⟨b, 0, none⟩)] 56)
  have hr0 := hr.below hb0
  have e0 := heap_alloc_new w (.cells #[.pointer (some ⟨b, 0, none⟩)] 56)
  have cH := having_any b D N (w.alloc (.cells #[.pointer (some ⟨b, 0, none⟩)] 56)) hr0 hD hN hrow hE
  have c0 := cell_of_row _ w.heap.size 0 _ _ (0, 0) e0
  change World.cell? _ _ = some (.pointer (some ⟨b, 0, none⟩)) at c0
  go_enter Tryd.func29, Tryd.ntmps29
  go_upto_region 1 with fail
  have hb1l := lt_heap e0
  generalize w.alloc _ = w0 at *
  obtain ⟨b1, HB1⟩ : ∃ b1, Hid (b1 = w.heap.size) := ⟨_, rfl⟩
  rw [← HB1.out] at c0 hb1l ⊢
  clear hr e0
  go_wp2_with fail
  refine cH.mono ?_
  rintro e w1 ⟨vh, rfl, hH, hb1⟩
  obtain ⟨ah, ch, rfl, hch⟩ := hH.form
  rw [tabH_len] at *
  obtain ⟨q, HQ⟩ : ∃ q, Hid (q = w1.heap.size) := ⟨_, rfl⟩
  have hr1 := hr0.below hb1
  have d0 := (hb1.cell (p := ⟨b1, 0, none⟩) hb1l).trans c0
  have hb1q : b1 < q := by rw [HQ.out]; exact Nat.lt_of_lt_of_le hb1l hb1.size
  clear c0
  go_upto_region 2 with fail
  rw [← HQ.out]
  have k0 := heap_alloc_new w1 (.cells #[.slice ah N.length ch] 124)
  have s0 : (w1.alloc (.cells #[.slice ah N.length ch] 124)).heap.size = q + 1 := by rw [HQ.out, World.size_alloc]
  have g0 := alloc_b w1 (.cells #[.slice ah N.length ch] 124)
  rw [← HQ.out] at k0 g0
  generalize w1.alloc _ = w2 at *
  have d2 := (g0.cell (p := ⟨b1, 0, none⟩) hb1q).trans d0
  rw [HQ.out] at g0
  have hr2 := hr1.below g0
  rw [← HQ.out] at g0
  obtain ⟨dv, nvv, hbx2, htb2, hln2⟩ := id hr2
  obtain ⟨ad, cd, rfl, hcd⟩ := htb2.form
  obtain ⟨an, cn, rfl, hcn⟩ := hln2.form
  obtain ⟨x0, x1, -, -⟩ := hbx2.cells
  clear hbx2 htb2 hln2 d0
  go_upto_region 3 with fail
  rw [show q + 1 + 1 = q + 2 from rfl]
  have ga := alloc_b w2 (.cells Z 3)
  have ka := heap_alloc_new w2 (.cells Z 3)
  have gb := alloc_b (w2.alloc (.cells Z 3)) (.cells #[.slice (some ⟨q + 1, 0, none⟩) N.length N.length] 68)
  have kb := heap_alloc_new (w2.alloc (.cells Z 3)) (.cells #[.slice (some ⟨q + 1, 0, none⟩) N.length N.length] 68)
  have sa : (w2.alloc (.cells Z 3)).heap.size = q + 2 := by rw [World.size_alloc, s0]
  have sb : ((w2.alloc (.cells Z 3)).alloc (.cells #[.slice (some ⟨q + 1, 0, none⟩) N.length N.length] 68)).heap.size = q + 3 := by rw [World.size_alloc, sa]
  rw [s0] at ka
  rw [sa] at kb
  have kk := (gb.block _ (lt_heap ka)).trans ka
  have g1 := chain ga gb
  have k0' := (g1.block _ (lt_heap k0)).trans k0
  have d3 := (g1.cell (p := ⟨b1, 0, none⟩) (by rw [s0]; show b1 < _; omega)).trans d2
  have x0' := (g1.cell (p := ⟨b, 0, none⟩) (World.block_lt_of_cell? _ _ x0)).trans x0
  have hr3 := hr2.below g1
  have g03 : Below q w1 (_) := g0.trans (g1.mono (by omega))
  generalize (w2.alloc (.cells Z 3)).alloc _ = w3 at *
  clear ga gb ka x0 x1 d2 k0 hr2 sa g1 s0 g0 hmk
  go_upto_region 6 with fail
  rw [show q + 3 + 1 + 1 + 1 + 1 = q + 7 from rfl, show q + 3 + 1 + 1 + 1 = q + 6 from rfl, show q + 3 + 1 + 1 = q + 5 from rfl, show q + 3 + 1 = q + 4 from rfl]
  obtain ⟨g4, t3, t4, t5, t6, t7⟩ := al5 w3 (q + 3) sb (.cells Y 3) (.cells #[.slice (some ⟨q + 3, 0, none⟩) D.length D.length] 68) (.cells #[.slice none 0 0] 68) (.cells #[.slice none 0 0] 68) (.cells #[.nilFunc] 126)
  generalize ((((w3.alloc (.cells Y 3)).alloc _).alloc _).alloc _).alloc _ = w4 at *
  rw [show q + 3 + 1 = q + 4 from rfl] at t4
  rw [show q + 3 + 2 = q + 5 from rfl] at t5
  rw [show q + 3 + 3 = q + 6 from rfl] at t6
  rw [show q + 3 + 4 = q + 7 from rfl] at t7
  have l7 := cell_of_row w4 (q + 7) 0 _ _ (0, 0) t7
  change w4.cell? _ = some .nilFunc at l7
  have z7 := frz t7 0
  have g5 := gb_set w4 (q + 7) 0 (clo q b1)
  have kp : ∀ {i : Nat} {o : Obj}, i ≠ q + 7 → w4.heap[i]? = some o → (w4.setCell ⟨q + 7, 0, none⟩ (clo q b1)).heap[i]? = some o := fun hne e => hp_kept g5 e (by simpa using hne)
  have k3 : ∀ {i : Nat} {o : Obj}, w3.heap[i]? = some o → w4.heap[i]? = some o := fun e => (g4.block _ (by have := lt_heap e; omega)).trans e
  have b34 : Below q w1 w4 := g03.trans (g4.mono (by omega))
  have hs4 := lt_heap t7
  have hZ0 : Z.toList = cv (List.replicate N.length 0) := by rw [Z1]; simp [cv]
  have hY0 : Y.toList = cv (List.replicate D.length 0) := by rw [Y1]; simp [cv]
  have hG0 : Gw w1 (w4.setCell ⟨q + 7, 0, none⟩ (clo q b1)) q b1 D.length N.length (.slice ah N.length ch) ⟨List.replicate D.length 0, List.replicate N.length 0, [], []⟩ (.slice none 0 0) (.slice none 0 0) := by
    refine ⟨b34.grown g5 (by omega) (fun k hk => by injection hk with hk; omega), kp (by omega) (k3 k0'), ?_, kp (by omega) (k3 kb), ?_, kp (by omega) t4, kp (by omega) t5, kp (by omega) t6, hp_set t7 0 _, World.ownsRow_nil _ _ _ _, World.ownsRow_nil _ _ _ _, .inl rfl⟩
    · refine ⟨by rw [cv_len]; simp, .inr ⟨q + 1, N.length, Z, rfl, by omega, kp (by omega) (k3 kk), Nat.le_refl _, by unfold maxLen; omega, Z2, ?_⟩⟩
      rw [hZ0, List.take_of_length_le (by rw [cv_len]; simp)]
    · refine ⟨by rw [cv_len]; simp, .inr ⟨q + 3, D.length, Y, rfl, by omega, kp (by omega) t3, Nat.le_refl _, by unfold maxLen; omega, Y2, ?_⟩⟩
      rw [hY0, List.take_of_length_le (by rw [cv_len]; simp)]
  have hb1c : w1.cell? ⟨b1, 0, none⟩ = some (.pointer (some ⟨b, 0, none⟩)) := by rw [← g03.cell (p := ⟨b1, 0, none⟩) hb1q]; exact d3
  have hHd : ∀ h ∈ tabH (hvD D) N.length, h.length ≤ 1048576 ∧ ∀ o ∈ h, o < D.length := by
    intro h hh
    simp only [tabH, List.mem_map, List.mem_range] at hh
    obtain ⟨n, -, rfl⟩ := hh
    refine ⟨Nat.le_trans (rsH_len _ _) hE, fun o ho => ?_⟩
    simp only [rsH, List.mem_map, List.mem_filter] at ho
    obtain ⟨e, ⟨he, -⟩, rfl⟩ := ho
    simp only [hvD, List.mem_flatten, List.mem_map] at he
    obtain ⟨l, ⟨y, hy, rfl⟩, hl⟩ := he
    obtain ⟨x, -, rfl⟩ := List.mem_map.1 hl
    have := List.mem_zipIdx hy
    simp at this ⊢
    omega
  have cG := goOn_any q b b1 D N (tabH (hvD D) N.length) (.slice ah N.length ch) w1 HQ.out hr1 hb1c hb1q hH (tabH_len _ _) hrow hHd 1000
  have hbq0 : Below w.heap.size w w1 := chain hb0 hb1
  have hb1c' := hb1c
  clear hb1c
  have hrF : ∀ {W : World}, Below q w1 W → BkR W b D N := fun h => hr1.below (by rw [← HQ.out]; exact h)
  generalize hHe : tabH (hvD D) N.length = H at *
  clear hHe hE hHd hY0 hZ0 hs4 b34 k3 kp g5 t3 t4 t5 t6 t7 g4 kk kb sb k0' hmkD Y1 Y2 Z1 Z2 g03 hr3 hr0 hb0 hr1 cH hH x0' hb1 d3
  unfold clo at hG0
  have hst : ∀ (x : Array Value) (W : World) (a : Addr), (store a (.func (.func 52) #[] x)).run Tryd.prog W = stored Tryd.prog W a (.func (.func 52) #[] x) .plain := fun _ _ _ => run_store _ _ _ _ _ rfl
  go_upto_region 7 with fail
  generalize w4.setCell _ _ = wG at *
  clear l7 z7 hst
  have bG := hG0.bel
  obtain ⟨dv2, nv2, hbx3, htb3, -⟩ := hrF bG
  obtain ⟨ad2, cd2, rfl, hcd2⟩ := htb3.form
  obtain ⟨y0, -, -, -⟩ := hbx3.cells
  have y1 : wG.cell? ⟨b1, 0, none⟩ = some (.pointer (some ⟨b, 0, none⟩)) := (bG.cell (p := ⟨b1, 0, none⟩) hb1q).trans hb1c'
  clear hbx3 htb3
  have HM : Hid ((List.range D.length).foldlM (dcG D H F) ⟨List.replicate D.length 0, List.replicate N.length 0, [], []⟩ = some sE) := hM
  have HbA : Hid (Below w.heap.size w w1 ∧ w.heap.size ≤ q) := ⟨hbq0, by rw [HQ.out]; exact hbq0.size⟩
  clear hM hbq0 bG hrF
  go_wp2_with fail
  clear y0 y1
  go_loopw [31] (fun iv' wr => ∃ (k : Nat) (sk : Gs) (vr vl : Value), k ≤ D.length ∧ iv' = .int .i64 (k : Int) ∧ Hid (((List.range D.length).drop k).foldlM (dcG D H F) sk = some sE) ∧ Gw w1 wr q b1 D.length N.length (.slice ah N.length ch) sk vr vl) (fun iv' _ => D.length - (Go.RowKit.intOf iv').toNat)
  case atStart => exact ⟨0, _, _, _, by omega, rfl, HM, hG0⟩
  case round =>
    obtain ⟨k, sk, vr, vl, hk, rfl, HF, hwk⟩ := hrel
    clear hG0 HM
    by_cases hlt : k < D.length
    · have hlt' : (k : Int) < (D.length : Int) := by omega
      obtain ⟨s1, s2, hs1, hs2, HF2⟩ : ∃ s1 s2, goO D H 1000 k sk = some s1 ∧ Hid (drn D H F s1 = some s2) ∧ Hid (((List.range D.length).drop (k + 1)).foldlM (dcG D H F) s2 = some sE) := by
        have h9 := HF.out
        have hl9 : k < (List.range D.length).length := by simpa using hlt
        rw [List.drop_eq_getElem_cons hl9, List.getElem_range, List.foldlM_cons] at h9
        cases h10 : dcG D H F sk k with
        | none => rw [h10] at h9; cases h9
        | some s2 =>
          rw [h10] at h9
          rw [dcG] at h10
          cases h11 : goO D H 1000 k sk with
          | none => rw [h11] at h10; cases h10
          | some s1 => rw [h11] at h10; exact ⟨s1, s2, rfl, h10, h9⟩
      have cI := cG k _ s1 0 wr vr vl hs1 hwk (by omega) (by omega)
      have g0 := cell_of_row wr (q + 7) 0 _ _ (0, 0) hwk.gob
      change wr.cell? _ = some (clo q b1) at g0
      unfold clo at g0
      clear hs1 hwk HF
      go_wp2_with (refine cI.mono ?_; rintro e w8 ⟨rfl, vr8, vl8, hw8⟩)
      clear g0 cI
      go_loopg [] F (fun g wr => ∃ (s : Gs) (vr vl : Value), Aside (drn D H g s = some s2) ∧ Gw w1 wr q b1 D.length N.length (.slice ah N.length ch) s vr vl)
      case atStart => exact ⟨s1, vr8, vl8, hs2, hw8⟩
      case round =>
        obtain ⟨s, vr, vl, HA, hw⟩ := hrel
        clear hw8 hs2
        have l6 := cell_of_row wr (q + 6) 0 _ _ (0, 0) hw.latB
        change wr.cell? _ = some vl at l6
        rcases List.eq_nil_or_concat s.lt with hnil | ⟨l, x, hcat⟩
        · have he := drn_nil HA.out hnil
          subst he
          obtain ⟨al, kl, rfl⟩ := own_form hw.lat
          have hn0 : s.lt.length = 0 := by rw [hnil]; rfl
          clear HA hnil
          go_wp2_with fail
          exact ⟨⟨k + 1, s, _, _, by omega, by go_num, HF2, hw⟩, by simp [Go.RowKit.intOf]; omega⟩
        · rw [List.concat_eq_append] at hcat
          obtain ⟨g', s3, rfl, hgo, hdr⟩ := drn_app HA.out hcat
          have hlat := hw.lat
          rw [hcat, List.length_append, cv_app] at hlat
          obtain ⟨gl, kl, rfl, -, -⟩ := hlat.form (by simp)
          rw [List.length_singleton] at hlat
          have hlc := hlat.cells (g := gl) rfl l.length (.int .i64 (x : Int)) (by rw [List.getElem?_append_right (by rw [cv_len]; exact Nat.le_refl _), cv_len]; simp)
          rw [addr4, Nat.zero_add] at hlc
          obtain ⟨hkl, hkm⟩ := own_cap hlat
          have hwl : IntKind.i64.wrap (l.length : Int) = (l.length : Int) := by unfold maxLen at hkm; rw [IntKind.wrap_i64]; omega
          clear hkm
          have hp := hw.popLat hcat
          have z6 := frz hw.latB 0
          have hl9 := lt_heap hw.gob
          clear HA hlat hw hcat
          go_upto_region 14 with fail
          clear l6 hlc z6
          generalize wr.setCell _ _ = w9 at *
          have cI := cG x _ s3 0 w9 _ _ hgo hp (by omega) (by omega)
          have g0 := cell_of_row w9 (q + 7) 0 _ _ (0, 0) hp.gob
          change w9.cell? _ = some (clo q b1) at g0
          unfold clo at g0
          clear hp hgo
          go_wp2_with (refine cI.mono ?_; rintro e w8 ⟨rfl, vr8, vl8, hw8⟩)
          go_roundg g'
          · exact ⟨s3, vr8, vl8, hdr, hw8⟩
          · omega
    · obtain rfl : k = D.length := by omega
      have h9 := HF.out
      rw [List.drop_of_length_le (by simp)] at h9
      injection h9 with h9
      subst h9
      clear HF
      have g0 := cell_of_row _ (q + 5) 0 _ _ (0, 0) hwk.rowB
      change World.cell? _ _ = some vr at g0
      obtain ⟨h8, h81⟩ := HbA.out
      have hbe := h8.trans (hwk.bel.mono h81)
      go_wp2_with fail
      go_ret
      exact ⟨_, rfl, own_mono hwk.row (by omega), hbe⟩
end Go.Proofs.YtjimolafoihnpaaDoor.tc

/-
  The program's Order.
-/
namespace Go.Proofs.YtjimolafoihnpaaDoor.tc
open Go.Maps Go.ChangeShapes Go.WideShapes Go.ChangeAt Go.RowKit Go.PlainAid

theorem atG_mem (c q : Int) : ∀ (zs : List Int) (n : Int) (x : Atm), x ∈ atG c q n zs → n ≤ x.n ∧ x.n < n + (zs.length : Int)
  | [], n, x, h => by simp [atG] at h
  | z :: zs, n, x, h => by
    rw [atG, List.mem_cons] at h
    rcases h with rfl | h
    · simp; omega
    · have := atG_mem c q zs (n + 1) x h
      simp
      omega
theorem nm_bd {L : List (List RunD)} (hl : ∀ l ∈ L, l.length ≤ 1048576 ∧ ∀ r ∈ l, r.t.size ≤ 1048576 ∧ InI r.c ∧ InI r.q) : ∀ k ∈ nmA (aTs L), 0 ≤ k.2.2 ∧ k.2.2 ≤ 9223372036854775000 := by
  intro k hk
  obtain ⟨x, hx, rfl⟩ := nmA_mem.1 hk
  simp only [aTs, aT, List.mem_flatten, List.mem_map] at hx
  obtain ⟨_, ⟨l, hlL, rfl⟩, hx⟩ := hx
  rw [List.mem_flatten] at hx
  obtain ⟨_, h2, hx⟩ := hx
  obtain ⟨r, hr, rfl⟩ := List.mem_map.1 h2
  unfold atR at hx
  split at hx
  · rename_i hf
    simp only [fOk, Bool.and_eq_true, decide_eq_true_eq] at hf
    have h3 := atG_mem _ _ _ _ _ hx
    have h4 := ((hl l hlL).2 r hr).1
    have h5 := (cpl_le r.t).2
    have h6 : (pts r.t).length ≤ r.t.size := by rw [pts, ptL_length]; omega
    show 0 ≤ x.n ∧ x.n ≤ _
    omega
  · simp at hx
theorem hv_tot : ∀ (D : List (List (Nat × Int))), (hvD D).length = (D.map List.length).sum := by
  intro D
  rw [hvD, List.length_flatten, List.map_map]
  have h : ∀ (l : List (List (Nat × Int))) (n : Nat), ((l.zipIdx n).map (List.length ∘ fun y => y.1.map fun x => (x.1, y.2))).sum = (l.map List.length).sum := by
    intro l
    induction l with
    | nil => intro n; rfl
    | cons a l ih => intro n; simp [ih]
  exact h D 0
/-- What Order answers. -/
def ordO (D : List (List (Nat × Int))) (N : List AtK) (row : List Nat) : Option (List RunD) :=
  match ptF N.length D.flatten with
  | none => none
  | some P => if row.length < N.length then none else some (rns N P row)
set_option maxRecDepth 20000 in
set_option maxHeartbeats 1000000 in
theorem order_any (v : Value) (L : List (List RunD)) (F : Nat) (sE : Gs) (w : World) (hr : RdL w v L) (hL : L.length ≤ 1048576) (hl : ∀ l ∈ L, l.length ≤ 1048576 ∧ ∀ r ∈ l, r.t.size ≤ 1048576 ∧ InI r.c ∧ InI r.q) (hn : (aTs L).length ≤ 1048576)
    (hM : rowM (dcs L) (tabH (hvD (dcs L)) (nmA (aTs L)).length) (nmA (aTs L)).length F = some sE) (hE : sE.row.length ≤ 1048576) (hin : ∀ n ∈ sE.row, n < (nmA (aTs L)).length) :
    Calls Tryd.prog 10 #[v] w fun e w' => ∃ u, e = .returned (.tuple #[u, .bool (ordO (dcs L) (nmA (aTs L)) sE.row).isSome]) ∧ w'.ownsRow w.heap.size 44 4 u ((ordO (dcs L) (nmA (aTs L)) sE.row).getD []).length ((((ordO (dcs L) (nmA (aTs L)) sE.row).getD []).map cRn).flatten) ∧ Below w.heap.size w w' := by
  have c1 := read_any v L w hr hL hl hn
  have hDl : (dcs L).length = L.length := by simp [dcs]
  have hrow : ∀ r ∈ dcs L, r.length ≤ 1048576 ∧ ∀ x ∈ r, x.1 < (nmA (aTs L)).length := by
    intro r hr2
    obtain ⟨l, hl2, rfl⟩ := List.mem_map.1 hr2
    refine ⟨?_, dA_row hl2⟩
    have := aT_mem_le hl2
    simp only [dA, List.length_map]
    omega
  have hHe : (hvD (dcs L)).length ≤ 1048576 := by
    rw [hv_tot, dcs, docs_tot]
    exact hn
  have hNl : (nmA (aTs L)).length ≤ 1048576 := Nat.le_trans (nmA_len _) hn
  have hbd := nm_bd hl
  rw [show (L.map fun l => dA (nmA (aTs L)) (aT l)) = dcs L from rfl] at c1
  rw [← hDl] at hL
  generalize nmA (aTs L) = N at *
  generalize dcs L = D at *
  obtain ⟨av, cv', rfl, hav, -⟩ := hr
  clear hDl hl hn hav
  obtain ⟨O, HO⟩ : ∃ O, Hid (ordO D N sE.row = O) := ⟨_, rfl⟩
  rw [HO.out]
  go_enter Tryd.func10, Tryd.ntmps10
  go_wp2_with fail
  refine c1.mono ?_
  rintro e w1 ⟨b, dv, nvv, rfl, hb1, hbb, hbx, htb, hln⟩
  have hk1 : BkR w1 b D N := ⟨_, _, hbx, htb, hln⟩
  have c2 := points24_any b D N w1 hk1 hL hNl hrow
  clear c1 hbx htb hln
  have HOd := HO
  unfold ordO at HO
  generalize ptF N.length D.flatten = PF at *
  cases PF with
  | none =>
    have HO2 : Hid (O = none) := HO.out.symm
    clear HO HOd
    simp only [Option.isSome_none] at c2
    go_wp2_with fail
    refine c2.mono ?_
    rintro e w2 ⟨vp, rfl, -, hb2⟩
    have hbb2 := chain hb1 hb2
    go_wp2_with fail
    go_ret2
    rw [HO2.out]
    exact ⟨_, rfl, World.ownsRow_nil _ _ _ _, hbb2⟩
  | some P =>
    have HO2 : Hid ((if sE.row.length < N.length then none else some (rns N P sE.row)) = O) := HO.out
    clear HO HOd
    simp only [Option.isSome_some] at c2
    go_wp2_with fail
    refine c2.mono ?_
    rintro e w2 ⟨vp, rfl, hP, hb2⟩
    obtain ⟨hPl, hPo⟩ := hP P rfl
    have hbb2 := chain hb1 hb2
    obtain ⟨ap, kp, rfl⟩ := own_form hPo
    have hk2 := hk1.below hb2
    have c3 := row_any b F D N sE w2 hk2 hL hNl hrow hHe hM
    clear c2 hP hk1
    go_wp2_with fail
    refine c3.mono ?_
    rintro e w3 ⟨vr, rfl, hro, hb3⟩
    obtain ⟨ar, kr, rfl⟩ := own_form hro
    have hbb3 := chain hbb2 hb3
    have hk3 := hk2.below hb3
    have hP3 := own_below hPo hb3
    obtain ⟨dv2, nv2, hbx, -, hln⟩ := id hk3
    obtain ⟨an, cn, rfl, -⟩ := hln.form
    obtain ⟨-, x1, -, -⟩ := hbx.cells
    clear c3 hbx hln hk2 hPo
    have HE : Hid (sE.row.length ≤ 1048576) := hE
    by_cases hlt : sE.row.length < N.length
    · have hd : decide ((sE.row.length : Int) < (N.length : Int)) = true := decide_eq_true (by omega)
      have HO3 : Hid (O = none) := by show _ = _; rw [← HO2.out, if_pos hlt]
      clear HO2
      go_wp2_with fail
      go_ret2
      rw [HO3.out]
      exact ⟨_, rfl, World.ownsRow_nil _ _ _ _, hbb3⟩
    · have hd : decide ((sE.row.length : Int) < (N.length : Int)) = false := decide_eq_false (by omega)
      have HO3 : Hid (O = some (rns N P sE.row)) := by show _ = _; rw [← HO2.out, if_neg hlt]
      have c4 := runs_any b D N sE.row P _ _ w3 hk3 (by rw [cv_flat]; exact Ln.own hro) (by rw [hPl]; exact Ln.own hP3) (fun n hn => ⟨by rw [hPl]; exact hin n hn, hin n hn⟩) hbd hE
      clear HO2
      go_wp2_with fail
      refine c4.mono ?_
      rintro e w4 ⟨vl, rfl, ho, hb4⟩
      have hbb4 := chain hbb3 hb4
      obtain ⟨al, kl, rfl⟩ := own_form ho
      generalize rns N P sE.row = R at *
      clear c4 hd x1 
      go_wp2_with fail
      go_ret2
      rw [HO3.out]
      exact ⟨_, rfl, own_mono ho hbb3.size, hbb4⟩
end Go.Proofs.YtjimolafoihnpaaDoor.tc
