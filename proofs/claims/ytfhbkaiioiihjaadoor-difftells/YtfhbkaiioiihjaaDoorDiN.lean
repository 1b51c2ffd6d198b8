/-
  The contract of the reference's table.
-/
import Derived.Test.YtfhbkaiioiihjaaDoorDiM
namespace Go.Proofs.YtfhbkaiioiihjaaDoor
open Go.ChangeShapes Go.WideShapes Go.ChangeAt Go.RowKit Go.PlainAid

theorem int_zero (N : Nat) : Array.replicate N (Value.int .i64 0) = intC N (fun _ => 0) := by
  apply Array.ext_getElem?
  intro k
  rw [intC_get, Array.getElem?_replicate]
  rfl
theorem top_zero (n m : Nat) (R : Nat → Nat) : Array.replicate (n + 1) (Value.slice none 0 0) = topC n m (n + 1) R := by
  apply Array.ext_getElem?
  intro k
  rw [topC_get, Array.getElem?_replicate]
  by_cases h : k < n + 1
  · rw [if_pos h, if_pos h, if_pos h]
  · rw [if_neg h, if_neg h]
def setR (R : Nat → Nat) (k b : Nat) : Nat → Nat := fun i => if i = k then b else R i
def setF (F : Nat → Nat → Nat) (k : Nat) : Nat → Nat → Nat := fun i => if i = k then (fun _ => 0) else F i
theorem Tp.make {w W : World} {g n m k : Nat} {R : Nat → Nat} {F : Nat → Nat → Nat} (h : Tp w W g n m (k + 1) R F) :
    Tp w ((W.alloc (.cells (Array.replicate (m + 1) (Value.int .i64 0)) 3)).setCell ⟨g, k, none⟩ (.slice (some ⟨W.heap.size, 0, none⟩) (m + 1) (m + 1))) g n m k (setR R k W.heap.size) (setF F k) := by
  have hs := h.bel.size
  have hg : g < W.heap.size := heap_lt h.top
  have ht : (W.alloc (.cells (Array.replicate (m + 1) (Value.int .i64 0)) 3)).heap[g]? = some (.cells (topC n m (k + 1) R) 47 (0, 0)) := (Below.heap_alloc _ _ _ hg).trans h.top
  have hB : Below w.heap.size w (W.alloc (.cells (Array.replicate (m + 1) (Value.int .i64 0)) 3)) := h.bel.alloc hs _
  have hlt : ∀ i, k + 1 ≤ i → i ≤ n → R i < W.heap.size := fun i h1 h2 => heap_lt (h.row i h1 h2)
  refine ⟨?_, fun i h1 h2 => ?_, h.gs, fun i h1 h2 => ?_, fun i j i1 i2 j1 j2 e => ?_, below_set hB h.gs (by simp; omega)⟩
  · rw [heap_setCell ht]
    congr 2
    apply Array.ext_getElem?
    intro i
    rw [Array.getElem?_setIfInBounds, topC_get, topC_get, topC_size]
    unfold setR
    by_cases e : k = i
    · subst e; simp
    · rw [if_neg e]
      by_cases q : i < n + 1
      · rw [if_pos q, if_pos q]
        by_cases q2 : i < k
        · rw [if_pos q2, if_pos (by omega)]
        · rw [if_neg q2, if_neg (by omega), if_neg (fun x => e x.symm)]
      · rw [if_neg q, if_neg q]
  · unfold setR setF Rw
    by_cases e : i = k
    · rw [if_pos e, if_pos e, Below.heap_setCell _ ⟨g, k, none⟩ _ _ (fun x => by have x' : W.heap.size = g := x; omega), heap_alloc_new, int_zero]
    · rw [if_neg e, if_neg e, Below.heap_setCell _ ⟨g, k, none⟩ _ _ (fun x => h.gR i (by omega) h2 x.symm), Below.heap_alloc _ _ _ (hlt i (by omega) h2)]
      exact h.row i (by omega) h2
  · unfold setR
    by_cases e : i = k
    · rw [if_pos e]; exact hs
    · rw [if_neg e]; exact h.rs i (by omega) h2
  · unfold setR at e
    by_cases e1 : i = k
    · by_cases e2 : j = k
      · omega
      · rw [if_pos e1, if_neg e2] at e
        have := hlt j (by omega) j2
        omega
    · by_cases e2 : j = k
      · rw [if_neg e1, if_pos e2] at e
        have := hlt i (by omega) i2
        omega
      · rw [if_neg e1, if_neg e2] at e
        exact h.ne i j (by omega) i2 (by omega) j2 e
theorem Tp.below {w W W' : World} {g n m k : Nat} {R : Nat → Nat} {F : Nat → Nat → Nat} (h : Tp w W g n m k R F) (hb : Below W.heap.size W W') : Tp w W' g n m k R F :=
  ⟨(hb.block g (heap_lt h.top)).trans h.top, fun i h1 h2 => (hb.block (R i) (heap_lt (h.row i h1 h2))).trans (h.row i h1 h2), h.gs, h.rs, h.ne, chain h.bel hb⟩
/-- What the numbers are. -/
def Vl (A T : List Int) (k : Nat) (F : Nat → Nat → Nat) : Prop := ∀ i j, k ≤ i → i ≤ A.length → j ≤ T.length → F i j = lc (A.drop i) (T.drop j)
structure Vk (A T : List Int) (k q : Nat) (G : Nat → Nat → Nat) : Prop where
  up : Vl A T (k + 1) G
  now : ∀ j, q ≤ j → j ≤ T.length → G k j = lc (A.drop k) (T.drop j)
theorem vk_start {A T : List Int} {k : Nat} {F : Nat → Nat → Nat} (h : Vl A T (k + 1) F) : Vk A T k T.length (setF F k) := by
  refine ⟨fun i j h1 h2 h3 => ?_, fun j h1 h2 => ?_⟩
  · unfold setF; rw [if_neg (by omega)]; exact h i j h1 h2 h3
  · unfold setF
    have : j = T.length := by omega
    rw [if_pos rfl, this, List.drop_length, lc_nil]
theorem Vk.done {A T : List Int} {k : Nat} {G : Nat → Nat → Nat} (h : Vk A T k 0 G) : Vl A T k G := fun i j h1 h2 h3 => by
  by_cases e : i = k
  · rw [e]; exact h.now j (Nat.zero_le _) h3
  · exact h.up i j (by omega) h2 h3
theorem putF_self (F : Nat → Nat → Nat) (i j v : Nat) : putF F i j v i j = v := by simp [putF, putT]
theorem putF_row {F : Nat → Nat → Nat} {i j v a : Nat} (h : a ≠ i) : putF F i j v a = F a := by simp [putF, h]
theorem putF_col {F : Nat → Nat → Nat} {i j v b : Nat} (h : b ≠ j) : putF F i j v i b = F i b := by simp [putF, putT, h]
theorem Vk.ne {A T : List Int} {k q : Nat} {G : Nat → Nat → Nat} (h : Vk A T k (q + 1) G) (hk : k < A.length) (hq : q < T.length) (e : A[k] ≠ T[q]) : Vk A T k q (putF G k q (max (G (k + 1) q) (G k (q + 1)))) := by
  refine ⟨fun i j h1 h2 h3 => by rw [putF_row (by omega)]; exact h.up i j h1 h2 h3, fun j h1 h2 => ?_⟩
  by_cases c : j = q
  · rw [c, putF_self, h.up (k + 1) q (Nat.le_refl _) (by omega) (by omega), h.now (q + 1) (Nat.le_refl _) (by omega), drop_at hk, drop_at hq, lc_ne (fun x => e x.symm)]
  · rw [putF_col c]; exact h.now j (by omega) h2
theorem Vk.eq {A T : List Int} {k q x : Nat} {G : Nat → Nat → Nat} (h : Vk A T k (q + 1) G) (hk : k < A.length) (hq : q < T.length) (e : A[k] = T[q]) : Vk A T k q (putF (putF G k q x) k q (G (k + 1) (q + 1) + 1)) := by
  refine ⟨fun i j h1 h2 h3 => by rw [putF_row (by omega), putF_row (by omega)]; exact h.up i j h1 h2 h3, fun j h1 h2 => ?_⟩
  by_cases c : j = q
  · rw [c, putF_self, h.up (k + 1) (q + 1) (Nat.le_refl _) (by omega) (by omega), drop_at hk, drop_at hq, e, lc_eq]
  · rw [putF_col c, putF_col c]; exact h.now j (by omega) h2
theorem Vl.le {A T : List Int} {k i j : Nat} {F : Nat → Nat → Nat} (h : Vl A T k F) (h1 : k ≤ i) (h2 : i ≤ A.length) (h3 : j ≤ T.length) : F i j ≤ T.length := by
  rw [h i j h1 h2 h3]
  have := lc_le (A.drop i) (T.drop j)
  rw [List.length_drop] at this
  omega

theorem make_gen {t e B : Nat} {z : Value} (hu : Tryd.prog.underlying t = some (.slice e)) (hinfo : (Tryd.prog.info? e).map (fun i => (i.zero, i.size, i.bytes)) = some (some z, 1, B)) (hz : z.cells = #[z]) (hB : B ≤ 100) (n : Nat) (hn : n ≤ 1001) (W : World) :
    (Instr.makeSlice t (.int .i64 (n : Int)) (.int .i64 (n : Int))).run Tryd.prog W = .ok (.slice (some ⟨W.heap.size, 0, none⟩) n n) (W.alloc (.cells (Array.replicate n z) e)) := by
  obtain ⟨i0, hi, hz0, hz1, hz2⟩ := info_parts hinfo
  have hm : (i0.bytes : Int) * (n : Int) ≤ 281474976710656 := by
    rw [hz2]
    have h1 : (B : Int) * (n : Int) ≤ 100 * (n : Int) := Int.mul_le_mul_of_nonneg_right (by omega) (by omega)
    omega
  have h := run_make (P := Tryd.prog) W t e i0 _ hu hi hz0 .i64 .i64 (n : Int) (n : Int) (by omega) (by omega) hm (by omega)
  rw [hz1, hz, show #[z] = Array.replicate 1 z from rfl, made_rep _ _ _ (by omega), Int.toNat_natCast, Nat.mul_one] at h
  exact h
theorem Tryd.infoIs : (Tryd.prog.info? 47).map (fun i => (i.zero, i.size, i.bytes)) = some (some (.slice none 0 0), 1, 24) := by kernel_rfl
theorem Tryd.infoI : (Tryd.prog.info? 3).map (fun i => (i.zero, i.size, i.bytes)) = some (some (.int .i64 0), 1, 8) := by kernel_rfl

set_option maxRecDepth 20000 in
set_option maxHeartbeats 1000000 in
theorem rtable_any {w : World} {vA vT : Value} {A T : List Int} (hA : RdP w vA A) (hT : RdP w vT T) (mA : A.length ≤ 1000) (mT : T.length ≤ 1000) :
    Calls Tryd.prog 21 #[vA, vT] w fun e w' => ∃ R F, e = .returned (.slice (some ⟨w.heap.size, 0, none⟩) (A.length + 1) (A.length + 1)) ∧ Tp w w' w.heap.size A.length T.length 0 R F ∧ Vl A T 0 F := by
  obtain ⟨ao, cp, rfl, -, hc⟩ := hA
  obtain ⟨bo, bp, rfl, -, hd⟩ := hT
  have mA' : (A.length : Int) ≤ 1000 := by omega
  have mT' : (T.length : Int) ≤ 1000 := by omega
  have t0 : Tp w (w.alloc (.cells (Array.replicate (A.length + 1) (Value.slice none 0 0)) 47)) w.heap.size A.length T.length (A.length + 1) (fun _ => 0) (fun _ _ => 0) :=
    ⟨by rw [heap_alloc_new, top_zero A.length T.length], fun i h1 h2 => by omega, Nat.le_refl _, fun i h1 h2 => by omega, fun i j h1 h2 => by omega, (Below.refl _ w).alloc (Nat.le_refl _) _⟩
  have t1 := t0.make
  have v1 : Vl A T A.length (setF (fun _ _ => 0) A.length) := fun i j h1 h2 h3 => by
    have : i = A.length := by omega
    rw [this, List.drop_length, lc_nil']
    simp [setF]
  have mk1 := make_gen Tryd.underlying50 Tryd.infoIs rfl (by decide) (A.length + 1) (by omega) w
  have mk2 := make_gen Tryd.underlying47 Tryd.infoI rfl (by decide) (T.length + 1) (by omega)
  rw [show ((A.length + 1 : Nat) : Int) = (A.length : Int) + 1 by omega] at mk1
  rw [show ((T.length + 1 : Nat) : Int) = (T.length : Int) + 1 by omega] at mk2
  have mk2' := mk2 (w.alloc (.cells (Array.replicate (A.length + 1) (Value.slice none 0 0)) 47))
  have z0 : ((w.alloc (.cells (Array.replicate (A.length + 1) (Value.slice none 0 0)) 47)).alloc (.cells (Array.replicate (T.length + 1) (Value.int .i64 0)) 3)).heap[w.heap.size]? = some (.cells (Array.replicate (A.length + 1) (Value.slice none 0 0)) 47) := (Below.heap_alloc _ _ _ (by simp)).trans (heap_alloc_new w _)
  have z1 : ((w.alloc (.cells (Array.replicate (A.length + 1) (Value.slice none 0 0)) 47)).alloc (.cells (Array.replicate (T.length + 1) (Value.int .i64 0)) 3)).cell? ⟨w.heap.size, A.length, none⟩ = some (.slice none 0 0) := by
    rw [cell_of_row _ _ A.length _ _ (0, 0) z0, Array.getElem?_replicate, if_pos (by omega)]
  have z2 := frz z0 A.length
  clear t0 z0 mk2'
  have mk2' := mk2 (w.alloc (.cells (Array.replicate (A.length + 1) (Value.slice none 0 0)) 47))
  generalize w.alloc (.cells (Array.replicate (A.length + 1) (Value.slice none 0 0)) 47) = w0 at *
  have HT : Hid _ := And.intro t1 v1
  clear t1 v1
  go_enter Tryd.func21, Tryd.ntmps21
  go_wp2_with fail
  clear mk1 mk2' z1 z2
  go_loopw [6] (fun i wr => ∃ (k : Nat) (R : Nat → Nat) (F : Nat → Nat → Nat), k ≤ A.length ∧ i = .int .i64 ((k : Int) - 1) ∧ Tp w wr w.heap.size A.length T.length k R F ∧ Vl A T k F) (fun i _ => (Go.RowKit.intOf i + 1).toNat)
  case atStart => exact ⟨A.length, _, _, Nat.le_refl _, by go_num, HT.out.1, HT.out.2⟩
  case round =>
    obtain ⟨k, R, F, hk, rfl, hP, hl⟩ := hrel
    clear HT
    rcases k with _ | k
    · have e : (((0 : Nat) : Int) - 1) = -1 := by omega
      rw [e]
      clear hc hd mk2
      go_wp2_with fail
      go_ret
      exact ⟨R, F, rfl, hP, hl⟩
    · have e : (((k + 1 : Nat) : Int) - 1) = (k : Int) := by omega
      rw [e]
      clear e
      have hk' : k < A.length := by omega
      have hk2 : (k : Int) < (A.length : Int) := by omega
      obtain ⟨b, off, rfl, hlt, cA⟩ := hc (by omega)
      have cA := cA k hk'
      have hm := mk2 wr
      have hM := hP.make
      have hg : w.heap.size < wr.heap.size := heap_lt hP.top
      have z0 : (wr.alloc (.cells (Array.replicate (T.length + 1) (Value.int .i64 0)) 3)).heap[w.heap.size]? = some (.cells (topC A.length T.length (k + 1) R) 47) := (Below.heap_alloc _ _ _ hg).trans hP.top
      have z1 := cell_of_row _ _ k _ _ (0, 0) z0
      have z2 := frz z0 k
      rw [topC_get, if_pos (by omega), if_pos (by omega)] at z1
      have hv := vk_start hl
      clear hc mk2 z0 hg hl hP
      go_upto_region 8 with fail
      generalize (wr.alloc (.cells (Array.replicate (T.length + 1) (Value.int .i64 0)) 3)).setCell ⟨w.heap.size, k, none⟩ (.slice (some ⟨wr.heap.size, 0, none⟩) (T.length + 1) (T.length + 1)) = W1 at hM ⊢
      generalize setR R k wr.heap.size = R1 at *
      generalize setF F k = F1 at *
      clear z1 z2 hm
      go_loopw [7] (fun i wq => ∃ (q : Nat) (G : Nat → Nat → Nat), q ≤ T.length ∧ i = .int .i64 ((q : Int) - 1) ∧ Tp w wq w.heap.size A.length T.length k R1 G ∧ Vk A T k q G) (fun i _ => (Go.RowKit.intOf i + 1).toNat)
      case atStart => exact ⟨T.length, _, Nat.le_refl _, by go_num, hM, hv⟩
      case round =>
        obtain ⟨q, G, hq, rfl, hP, hv⟩ := hrel
        clear hM
        rcases q with _ | q
        · have e : (((0 : Nat) : Int) - 1) = -1 := by omega
          rw [e]
          clear hd cA
          go_wp2_with fail
          go_roundw
          case rel => exact ⟨k, R1, G, by omega, by go_num, hP, hv.done⟩
          case measure => simp [Go.RowKit.intOf]
        · have e : (((q + 1 : Nat) : Int) - 1) = (q : Int) := by omega
          rw [e]
          clear e
          have hq' : q < T.length := by omega
          have hq2 : (q : Int) < (T.length : Int) := by omega
          obtain ⟨b2, off2, rfl, hlt2, cB⟩ := hd (by omega)
          have cB := cB q hq'
          have cA1 := (hP.bel.cell (p := ⟨b, off + k, none⟩) hlt).trans cA
          have cB1 := (hP.bel.cell (p := ⟨b2, off2 + q, none⟩) hlt2).trans cB
          rw [show A.getD k 0 = A[k] by simp [hk']] at cA1
          rw [show T.getD q 0 = T[q] by simp [hq']] at cB1
          have P1 := hP.drew
          have kn : k + 1 ≤ A.length := by omega
          have c0 := P1.cell k (Nat.le_refl _) (by omega)
          have c1 := P1.cell (k + 1) (by omega) kn
          have r0 := (P1.row k (Nat.le_refl _) (by omega)).cell q (by omega)
          have r1 := (P1.row (k + 1) (by omega) kn).cell q (by omega)
          have r2 := (P1.row k (Nat.le_refl _) (by omega)).cell (q + 1) (by omega)
          have z0 := frz (P1.row k (Nat.le_refl _) (by omega)) q
          have u1 : G (k + 1) q ≤ 1000 := by have := hv.up.le (Nat.le_refl _) kn (j := q) (by omega); omega
          have u2 : G k (q + 1) ≤ 1000 := by rw [hv.now (q + 1) (Nat.le_refl _) (by omega)]; have := lc_le (A.drop k) (T.drop (q + 1)); rw [List.length_drop] at this; omega
          have u3 : G (k + 1) (q + 1) ≤ 1000 := by have := hv.up.le (Nat.le_refl _) kn (j := q + 1) (by omega); omega
          have S := P1.put k q (max (G (k + 1) q) (G k (q + 1))) (Nat.le_refl _) (by omega)
          have e1 : ((max (G (k + 1) q) (G k (q + 1)) : Nat) : Int) = max (G (k + 1) q : Int) (G k (q + 1) : Int) := by omega
          rw [e1] at S
          have S : Tp w ((wr.setCell ⟨R1 k, q, none⟩ (.int .i64 (max (G (k + 1) q : Int) (G k (q + 1) : Int)))).drew) w.heap.size A.length T.length k R1 (putF G k q (max (G (k + 1) q) (G k (q + 1)))) := S
          have w1 : IntKind.i64.wrap ((k : Int) + 1) = (k : Int) + 1 := wraps_i64 _ (by omega) (by omega)
          have w2 : IntKind.i64.wrap ((q : Int) + 1) = (q : Int) + 1 := wraps_i64 _ (by omega) (by omega)
          have k3 : (k : Int) + 1 < (A.length : Int) + 1 := by omega
          have k4 : (k : Int) < (A.length : Int) + 1 := by omega
          have k5 : (q : Int) + 1 < (T.length : Int) + 1 := by omega
          have k6 : (q : Int) < (T.length : Int) + 1 := by omega
          have u1' : (G (k + 1) q : Int) ≤ 1000 := by omega
          have u2' : (G k (q + 1) : Int) ≤ 1000 := by omega
          have HS : Hid _ := S
          have HV : Hid _ := hv
          have CB : Hid _ := cB
          clear e1 hP P1 hd cB S hv cA1 cB1
          have SO := HS.out
          generalize hx : G (k + 1) q = y1 at r1 u1 u1' SO
          generalize hy : G k (q + 1) = y2 at r2 u2 u2' SO
          have HX : Hid (G (k + 1) q = y1 ∧ G k (q + 1) = y2) := ⟨hx, hy⟩
          have HO : Hid _ := SO
          clear hx hy SO HS
          go_upto_region 10 with fail
          go_region
          have SO := HO.out
          generalize (wr.setCell ⟨R1 k, q, none⟩ (.int .i64 (max (y1 : Int) (y2 : Int)))).drew = W2 at SO ⊢
          have cA1 := (SO.bel.cell (p := ⟨b, off + k, none⟩) hlt).trans cA
          have cB1 := (SO.bel.cell (p := ⟨b2, off2 + q, none⟩) hlt2).trans CB.out
          rw [show A.getD k 0 = A[k] by simp [hk']] at cA1
          rw [show T.getD q 0 = T[q] by simp [hq']] at cB1
          clear r0 r1 r2 c0 c1 z0 HO
          by_cases hz : A[k] = T[q]
          · have hV := HV.out.eq hk' hq' hz (x := max (G (k + 1) q) (G k (q + 1)))
            rw [HX.out.1, HX.out.2] at hV
            rw [hz] at cA1
            generalize T[q] = zz at cA1 cB1
            have HW : Hid _ := hV
            have HP : Hid _ := SO
            clear hV SO HV HX hz
            go_upto_region 11 with fail
            go_quiet (fail)
            have SO := HP.out
            have hD : Below W2.heap.size W2 (W2.drewN nq) := below_drewN (Below.refl _ _) _
            have SO := SO.below hD
            generalize W2.drewN nq = W3 at SO ⊢
            have P1 := SO.drew
            have c0 := P1.cell k (Nat.le_refl _) (by omega)
            have c1 := P1.cell (k + 1) (by omega) kn
            have r0 := (P1.row k (Nat.le_refl _) (by omega)).cell q (by omega)
            have r1 := (P1.row (k + 1) (by omega) kn).cell (q + 1) (by omega)
            rw [putF_row (by omega)] at r1
            have z0 := frz (P1.row k (Nat.le_refl _) (by omega)) q
            have S := P1.put k q (G (k + 1) (q + 1) + 1) (Nat.le_refl _) (by omega)
            rw [show ((G (k + 1) (q + 1) + 1 : Nat) : Int) = (G (k + 1) (q + 1) : Int) + 1 by omega] at S
            have u3' : (G (k + 1) (q + 1) : Int) ≤ 1000 := by omega
            have HS : Hid _ := S
            clear S P1 SO hD cA1 cB1 HP
            generalize hx : G (k + 1) (q + 1) = y3 at r1 u3 u3' HS HW
            clear hx
            go_upto_region 12 with fail
            go_region
            go_wp2_with fail
            exact ⟨⟨q, _, by omega, by go_num, HS.out, HW.out⟩, by simp only [Go.RowKit.intOf]; omega⟩
          · have hV := HV.out.ne hk' hq' hz
            rw [HX.out.1, HX.out.2] at hV
            have hz' : (A[k] == T[q]) = false := by simpa using hz
            generalize A[k] = z1 at cA1 hz hz'
            generalize T[q] = z2 at cB1 hz hz'
            have HW : Hid _ := hV
            have HP : Hid _ := SO
            clear hV SO HV HX
            go_upto_region 11 with fail
            go_quiet (fail)
            have hD : Below W2.heap.size W2 (W2.drewN nq) := below_drewN (Below.refl _ _) _
            have HS : Hid _ := HP.out.below hD
            clear hD
            generalize W2.drewN nq = W3 at HS ⊢
            go_wp2_with fail
            exact ⟨⟨q, _, by omega, by go_num, HS.out, HW.out⟩, by simp only [Go.RowKit.intOf]; omega⟩
end Go.Proofs.YtfhbkaiioiihjaaDoor
