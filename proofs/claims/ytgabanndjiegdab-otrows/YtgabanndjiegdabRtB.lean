/-
  The contract of the reference's built.
-/
import Derived.Test.YtgabanndjiegdabDrIDrJ
import Derived.Test.YtgabanndjiegdabRtA
namespace Go.Proofs.Ytgabanndjiegdab
open Go.ChangeShapes Go.WideShapes Go.ChangeAt Go.RowKit Go.PlainAid

/-- Marks of a base of n, those of the base rising from g on. -/
def Ris (n : Nat) : Nat → List (Nat ⊕ Int) → Prop
  | _, [] => True
  | g, .inr z :: l => szI z ≠ 0 ∧ Ris n g l
  | g, .inl p :: l => g ≤ p ∧ p < n ∧ Ris n (p + 1) l
theorem ris_le {n : Nat} : ∀ (l : List (Nat ⊕ Int)) {g h : Nat}, g ≤ h → Ris n h l → Ris n g l
  | [], _, _, _, _ => trivial
  | .inr _ :: l, _, _, hle, h => ⟨h.1, ris_le l hle h.2⟩
  | .inl _ :: _, _, _, hle, h => ⟨Nat.le_trans hle h.1, h.2⟩
theorem ris_mk (n : Nat) : ∀ (l : List U) (i : Nat), i + baseU l ≤ n → PtsU l → Ris n i (mkU i l)
  | [], _, _, _ => trivial
  | .K :: l, i, h, hp => by
    simp only [baseU] at h
    exact ⟨Nat.le_refl _, by omega, ris_mk n l (i + 1) (by omega) (fun z hz => hp z (by simp [hz]))⟩
  | .R :: l, i, h, hp => by
    simp only [baseU] at h
    exact ris_le _ (by omega) (ris_mk n l (i + 1) (by omega) (fun z hz => hp z (by simp [hz])))
  | .I z :: l, i, h, hp => ⟨hp z (by simp), ris_mk n l i h (fun z hz => hp z (by simp [hz]))⟩

/-- What built has on its way. -/
structure BI (M : List (Nat ⊕ Int)) (n k g : Nat) (ins : List ByteArray) (gone : List Bool) : Prop where
  li : ins.length = n + 1
  lg : gone.length = n
  ga : g ≤ n
  m : gapM ins gone g = M.take k
  r : ∀ j, g ≤ j → j < n → gone.getD j false = true
  e : ∀ j, g < j → ins.getD j ⟨#[]⟩ = ⟨#[]⟩
  v : ∀ t ∈ ins, 0 ≤ cpl t ∧ t.size ≤ 4 * k
  ri : Ris n g (M.drop k)
theorem bi_start {M : List (Nat ⊕ Int)} {n : Nat} (gone : List Bool) (hg : gone.length = n) (ht : ∀ j, j < n → gone.getD j false = true) (hM : Ris n 0 M) : BI M n 0 0 (List.replicate (n + 1) ⟨#[]⟩) gone := by
  have hi : ∀ j, (List.replicate (n + 1) (⟨#[]⟩ : ByteArray)).getD j ⟨#[]⟩ = ⟨#[]⟩ := fun j => by
    by_cases h : j < n + 1 <;> simp [List.getD, h]
  refine ⟨by simp, hg, by omega, ?_, fun j _ h => ht j h, fun j _ => hi j, fun t ht => ?_, hM⟩
  · rw [gapM, hi, pts_nil]; rfl
  · have := List.eq_of_mem_replicate ht
    subst this
    exact ⟨by decide, by show 0 ≤ _; omega⟩
theorem take_m {M : List (Nat ⊕ Int)} {k : Nat} {x : Nat ⊕ Int} (h : M[k]? = some x) : M.take (k + 1) = M.take k ++ [x] ∧ M.drop k = x :: M.drop (k + 1) := by
  have hk := (List.getElem?_eq_some_iff.1 h).1
  have e : M[k] = x := (List.getElem?_eq_some_iff.1 h).2
  exact ⟨by rw [List.take_add_one, h]; rfl, by rw [List.drop_eq_getElem_cons hk, e]⟩
theorem bi_inl {M : List (Nat ⊕ Int)} {n k g p : Nat} {ins : List ByteArray} {gone : List Bool} (h : BI M n k g ins gone) (hm : M[k]? = some (.inl p)) : (g ≤ p ∧ p < n) ∧ BI M n (k + 1) (p + 1) ins (gone.set p false) := by
  obtain ⟨t1, t2⟩ := take_m hm
  have hri := h.ri
  rw [t2] at hri
  obtain ⟨r1, r2, r3⟩ := hri
  have hlg := h.lg
  have hne : ∀ j, j ≠ p → (gone.set p false).getD j false = gone.getD j false := fun j hj => by
    rw [List.getD_eq_getElem?_getD, List.getElem?_set_ne (fun e => hj e.symm), List.getD_eq_getElem?_getD]
  have hp : (gone.set p false).getD p false = false := by
    have : p < gone.length := by omega
    simp [List.getD, this]
  refine ⟨⟨r1, r2⟩, h.li, by rw [List.length_set]; exact hlg, by omega, ?_, fun j q1 q2 => ?_, fun j q => h.e j (by omega), fun t ht => ⟨(h.v t ht).1, by have := (h.v t ht).2; omega⟩, r3⟩
  · rw [gapM_K hp (h.e _ (by omega))]
    have e1 := gapM_Rs (ins := ins) (gone := gone.set p false) (g := g) h.e (p - g) (fun j q1 q2 => by rw [hne j (by omega)]; exact h.r j q1 (by omega))
    rw [show g + (p - g) = p by omega] at e1
    have e2 : gapM ins (gone.set p false) g = gapM ins gone g := by
      rw [gapM, gapM, gapW_congr (ins := ins) (ins' := ins) (gone := gone) (gone' := gone.set p false) g (fun j hj => ⟨rfl, hne j (by omega)⟩)]
    rw [e1, e2, h.m, t1]
  · rw [hne j (by omega)]; exact h.r j (by omega) q2
theorem bi_inr {M : List (Nat ⊕ Int)} {n k g : Nat} {z : Int} {ins : List ByteArray} {gone : List Bool} (h : BI M n k g ins gone) (hm : M[k]? = some (.inr z)) :
    szI z ≠ 0 ∧ BI M n (k + 1) g (ins.set g (mk ((ins.getD g ⟨#[]⟩).data.toList ++ (mk (enc [z])).data.toList))) gone := by
  obtain ⟨t1, t2⟩ := take_m hm
  have hri := h.ri
  rw [t2] at hri
  obtain ⟨hz, r3⟩ := hri
  have hli := h.li
  have hga := h.ga
  have hc1 := cpl_enc (p := [z]) (by simpa using hz)
  have hin : ins.getD g ⟨#[]⟩ ∈ ins := by simp [show g < ins.length by omega]
  have hvg := h.v _ hin
  have hcat := cat_ok hvg.1 (t := mk (enc [z])) (by rw [hc1.1]; simp)
  have hget : ∀ j, j ≠ g → (ins.set g (mk ((ins.getD g ⟨#[]⟩).data.toList ++ (mk (enc [z])).data.toList))).getD j ⟨#[]⟩ = ins.getD j ⟨#[]⟩ := fun j hj => by
    rw [List.getD_eq_getElem?_getD, List.getElem?_set_ne (fun e => hj e.symm), List.getD_eq_getElem?_getD]
  have hgg : (ins.set g (mk ((ins.getD g ⟨#[]⟩).data.toList ++ (mk (enc [z])).data.toList))).getD g ⟨#[]⟩ = mk ((ins.getD g ⟨#[]⟩).data.toList ++ (mk (enc [z])).data.toList) := by
    have : g < ins.length := by omega
    simp [List.getD, this]
  refine ⟨hz, by rw [List.length_set]; exact hli, h.lg, hga, ?_, h.r, fun j q => ?_, fun x hx => ?_, r3⟩
  · have e := gapW_congr (ins := ins) (ins' := ins.set g (mk ((ins.getD g ⟨#[]⟩).data.toList ++ (mk (enc [z])).data.toList))) (gone := gone) (gone' := gone) g (fun j hj => ⟨hget j (by omega), rfl⟩)
    have hm := h.m
    rw [gapM] at hm ⊢
    rw [e, hgg, hcat.2, List.map_append, ← List.append_assoc, hm, t1, hc1.2]
    rfl
  · rw [hget j (by omega)]; exact h.e j q
  · rcases List.mem_or_eq_of_mem_set hx with hx | hx
    · have := h.v x hx; exact ⟨this.1, by omega⟩
    · subst hx
      refine ⟨hcat.1, ?_⟩
      have hs1 := hvg.2
      have hl := enc_len [z]
      rw [mk_size, List.length_append, data_len, data_len, mk_size]
      simp at hl
      omega
theorem bi_end {M : List (Nat ⊕ Int)} {n g : Nat} {ins : List ByteArray} {gone : List Bool} (h : BI M n M.length g ins gone) : baseU (formW ins gone) = n ∧ mkU 0 (formW ins gone) = M := by
  have hm := h.m
  rw [List.take_length] at hm
  have hga := h.ga
  have e1 := gapM_Rs (g := g) h.e (n - g) (fun j h1 h2 => h.r j h1 (by omega))
  rw [show g + (n - g) = n by omega] at e1
  refine ⟨?_, ?_⟩
  · rw [formW, baseU_append, baseU_gap, baseU_I, h.lg]; rfl
  · rw [formW, mkU_append, mkU_I, h.lg, ← hm, ← e1, gapM]

/-- A form on its way, in memory. -/
structure FB (n : Nat) (w W : World) (pb gi gg : Nat) (ins : List ByteArray) (gone : List Bool) : Prop where
  box : W.heap[pb]? = some (.cells #[.slice (some ⟨gi, 0, none⟩) (n + 1) (n + 1), .slice (some ⟨gg, 0, none⟩) n n] 69)
  ir : W.heap[gi]? = some (.cells (ins.map Value.string).toArray 9)
  gr : W.heap[gg]? = some (.cells (gone.map Value.bool).toArray 4)
  pb0 : w.heap.size ≤ pb
  gi0 : w.heap.size ≤ gi
  gg0 : w.heap.size ≤ gg
  bel : Below w.heap.size w W
section
variable {n : Nat} {w W W' : World} {pb gi gg : Nat} {ins : List ByteArray} {gone : List Bool}
theorem FB.setG (h : FB n w W pb gi gg ins gone) (j : Nat) (b : Bool) : FB n w (W.setCell ⟨gg, j, none⟩ (.bool b)) pb gi gg ins (gone.set j b) := by
  have n1 := heap_ne h.box h.gr (by decide)
  have n2 := heap_ne h.ir h.gr (by decide)
  refine ⟨?_, ?_, ?_, h.pb0, h.gi0, h.gg0, below_set h.bel h.gg0 h.bel.size⟩
  · rw [Below.heap_setCell W ⟨gg, j, none⟩ _ pb n1]; exact h.box
  · rw [Below.heap_setCell W ⟨gg, j, none⟩ _ gi n2]; exact h.ir
  · rw [heap_setCell h.gr j _]
    simp
theorem FB.setI (h : FB n w W pb gi gg ins gone) (j : Nat) (t : ByteArray) : FB n w (W.setCell ⟨gi, j, none⟩ (.string t)) pb gi gg (ins.set j t) gone := by
  have n1 := heap_ne h.box h.ir (by decide)
  have n2 := heap_ne h.gr h.ir (by decide)
  refine ⟨?_, ?_, ?_, h.pb0, h.gi0, h.gg0, below_set h.bel h.gi0 h.bel.size⟩
  · rw [Below.heap_setCell W ⟨gi, j, none⟩ _ pb n1]; exact h.box
  · rw [heap_setCell h.ir j _]
    simp
  · rw [Below.heap_setCell W ⟨gi, j, none⟩ _ gg n2]; exact h.gr
theorem FB.drew (h : FB n w W pb gi gg ins gone) : FB n w W.drew pb gi gg ins gone := ⟨h.box, h.ir, h.gr, h.pb0, h.gi0, h.gg0, h.bel.drew⟩
theorem FB.below (h : FB n w W pb gi gg ins gone) (hb : Below W.heap.size W W') : FB n w W' pb gi gg ins gone :=
  ⟨(hb.block _ (heap_lt h.box)).trans h.box, (hb.block _ (heap_lt h.ir)).trans h.ir, (hb.block _ (heap_lt h.gr)).trans h.gr, h.pb0, h.gi0, h.gg0, h.bel.trans (hb.mono h.bel.size)⟩
theorem fb_c0 (h : FB n w W pb gi gg ins gone) : W.cell? ⟨pb, 0, none⟩ = some (.slice (some ⟨gi, 0, none⟩) (n + 1) (n + 1)) := cell_of_row _ _ 0 _ _ (0, 0) h.box
theorem fb_c1 (h : FB n w W pb gi gg ins gone) : W.cell? ⟨pb, 1, none⟩ = some (.slice (some ⟨gg, 0, none⟩) n n) := cell_of_row _ _ 1 _ _ (0, 0) h.box
theorem fb_cg (h : FB n w W pb gi gg ins gone) (j : Nat) (hj : j < gone.length) : W.cell? ⟨gg, j, none⟩ = some (.bool (gone.getD j false)) := by
  rw [cell_of_row _ _ j _ _ (0, 0) h.gr]
  simp [hj]
theorem fb_ci (h : FB n w W pb gi gg ins gone) (j : Nat) (hj : j < ins.length) : W.cell? ⟨gi, j, none⟩ = some (.string (ins.getD j ⟨#[]⟩)) := by
  rw [cell_of_row _ _ j _ _ (0, 0) h.ir]
  simp [hj]
theorem fb_zg (h : FB n w W pb gi gg ins gone) (j : Nat) : W.frozen? ⟨gg, j, none⟩ = false := frz h.gr j
theorem fb_zi (h : FB n w W pb gi gg ins gone) (j : Nat) : W.frozen? ⟨gi, j, none⟩ = false := frz h.ir j
theorem fb_mk (h1 : W.heap[pb]? = some (.cells #[.slice (some ⟨gi, 0, none⟩) (n + 1) (n + 1), .slice (some ⟨gg, 0, none⟩) n n] 69)) (h2 : W.heap[gi]? = some (.cells (Array.replicate (n + 1) (Value.string ⟨#[]⟩)) 9)) (h3 : W.heap[gg]? = some (.cells (Array.replicate n (Value.bool false)) 4)) (a : w.heap.size ≤ pb) (b : w.heap.size ≤ gi) (c : w.heap.size ≤ gg) (hb : Below w.heap.size w W) :
    FB n w W pb gi gg (List.replicate (n + 1) ⟨#[]⟩) (List.replicate n false) := ⟨h1, by rw [h2]; simp, by rw [h3]; simp, a, b, c, hb⟩
end

/-- At v lie marks; what a mark of the base has for a point may be anything. -/
def RdB (w : World) (v : Value) (l : List (Nat ⊕ Int)) : Prop :=
  ∃ ao cp, v = .slice ao l.length cp ∧ ∀ (i : Nat) (m : Nat ⊕ Int), l[i]? = some m → ∃ b off x, ao = some ⟨b, off, none⟩ ∧ b < w.heap.size ∧ w.cell? ⟨b, off + i * 2, none⟩ = some (.int .i64 (mF m)) ∧ w.cell? ⟨b, off + i * 2 + 1, none⟩ = some (.int .i64 x) ∧ ∀ z, m = .inr z → x = z
theorem RdM.b {w : World} {v : Value} {l : List (Nat ⊕ Int)} (h : RdM w v l) : RdB w v l := by
  obtain ⟨ao, cp, e, h1⟩ := h
  refine ⟨ao, cp, e, fun i m hi => ?_⟩
  obtain ⟨b, off, e1, hl, c0, c1⟩ := h1 i m hi
  exact ⟨b, off, _, e1, hl, c0, c1, fun z hz => by subst hz; rfl⟩

set_option maxRecDepth 20000 in
set_option maxHeartbeats 4000000 in
theorem rbuilt_any (n : Nat) (v : Value) (W0 : List U) (w : World) (hM : RdB w v (mkU 0 W0)) (hb : baseU W0 = n) (hn : n ≤ 1000) (hl : (mkU 0 W0).length ≤ 1000) (hp : PtsU W0) :
    Calls Try.prog 51 #[.int .i64 (n : Int), v] w fun e w' => ∃ u, e = .returned u ∧ w'.ownsRow w.heap.size 35 3 u (nfU W0).length (ocs ((nfU W0).map PS.op)) ∧ Below w.heap.size w w' := by
  have hri := ris_mk n W0 0 (by omega) hp
  have HNF : Hid (∀ ins gone, baseU (formW ins gone) = n ∧ mkU 0 (formW ins gone) = mkU 0 W0 → nfU (formW ins gone) = nfU W0) := fun ins gone h => nf_of_marks (h.1.trans hb.symm) h.2
  clear hp hb
  generalize nfU W0 = N at *
  generalize mkU 0 W0 = M at *
  obtain ⟨mo, mc, rfl, hmc⟩ := hM
  have hn1 : (n : Int) ≤ 1000 := by omega
  have hmk1 := make_str (n + 1) (by omega)
  have hmk2 := make_boo n (by omega)
  have e1 : ((n + 1 : Nat) : Int) = (n : Int) + 1 := by omega
  rw [e1] at hmk1
  clear e1
  go_enter Try.func51, Try.ntmps51
  go_upto_region 1 with fail
  go_cut [5] (fun p wx => ∃ pb gi gg, p = .pointer (some ⟨pb, 0, none⟩) ∧ FB n w wx pb gi gg (List.replicate (n + 1) ⟨#[]⟩) (List.replicate n false))
  case first =>
    go_region
    all_goals
      go_wp2_with fail
      go_meet
    all_goals first
      | exact ⟨w.heap.size, w.heap.size + 1, w.heap.size + 1 + 1, rfl, fb_mk (al0 w _ _ _) (al1 w _ _ _) (al2 w _ _ _) (by omega) (by omega) (by omega) (alb w _ _ _)⟩
      | exact ⟨w.heap.size, w.heap.size + 1 + 1, w.heap.size + 1, rfl, fb_mk (al0 w _ _ _) (al2 w _ _ _) (al1 w _ _ _) (by omega) (by omega) (by omega) (alb w _ _ _)⟩
      | exact ⟨w.heap.size + 1, w.heap.size, w.heap.size + 1 + 1, rfl, fb_mk (al1 w _ _ _) (al0 w _ _ _) (al2 w _ _ _) (by omega) (by omega) (by omega) (alb w _ _ _)⟩
      | exact ⟨w.heap.size + 1, w.heap.size + 1 + 1, w.heap.size, rfl, fb_mk (al1 w _ _ _) (al2 w _ _ _) (al0 w _ _ _) (by omega) (by omega) (by omega) (alb w _ _ _)⟩
      | exact ⟨w.heap.size + 1 + 1, w.heap.size, w.heap.size + 1, rfl, fb_mk (al2 w _ _ _) (al0 w _ _ _) (al1 w _ _ _) (by omega) (by omega) (by omega) (alb w _ _ _)⟩
      | exact ⟨w.heap.size + 1 + 1, w.heap.size + 1, w.heap.size, rfl, fb_mk (al2 w _ _ _) (al1 w _ _ _) (al0 w _ _ _) (by omega) (by omega) (by omega) (alb w _ _ _)⟩
  case rest =>
    obtain ⟨pb, gi, gg, rfl, hF⟩ := hcut
    clear hmk1 hmk2
    go_wp2_with fail
    go_loopw [6] (fun i wr => ∃ k : Nat, k ≤ n ∧ i = .int .i64 (k : Int) ∧ FB n w wr pb gi gg (List.replicate (n + 1) ⟨#[]⟩) (setT (List.replicate n false) 0 k)) (fun i _ => n - (intOf i).toNat)
    case atStart => exact ⟨0, by omega, rfl, hF⟩
    case round =>
      obtain ⟨k, hk, rfl, hF1⟩ := hrel
      clear hF
      by_cases hlt : k < n
      · have hlt' : (k : Int) < (n : Int) := by omega
        have q1 := fb_c1 hF1
        have cg := fb_cg hF1 k (by rw [setT_len]; simpa using hlt)
        have zg := fb_zg hF1 k
        have R2 := hF1.setG k true
        have HS : Hid (setT (List.replicate n false) 0 (k + 1) = (setT (List.replicate n false) 0 k).set k true) := by show _ = _; rw [setT, Nat.zero_add]
        clear hF1 hmc
        go_wp2_with fail
        go_roundw
        case rel => exact ⟨k + 1, by omega, by go_num, by rw [HS.out]; exact R2⟩
        case measure => simp [intOf]; omega
      · obtain rfl : k = n := by omega
        have hlg : (setT (List.replicate k false) 0 k).length = k := by rw [setT_len]; simp
        have htt : ∀ j, j < k → (setT (List.replicate k false) 0 k).getD j false = true := fun j hj => by rw [setT_get _ _ _ _ (by simp), if_pos (by omega)]
        have hBI := bi_start (M := M) _ hlg htt hri
        clear hlg htt hri
        generalize setT (List.replicate k false) 0 k = G0 at *
        generalize List.replicate (k + 1) (⟨#[]⟩ : ByteArray) = I0 at *
        go_wp2_with fail
        go_loopw [7, 8] (fun q i wr => ∃ (j g : Nat) (ins : List ByteArray) (gone : List Bool), j ≤ M.length ∧ i = .int .i64 (j : Int) ∧ q = .int .i64 (g : Int) ∧ FB k w wr pb gi gg ins gone ∧ BI M k j g ins gone) (fun _ i _ => M.length - (intOf i).toNat)
        case atStart => exact ⟨0, 0, _, _, by omega, rfl, rfl, hF1, hBI⟩
        case round =>
          obtain ⟨j, g, ins, gone, hj, rfl, rfl, hF2, hB2⟩ := hrel
          clear hF1 hBI
          by_cases hjm : j < M.length
          · have hjm' : (j : Int) < (M.length : Int) := by omega
            have hMj : M[j]? = some M[j] := List.getElem?_eq_getElem hjm
            obtain ⟨b, off, x, rfl, hbb, e0, e1, hxz⟩ := hmc j _ hMj
            have hBc : ∀ {W : World} o, Below w.heap.size w W → W.cell? ⟨b, o, none⟩ = w.cell? ⟨b, o, none⟩ := fun o h => h.cell (p := ⟨b, o, none⟩) hbb
            have c0 := (hBc _ hF2.bel).trans e0
            have c1 := (hBc _ hF2.bel).trans e1
            clear hmc
            cases hmj : M[j] with
            | inl p =>
              rw [hmj] at hMj c0 e0
              clear hxz
              obtain ⟨⟨r1, r2⟩, hB3⟩ := bi_inl hB2 hMj
              simp only [mF] at c0 e0
              have q1 := fb_c1 hF2
              have hlg := hB2.lg
              have cg := fb_cg hF2 p (by omega)
              have zg := fb_zg hF2 p
              have R2 := (hF2.drew).setG p false
              have pi : (p : Int) < (k : Int) := by omega
              have p0 : (0 : Int) ≤ (p : Int) := by omega
              have d0 : (wr.setCell ⟨gg, p, none⟩ (.bool false)).cell? ⟨b, off + j * 2, none⟩ = some (.int .i64 (p : Int)) := (hBc (off + j * 2) (hF2.setG p false).bel).trans e0
              clear hF2 hB2 hMj hmj hlg hBc e0 e1 r1 r2
              go_wp2_with fail
              refine region_tailR 8 Try.mixedR (by kernel_rfl) ?_
              simp only [List.take_succ_cons, List.take_zero, List.drop_succ_cons, List.drop_zero]
              iterate 8 still_step
              refine wpStill_nil ?_
              go_wp2_with fail
              go_roundw
              case rel => exact ⟨j + 1, p + 1, ins, _, by omega, by go_num, by go_num, R2, hB3⟩
              case measure => simp [intOf]; omega
            | inr z =>
              rw [hmj] at hMj c0 e0
              have hx := hxz z hmj
              rw [hx] at c1 e1
              clear hxz hx
              obtain ⟨hz, hB3⟩ := bi_inr hB2 hMj
              simp only [mF] at c0 e0
              have hX := fun (W : World) => refText_any (.slice (some ⟨W.heap.size, 0, none⟩) 1 1) [z] (W.alloc (.cells #[.int .i64 z] 3)) (by show 1 ≤ 17592186044416; omega) (.inr ⟨_, 0, 1, rfl, fun i hi => by
                have : i = 0 := by simpa using hi
                subst this
                exact cell_of_row _ _ 0 _ _ (0, 0) (heap_alloc_new W _)⟩)
              have hXe : textR [z] = (mk (enc [z]), true) := by rw [textR, if_pos (by simpa using hz)]
              rw [hXe] at hX
              have hT4 : (mk (enc [z])).size ≤ 4 := by have := enc_len [z]; rw [mk_size]; simpa using this
              clear hXe hz hMj hmj
              have hli := hB2.li
              have hga := hB2.ga
              have hgn : g < ins.length := by omega
              have hvg := (hB2.v (ins.getD g ⟨#[]⟩) (by simp [hgn])).2
              have d1 := data_len (ins.getD g ⟨#[]⟩)
              have d2 := data_len (mk (enc [z]))
              have ha := fun W => pk.add_mk (ins.getD g ⟨#[]⟩).data.toList (mk (enc [z])).data.toList W (by omega)
              rw [mk_data, mk_data] at ha
              have hF3 := hF2.below (grow1 _ (.cells #[.int .i64 z] 3))
              have g1 : (g : Int) < (k : Int) + 1 := by omega
              have g2 : (0 : Int) ≤ (g : Int) := by omega
              have hwg : IntKind.i64.wrap (g : Int) = (g : Int) := wraps_i64 _ (by omega) (by omega)
              clear hF2 hB2 hvg d1 d2 hT4 hBc e0 e1 hli hga
              generalize mk (enc [z]) = t at *
              go_wp2_with fail
              refine (hX _).mono ?_
              rintro e w3 ⟨rfl, hb3⟩
              have hF4 := hF3.below hb3
              have RM := (hF4.drew).setI g (mk ((ins.getD g ⟨#[]⟩).data.toList ++ t.data.toList))
              have ci := fb_ci hF4 g hgn
              have zi := fb_zi hF4 g
              have q0 := fb_c0 hF4
              clear hX hF3 hF4 hb3 hgn c0 c1
              generalize mk ((ins.getD g ⟨#[]⟩).data.toList ++ t.data.toList) = T at *
              generalize ins.getD g ⟨#[]⟩ = S at *
              go_wp2_with fail
              refine region_tailR 11 Try.mixedR (by kernel_rfl) ?_
              simp only [List.take_succ_cons, List.take_zero, List.drop_succ_cons, List.drop_zero]
              iterate 11 still_step
              refine wpStill_nil ?_
              go_wp2_with fail
              go_roundw
              case rel => exact ⟨j + 1, g, _, gone, by omega, by go_num, rfl, RM, hB3⟩
              case measure => simp [intOf]; omega
          · obtain rfl : j = M.length := by omega
            have hen := bi_end hB2
            have hne := HNF.out ins gone hen
            have hli := hB2.li
            have hlg := hB2.lg
            have hBt := fun W h1 h2 => built_any (.slice (some ⟨gi, 0, none⟩) (k + 1) (k + 1)) (.slice (some ⟨gg, 0, none⟩) k k) ins gone W h1 h2 (by omega) (by omega) (fun t ht => ⟨(hB2.v t ht).1, by have := (hB2.v t ht).2; omega⟩)
            rw [hne] at hBt
            have q0 := fb_c0 hF2
            have q1 := fb_c1 hF2
            have y1 := rdv_row (c := k + 1) (m := k + 1) hF2.ir (by rw [List.length_map]; exact hli)
            have y2 := rdv_row (c := k) (m := k) hF2.gr (by rw [List.length_map]; exact hlg)
            have B2 := hF2.bel
            clear hen hne hB2 hF2 hmc hli hlg
            go_wp2_with fail
            refine (hBt _ y1 y2).mono ?_
            rintro e w3 ⟨u3, rfl, ho3, hb3⟩
            go_wp2_with fail
            go_ret
            exact ⟨_, rfl, own_lower ho3 B2.size, chain B2 hb3⟩
end Go.Proofs.Ytgabanndjiegdab
