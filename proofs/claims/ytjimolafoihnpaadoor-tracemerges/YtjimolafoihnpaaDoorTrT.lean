/-
  The program's having: which documents have a name (written by tools/gen/genTrT.py).
-/
import Derived.Test.YtjimolafoihnpaaDoorTrG
namespace Go.Proofs.YtjimolafoihnpaaDoor.tc
open Go.Maps Go.ChangeShapes Go.WideShapes Go.ChangeAt Go.RowKit Go.PlainAid

/-- A document's number as a cell. -/
def cD (i : Nat) : List Value := [.int .i64 (i : Int)]
theorem cD_len (i : Nat) : (cD i).length = 1 := rfl
/-- The documents that have a name. -/
def hvD (D : List (List (Nat × Int))) : List (Nat × Nat) := (D.zipIdx.map fun y => y.1.map fun x => (x.1, y.2)).flatten
theorem hvD_one (D : List (List (Nat × Int))) (row : List (Nat × Int)) : hvD (D ++ [row]) = hvD D ++ row.map fun x => (x.1, D.length) := by
  simp [hvD, List.zipIdx_append]
def rsH (E : List (Nat × Nat)) (n : Nat) : List Nat := (E.filter fun e => e.1 == n).map Prod.snd
def tabH (E : List (Nat × Nat)) (m : Nat) : List (List Nat) := (List.range m).map (rsH E)
theorem tabH_len (E : List (Nat × Nat)) (m : Nat) : (tabH E m).length = m := by simp [tabH]
theorem tabH_at {E : List (Nat × Nat)} {m n : Nat} (h : n < m) : (tabH E m)[n]? = some (rsH E n) := by simp [tabH, h]
theorem tabH_one {E : List (Nat × Nat)} {m n p : Nat} : tabH (E ++ [(n, p)]) m = (tabH E m).set n (rsH E n ++ [p]) := by
  apply List.ext_getElem?
  intro i
  by_cases hi : i < m
  · rw [tabH_at hi]
    by_cases he : n = i
    · subst he
      rw [List.getElem?_set_self (by rw [tabH_len]; exact hi)]
      simp [rsH]
    · rw [List.getElem?_set_ne he, tabH_at hi]
      simp [rsH, he]
  · rw [List.getElem?_eq_none (by rw [tabH_len]; omega), List.getElem?_eq_none (by rw [List.length_set, tabH_len]; omega)]
theorem rsH_len (E : List (Nat × Nat)) (n : Nat) : (rsH E n).length ≤ E.length := by
  rw [rsH, List.length_map]
  exact List.length_filter_le _ _
theorem hvD_le (D : List (List (Nat × Int))) (k : Nat) : (hvD (D.take k)).length ≤ (hvD D).length := by
  have h : ∀ a b : List (List (Nat × Int)), (hvD a).length ≤ (hvD (a ++ b)).length := by
    intro a b
    simp only [hvD, List.zipIdx_append, List.map_append, List.flatten_append, List.length_append]
    omega
  have h2 := h (D.take k) (D.drop k)
  rwa [List.take_append_drop] at h2
theorem infoIr : (Tryd.prog.info? 68).map (fun i => (i.zero, i.size, i.bytes)) = some (some (.slice none 0 0), 1, 24) := by kernel_rfl
/-- It on its way. -/
structure Hw (W : World) (B p nn : Nat) (dv : Value) (D : List (List (Nat × Int))) (E : List (Nat × Nat)) (R : List Value) : Prop where
  docs : Tb W 114 cA 112 dv D
  tbl : Tbl W B 3 1 cD 68 (.slice (some ⟨p, 0, none⟩) nn nn) R (tabH E nn)
theorem Hw.below {W W' : World} {B p nn : Nat} {dv : Value} {D : List (List (Nat × Int))} {E : List (Nat × Nat)} {R : List Value} (h : Hw W B p nn dv D E R) (hb : Below W.heap.size W W') : Hw W' B p nn dv D E R := ⟨h.docs.below hb, h.tbl.below hb⟩
theorem Hw.facts {W W9 : World} {B p nn : Nat} {dv : Value} {D : List (List (Nat × Int))} {E : List (Nat × Nat)} {R : List Value} (h : Hw W B p nn dv D E R) {i : Nat} {r : Value} {o : Obj} (hr : R[i]? = some r) (hi : i < nn) (hg : (W.drew.alloc o).grownBy W9 r.ownBlock) :
    W9.cell? ⟨p, i, none⟩ = some r ∧ W9.frozen? ⟨p, i, none⟩ = false ∧ Sm 114 W W9 := by
  have h1 := Hw.below (W := W) h (drew_alN W o)
  have hro := h1.tbl.row i r _ hr (tabH_at hi)
  have t2 := own_sm h1.tbl.top (Sm.own hro hg (by decide))
  obtain ⟨cu, hcu⟩ := own_kind t2 (g := p) rfl
  have c := t2.cells (g := p) rfl i _ hr
  rw [addr4, Nat.zero_add] at c
  exact ⟨c, frz hcu i, (Sm.below (drew_alN W o)).trans (Sm.own hro hg (by decide))⟩
theorem Hw.stepD {W W9 : World} {B p nn : Nat} {dv : Value} {D : List (List (Nat × Int))} {E : List (Nat × Nat)} {R : List Value} {o : Obj} (h : Hw W B p nn dv D E R) {i : Nat} {r : Value} {a g k : Nat} (hr : R[i]? = some r) (hi : i < nn)
    (ho : W9.ownsRow B 3 1 (.slice (some ⟨g, 0, none⟩) ((rsH E i).length + 1) k) ((rsH E i).length + 1) (((rsH E i).map cD).flatten ++ cD a)) (hg : (W.drew.alloc o).grownBy W9 r.ownBlock) (hl : r.ownBlock = some g ∨ g = W.heap.size + 1) :
    Hw (W9.setCell ⟨p, i, none⟩ (.slice (some ⟨g, 0, none⟩) ((rsH E i).length + 1) k)) B p nn dv D (E ++ [(i, a)]) (R.set i (.slice (some ⟨g, 0, none⟩) ((rsH E i).length + 1) k)) ∧
    (∀ s, 3 ≠ s → 68 ≠ s → Sm s W (W9.setCell ⟨p, i, none⟩ (.slice (some ⟨g, 0, none⟩) ((rsH E i).length + 1) k))) ∧ (∀ w0, B ≤ W.heap.size → Below B w0 W → Below B w0 (W9.setCell ⟨p, i, none⟩ (.slice (some ⟨g, 0, none⟩) ((rsH E i).length + 1) k))) := by
  have hs : (W.drew.alloc o).heap.size = W.heap.size + 1 := by simp
  have h1 := Hw.below (W := W) h (drew_alN W o)
  obtain ⟨-, -, s3, s4, s5⟩ := h1.tbl.step (a := a) (by decide) hr (tabH_at hi) ho hg (by rw [hs]; exact hl)
  rw [← tabH_one] at s3
  exact ⟨⟨h1.docs.sm (s4 _ (by decide) (by decide)) (s4 _ (by decide) (by decide)), s3⟩, fun t h1 h2 => (Sm.below (drew_alN W o)).trans (s4 t h1 h2), fun w0 hB hb => s5 w0 (by omega) (hb.drew.alloc hB o)⟩
def phHv (p nn ba x1 k rn kr2 gs g9 cap9 : Nat) (ar2 : Option Addr) : Nat → Value → World → Prop
  | 0, v, _ => v = (.slice (some ⟨p, 0, none⟩) nn nn)
  | 1, v, _ => v = (.pointer (some ⟨ba, 0, none⟩))
  | 2, v, _ => v = (.int .i64 (x1 : Int))
  | 3, v, _ => v = (.slice (some ⟨p, 0, none⟩) nn nn)
  | 4, v, _ => v = (.pointer (some ⟨ba, 0, none⟩))
  | 5, v, _ => v = (.int .i64 (x1 : Int))
  | 6, v, _ => v = (.pointer (some ⟨p, x1, none⟩))
  | 7, v, _ => v = (.slice ar2 rn kr2)
  | 8, v, _ => v = (.int .i64 (k : Int))
  | 9, v, _ => v = (.slice (some ⟨gs, 0, none⟩) 1 1)
  | 10, v, _ => v = (.slice (some ⟨g9, 0, none⟩) (rn + 1) cap9)
  | 11, v, _ => v = (.pointer (some ⟨p, x1, none⟩))
  | 12, _, _ => True
  | _, _, _ => True
theorem phHv_stays {p nn ba x1 k rn kr2 gs g9 cap9 : Nat} {ar2 : Option Addr} (i : Nat) (v : Value) (w w' : World) (h : phHv p nn ba x1 k rn kr2 gs g9 cap9 ar2 i v w) (_ : True) : phHv p nn ba x1 k rn kr2 gs g9 cap9 ar2 i v w' := by
  unfold phHv at h ⊢
  split at h
  all_goals first
    | exact h
    | trivial
set_option maxRecDepth 20000 in
set_option maxHeartbeats 4000000 in
theorem having_any (b : Nat) (D : List (List (Nat × Int))) (N : List AtK) (w : World) (hr : BkR w b D N) (hD : D.length ≤ 1048576) (hN : N.length ≤ 1048576) (hrow : ∀ r ∈ D, r.length ≤ 1048576 ∧ ∀ x ∈ r, x.1 < N.length) (hE : (hvD D).length ≤ 1048576) :
    Calls Tryd.prog 51 #[.pointer (some ⟨b, 0, none⟩)] w fun e w' => ∃ v, e = .returned v ∧ Tb w' 3 cD 68 v (tabH (hvD D) N.length) ∧ Below w.heap.size w w' := by
  obtain ⟨i1, hi1, hy0, hy1, hy2⟩ := info_parts infoInt
  obtain ⟨Z, Z1, Z2, hmk⟩ := make_any (t := 124) Tryd.underlying124 infoIr rfl (by decide) (by decide) N.length (by omega)
  rw [rep_one _ _ rfl] at Z1
  obtain ⟨dv, nv, hbx, htb, hln⟩ := hr
  obtain ⟨ad, cd, rfl, hcd⟩ := htb.form
  obtain ⟨an, cn, rfl, hcn⟩ := hln.form
  have o1 := own_made (e := 68) (W := w) (B := w.heap.size) Z1 Z2 (by omega) (Nat.le_refl _)
  have hb1 := alloc_b w (.cells Z 68)
  have t1 := Tbl.new (α := Nat) (e := 3) (z := 1) (C := cD) o1
  have e0 : List.replicate N.length ([] : List Nat) = tabH [] N.length := by
    apply List.ext_getElem?
    intro i
    by_cases hi : i < N.length
    · rw [tabH_at hi]; simp [hi, rsH]
    · rw [List.getElem?_eq_none (by simp; omega), List.getElem?_eq_none (by rw [tabH_len]; omega)]
  rw [e0] at t1
  have hNw : Hw (w.alloc (.cells Z 68)) w.heap.size w.heap.size N.length (.slice ad D.length cd) D [] (List.replicate N.length (.slice none 0 0)) := ⟨htb.below hb1, t1⟩
  obtain ⟨x0, x1, -, -⟩ := hbx.cells
  obtain ⟨x0', x1', -, -⟩ := (hbx.below hb1).cells
  clear o1 t1 e0 htb hln hbx Z1 Z2
  go_enter Tryd.func51, Tryd.ntmps51
  go_wp2_with fail
  clear x0 x1 x0' x1' hmk
  generalize w.alloc (.cells Z 68) = w1 at *
  obtain ⟨p, hp⟩ : ∃ p, p = w.heap.size := ⟨_, rfl⟩
  rw [← hp]
  rw [show Hw w1 w.heap.size w.heap.size N.length (.slice ad D.length cd) D [] (List.replicate N.length (.slice none 0 0)) = Hw w1 w.heap.size p N.length (.slice ad D.length cd) D [] (List.replicate N.length (.slice none 0 0)) by rw [hp]] at hNw
  clear hp
  go_loopw [19] (fun i wr => ∃ k : Nat, k ≤ D.length ∧ i = .int .i64 (k : Int) ∧ (∃ R, Hw wr w.heap.size p N.length (.slice ad D.length cd) D (hvD (D.take k)) R) ∧ Below w.heap.size w wr) (fun i _ => D.length - (Go.RowKit.intOf i).toNat)
  case atStart => exact ⟨0, by omega, rfl, ⟨_, by simpa [hvD] using hNw⟩, hb1⟩
  case round =>
    obtain ⟨k, hk, rfl, ⟨R, hN1⟩, hb⟩ := hrel
    clear hNw hb1
    by_cases hlt : k < D.length
    · have hlt' : (k : Int) < (D.length : Int) := by omega
      have hDk : D[k]? = some D[k] := by simp [hlt]
      obtain ⟨gd, od, rv, e1, hgd, c0, hlr⟩ := hN1.docs.at hDk
      obtain ⟨hrl, hrn⟩ := hrow D[k] (List.getElem_mem hlt)
      obtain ⟨ar, kr, rfl, hkr⟩ := hlr.form
      have HEV : Hid (hvD (D.take (k + 1)) = hvD (D.take k) ++ (D[k].take D[k].length).map fun x => (x.1, k)) := by
        show _ = _
        rw [List.take_succ_eq_append_getElem hlt, hvD_one, List.take_of_length_le (Nat.le_refl _), List.length_take, Nat.min_eq_left (by omega)]
      have hEl : (hvD (D.take k)).length + D[k].length ≤ 1048576 := by
        have h1 := hvD_le D (k + 1)
        rw [HEV.out, List.length_append, List.take_of_length_le (Nat.le_refl _), List.length_map] at h1
        omega
      clear hDk hrow
      generalize D[k] = row at *
      subst e1
      have hN2 : ∃ R, Hw wr w.heap.size p N.length (.slice (some ⟨gd, od, none⟩) D.length cd) D (hvD (D.take k) ++ (row.take 0).map fun x => (x.1, k)) R := ⟨R, by simpa using hN1⟩
      go_wp2_with fail
      clear hN1
      generalize wr = wa at *
      generalize hvD (D.take k) = E0 at *
      go_loopw [26] (fun i wr => ∃ e : Nat, e ≤ row.length ∧ i = .int .i64 (e : Int) ∧ (∃ R, Hw wr w.heap.size p N.length (.slice (some ⟨gd, od, none⟩) D.length cd) D (E0 ++ (row.take e).map fun x => (x.1, k)) R) ∧ Ln wr 114 (.slice ar row.length kr) row.length (row.map cA).flatten ∧ Below w.heap.size w wr) (fun i _ => row.length - (Go.RowKit.intOf i).toNat)
      case atStart => exact ⟨0, by omega, rfl, hN2, hlr, hb⟩
      case round =>
        obtain ⟨e, he, rfl, ⟨R1, hN3⟩, hlr3, hb3⟩ := hrel
        clear hN2 hlr hb
        by_cases hle : e < row.length
        · have hle' : (e : Int) < (row.length : Int) := by omega
          have hxe : row[e]? = some row[e] := by simp [hle]
          have hxn := hrn row[e] (List.getElem_mem hle)
          have f0 := flat_at cA 2 cA_len row e _ hxe 0 (by decide)
          have f1 := flat_at cA 2 cA_len row e _ hxe 1 (by decide)
          obtain ⟨ga, oa, cur, e1, hga, hcell⟩ := hlr3.at (j := e * 2 + 0) (u := .int .i64 (row[e].1 : Int)) f0
          have c0 : wr.cell? ⟨ga, oa + e * 2, none⟩ = some (.int .i64 (row[e].1 : Int)) := hcell _ _ f0
          have c1 : wr.cell? ⟨ga, oa + e * 2 + 1, none⟩ = some (.int .i64 row[e].2) := hcell _ _ f1
          have HRO : Hid (((row.take (e + 1)).map fun x => (x.1, k)) = ((row.take e).map fun x => (x.1, k)) ++ [(row[e].1, k)]) := by
            show _ = _
            rw [List.take_succ_eq_append_getElem hle, List.map_append]
            rfl
          subst e1
          clear f0 f1 hcell hga hxe cur
          generalize row[e] = x at *
          have hal := alloc_b wr (.cells #[.int .i64 (x.1 : Int), .int .i64 x.2] 114)
          have hax : (wr.alloc (.cells #[.int .i64 (x.1 : Int), .int .i64 x.2] 114)).heap[wr.heap.size]? = some (.cells #[.int .i64 (x.1 : Int), .int .i64 x.2] 114) := heap_alloc_new _ _
          have hN4 := hN3.below hal
          have hlr4 := hlr3.below hal
          have hb4 := chain hb3 hal
          have hxn' : (x.1 : Int) < (N.length : Int) := by omega
          clear hN3 hlr3 hb3 hal
          have hrl4 : (E0 ++ (row.take e).map fun x => (x.1, k)).length ≤ 1048575 := by
            rw [List.length_append, List.length_map, List.length_take]
            omega
          generalize hE9 : E0 ++ ((row.take e).map fun x => (x.1, k)) = E at *
          have HE2 : Hid (E0 ++ ((row.take (e + 1)).map fun x => (x.1, k)) = E ++ [(x.1, k)]) := by
            show _ = _
            rw [HRO.out, ← List.append_assoc, hE9]
          clear hE9
          obtain ⟨rr, hrr⟩ : ∃ rr, R1[x.1]? = some rr := ⟨_, List.getElem?_eq_getElem (by rw [hN4.tbl.len, tabH_len]; omega)⟩
          obtain ⟨ar2, kr2, er⟩ := own_form (hN4.tbl.row x.1 rr _ hrr (tabH_at hxn))
          subst er
          have hpc := hN4.tbl.top.cells (g := p) rfl x.1 _ hrr
          rw [addr4, Nat.zero_add] at hpc
          have hrs := rsH_len E x.1
          go_upto_region 8 with fail
          clear c0 c1
          generalize wr.alloc _ = w4 at *
          generalize wr.heap.size = ba at *
          have y2 := cell_of_row w4 ba 0 _ _ (0, 0) hax
          change w4.cell? _ = some (.int .i64 (x.1 : Int)) at y2
          have hrow4 := hN4.tbl.row x.1 _ _ hrr (tabH_at hxn)
          have hlen9 : (rsH E x.1).length ≤ 1048575 := by omega
          obtain ⟨g9, cap9, w9, hrun, hown, hgr, hgl, hlt9⟩ := run_append_lies (P := Tryd.prog) (w4.drew.alloc (.cells #[.int .i64 (k : Int)] 3)) 68 68 w.heap.size 3 i1 (.int .i64 0) 1 8 Tryd.underlying68 hi1 hy0 hy1 hy2 rfl (by decide) (.slice ar2 (rsH E x.1).length kr2) (rsH E x.1).length ((rsH E x.1).map cD).flatten (World.ownsRow.alloc (w := w4.drew) hrow4 _) ⟨w4.heap.size, 0, none⟩ 1 1 [.int .i64 (k : Int)] rfl (World.news_of_block (heap_alloc_new w4.drew _)) (by simp [Value.oneCell']) (by decide) (by unfold maxLen; omega) (by omega) (by have := hb4.size; simp; omega) (w4.heap.size + 1) (by simp)
          obtain ⟨k2, k3, k4⟩ := hN4.facts hrr hxn hgr
          have k5 := cell_of_row w9 ba 0 _ _ (0, 0) (k4 _ _ hax)
          change w9.cell? _ = some (.int .i64 (x.1 : Int)) at k5
          obtain ⟨E1, E2, E3⟩ := hN4.stepD (a := k) hrr hxn hown hgr hgl
          have F2 := hlr4.sm (E2 _ (by decide) (by decide))
          have F3 := E3 _ hb4.size hb4
          have y2a : (w4.drew.alloc (.cells #[.int .i64 (k : Int)] 3)).cell? ⟨ba, 0, none⟩ = _ := cell_alN (W := w4.drew) y2 _
          have hpca : (w4.drew.alloc (.cells #[.int .i64 (k : Int)] 3)).cell? ⟨p, x.1, none⟩ = _ := cell_alN (W := w4.drew) hpc _
          clear hN4 hlr4 hrow4 hown hgr hgl k4 hax E2 E3 hlt9
          refine mono.region_monoS (fun _ _ => True) (fun _ => trivial) (fun _ _ _ _ _ => trivial) (phHv p N.length ba x.1 k (rsH E x.1).length kr2 w4.heap.size g9 cap9 ar2) (mono.BxW 9 10 12 w4.drew (w4.drew.alloc (.cells #[.int .i64 (k : Int)] 3)) w9 (w9.setCell ⟨p, x.1, none⟩ (.slice (some ⟨g9, 0, none⟩) ((rsH E x.1).length + 1) cap9))) 45 [] [0, 1, 2, 3, 4, 5, 6, 7, 8, 9, 10, 11, 12] (by kernel_rfl) rfl rfl (by kernel_rfl) [] (by kernel_rfl) (by simp) phHv_stays mono.BxW.begin (.cons ?_ (.cons ?_ (.cons ?_ (.cons ?_ (.cons ?_ (.cons ?_ (.cons ?_ (.cons ?_ (.cons ?_ (.cons ?_ (.cons ?_ (.cons ?_ (.cons ?_ (.nil)))))))))))))) ?_
          · refine mono.dutyS_of rfl ?_
            intro f W L hR hO hD hL hi hX K hK
            have eL : mono.lit 45 f [] = ⟨#[f 0, f 1, f 2, f 3, f 4, f 5, f 6, f 7, f 8, f 9, f 10, f 11, f 12, f 13, f 14, f 15, f 16, f 17, f 18, f 19, f 20, f 21, f 22, f 23, f 24, f 25, f 26, f 27, f 28, f 29, f 30, f 31, f 32, f 33, f 34, f 35, f 36, f 37, f 38, f 39, f 40, f 41, f 42, f 43, f 44], []⟩ := rfl
            replace hK : ∀ v W', True → phHv p N.length ba x.1 k (rsH E x.1).length kr2 w4.heap.size g9 cap9 ar2 0 v W' → mono.BxW 9 10 12 w4.drew (w4.drew.alloc (.cells #[.int .i64 (k : Int)] 3)) w9 (w9.setCell ⟨p, x.1, none⟩ (.slice (some ⟨g9, 0, none⟩) ((rsH E x.1).length + 1) cap9)) (fun j => if j = 0 then true else L j) W' → K ((mono.lit 45 f []).put (some 30) v) W' := hK
            rw [eL] at hK ⊢
            simp only [Act.put, List.setIfInBounds_toArray, List.set_cons_succ, List.set_cons_zero] at hK
            have o3 : f 3 = (.slice (some ⟨p, 0, none⟩) N.length N.length) := hO 3 (by kernel_rfl)
            rw [o3] at hK ⊢
            obtain ⟨hB, hw⟩ := hX.pure 0 hi (by decide) (by decide) (by decide)
            go_simp
            exact hK _ _ trivial rfl hB
          · refine mono.dutyS_of rfl ?_
            intro f W L hR hO hD hL hi hX K hK
            have eL : mono.lit 45 f [] = ⟨#[f 0, f 1, f 2, f 3, f 4, f 5, f 6, f 7, f 8, f 9, f 10, f 11, f 12, f 13, f 14, f 15, f 16, f 17, f 18, f 19, f 20, f 21, f 22, f 23, f 24, f 25, f 26, f 27, f 28, f 29, f 30, f 31, f 32, f 33, f 34, f 35, f 36, f 37, f 38, f 39, f 40, f 41, f 42, f 43, f 44], []⟩ := rfl
            replace hK : ∀ v W', True → phHv p N.length ba x.1 k (rsH E x.1).length kr2 w4.heap.size g9 cap9 ar2 1 v W' → mono.BxW 9 10 12 w4.drew (w4.drew.alloc (.cells #[.int .i64 (k : Int)] 3)) w9 (w9.setCell ⟨p, x.1, none⟩ (.slice (some ⟨g9, 0, none⟩) ((rsH E x.1).length + 1) cap9)) (fun j => if j = 1 then true else L j) W' → K ((mono.lit 45 f []).put (some 31) v) W' := hK
            rw [eL] at hK ⊢
            simp only [Act.put, List.setIfInBounds_toArray, List.set_cons_succ, List.set_cons_zero] at hK
            have o7 : f 7 = (.pointer (some ⟨ba, 0, none⟩)) := hO 7 (by kernel_rfl)
            rw [o7] at hK ⊢
            obtain ⟨hB, hw⟩ := hX.pure 1 hi (by decide) (by decide) (by decide)
            go_simp
            exact hK _ _ trivial rfl hB
          · refine mono.dutyS_of rfl ?_
            intro f W L hR hO hD hL hi hX K hK
            have eL : mono.lit 45 f [] = ⟨#[f 0, f 1, f 2, f 3, f 4, f 5, f 6, f 7, f 8, f 9, f 10, f 11, f 12, f 13, f 14, f 15, f 16, f 17, f 18, f 19, f 20, f 21, f 22, f 23, f 24, f 25, f 26, f 27, f 28, f 29, f 30, f 31, f 32, f 33, f 34, f 35, f 36, f 37, f 38, f 39, f 40, f 41, f 42, f 43, f 44], []⟩ := rfl
            replace hK : ∀ v W', True → phHv p N.length ba x.1 k (rsH E x.1).length kr2 w4.heap.size g9 cap9 ar2 2 v W' → mono.BxW 9 10 12 w4.drew (w4.drew.alloc (.cells #[.int .i64 (k : Int)] 3)) w9 (w9.setCell ⟨p, x.1, none⟩ (.slice (some ⟨g9, 0, none⟩) ((rsH E x.1).length + 1) cap9)) (fun j => if j = 2 then true else L j) W' → K ((mono.lit 45 f []).put (some 32) v) W' := hK
            rw [eL] at hK ⊢
            simp only [Act.put, List.setIfInBounds_toArray, List.set_cons_succ, List.set_cons_zero] at hK
            have q1 : f 31 = (.pointer (some ⟨ba, 0, none⟩)) := hD 1 31 (by kernel_rfl) (by kernel_rfl)
            rw [q1] at hK ⊢
            obtain ⟨hB, hw⟩ := hX.pure 2 hi (by decide) (by decide) (by decide)
            have yld : W.cell? ⟨ba, 0, none⟩ = some (.int .i64 (x.1 : Int)) := by
              rcases hw with rfl | rfl | rfl
              · exact y2
              · exact y2a
              · exact k5
            go_simp
            exact hK _ _ trivial rfl hB
          · refine mono.dutyS_of rfl ?_
            intro f W L hR hO hD hL hi hX K hK
            have eL : mono.lit 45 f [] = ⟨#[f 0, f 1, f 2, f 3, f 4, f 5, f 6, f 7, f 8, f 9, f 10, f 11, f 12, f 13, f 14, f 15, f 16, f 17, f 18, f 19, f 20, f 21, f 22, f 23, f 24, f 25, f 26, f 27, f 28, f 29, f 30, f 31, f 32, f 33, f 34, f 35, f 36, f 37, f 38, f 39, f 40, f 41, f 42, f 43, f 44], []⟩ := rfl
            replace hK : ∀ v W', True → phHv p N.length ba x.1 k (rsH E x.1).length kr2 w4.heap.size g9 cap9 ar2 3 v W' → mono.BxW 9 10 12 w4.drew (w4.drew.alloc (.cells #[.int .i64 (k : Int)] 3)) w9 (w9.setCell ⟨p, x.1, none⟩ (.slice (some ⟨g9, 0, none⟩) ((rsH E x.1).length + 1) cap9)) (fun j => if j = 3 then true else L j) W' → K ((mono.lit 45 f []).put (some 33) v) W' := hK
            rw [eL] at hK ⊢
            simp only [Act.put, List.setIfInBounds_toArray, List.set_cons_succ, List.set_cons_zero] at hK
            have o3 : f 3 = (.slice (some ⟨p, 0, none⟩) N.length N.length) := hO 3 (by kernel_rfl)
            rw [o3] at hK ⊢
            obtain ⟨hB, hw⟩ := hX.pure 3 hi (by decide) (by decide) (by decide)
            go_simp
            exact hK _ _ trivial rfl hB
          · refine mono.dutyS_of rfl ?_
            intro f W L hR hO hD hL hi hX K hK
            have eL : mono.lit 45 f [] = ⟨#[f 0, f 1, f 2, f 3, f 4, f 5, f 6, f 7, f 8, f 9, f 10, f 11, f 12, f 13, f 14, f 15, f 16, f 17, f 18, f 19, f 20, f 21, f 22, f 23, f 24, f 25, f 26, f 27, f 28, f 29, f 30, f 31, f 32, f 33, f 34, f 35, f 36, f 37, f 38, f 39, f 40, f 41, f 42, f 43, f 44], []⟩ := rfl
            replace hK : ∀ v W', True → phHv p N.length ba x.1 k (rsH E x.1).length kr2 w4.heap.size g9 cap9 ar2 4 v W' → mono.BxW 9 10 12 w4.drew (w4.drew.alloc (.cells #[.int .i64 (k : Int)] 3)) w9 (w9.setCell ⟨p, x.1, none⟩ (.slice (some ⟨g9, 0, none⟩) ((rsH E x.1).length + 1) cap9)) (fun j => if j = 4 then true else L j) W' → K ((mono.lit 45 f []).put (some 34) v) W' := hK
            rw [eL] at hK ⊢
            simp only [Act.put, List.setIfInBounds_toArray, List.set_cons_succ, List.set_cons_zero] at hK
            have o7 : f 7 = (.pointer (some ⟨ba, 0, none⟩)) := hO 7 (by kernel_rfl)
            rw [o7] at hK ⊢
            obtain ⟨hB, hw⟩ := hX.pure 4 hi (by decide) (by decide) (by decide)
            go_simp
            exact hK _ _ trivial rfl hB
          · refine mono.dutyS_of rfl ?_
            intro f W L hR hO hD hL hi hX K hK
            have eL : mono.lit 45 f [] = ⟨#[f 0, f 1, f 2, f 3, f 4, f 5, f 6, f 7, f 8, f 9, f 10, f 11, f 12, f 13, f 14, f 15, f 16, f 17, f 18, f 19, f 20, f 21, f 22, f 23, f 24, f 25, f 26, f 27, f 28, f 29, f 30, f 31, f 32, f 33, f 34, f 35, f 36, f 37, f 38, f 39, f 40, f 41, f 42, f 43, f 44], []⟩ := rfl
            replace hK : ∀ v W', True → phHv p N.length ba x.1 k (rsH E x.1).length kr2 w4.heap.size g9 cap9 ar2 5 v W' → mono.BxW 9 10 12 w4.drew (w4.drew.alloc (.cells #[.int .i64 (k : Int)] 3)) w9 (w9.setCell ⟨p, x.1, none⟩ (.slice (some ⟨g9, 0, none⟩) ((rsH E x.1).length + 1) cap9)) (fun j => if j = 5 then true else L j) W' → K ((mono.lit 45 f []).put (some 35) v) W' := hK
            rw [eL] at hK ⊢
            simp only [Act.put, List.setIfInBounds_toArray, List.set_cons_succ, List.set_cons_zero] at hK
            have q4 : f 34 = (.pointer (some ⟨ba, 0, none⟩)) := hD 4 34 (by kernel_rfl) (by kernel_rfl)
            rw [q4] at hK ⊢
            obtain ⟨hB, hw⟩ := hX.pure 5 hi (by decide) (by decide) (by decide)
            have yld : W.cell? ⟨ba, 0, none⟩ = some (.int .i64 (x.1 : Int)) := by
              rcases hw with rfl | rfl | rfl
              · exact y2
              · exact y2a
              · exact k5
            go_simp
            exact hK _ _ trivial rfl hB
          · refine mono.dutyS_of rfl ?_
            intro f W L hR hO hD hL hi hX K hK
            have eL : mono.lit 45 f [] = ⟨#[f 0, f 1, f 2, f 3, f 4, f 5, f 6, f 7, f 8, f 9, f 10, f 11, f 12, f 13, f 14, f 15, f 16, f 17, f 18, f 19, f 20, f 21, f 22, f 23, f 24, f 25, f 26, f 27, f 28, f 29, f 30, f 31, f 32, f 33, f 34, f 35, f 36, f 37, f 38, f 39, f 40, f 41, f 42, f 43, f 44], []⟩ := rfl
            replace hK : ∀ v W', True → phHv p N.length ba x.1 k (rsH E x.1).length kr2 w4.heap.size g9 cap9 ar2 6 v W' → mono.BxW 9 10 12 w4.drew (w4.drew.alloc (.cells #[.int .i64 (k : Int)] 3)) w9 (w9.setCell ⟨p, x.1, none⟩ (.slice (some ⟨g9, 0, none⟩) ((rsH E x.1).length + 1) cap9)) (fun j => if j = 6 then true else L j) W' → K ((mono.lit 45 f []).put (some 36) v) W' := hK
            rw [eL] at hK ⊢
            simp only [Act.put, List.setIfInBounds_toArray, List.set_cons_succ, List.set_cons_zero] at hK
            have q3 : f 33 = (.slice (some ⟨p, 0, none⟩) N.length N.length) := hD 3 33 (by kernel_rfl) (by kernel_rfl)
            have q5 : f 35 = (.int .i64 (x.1 : Int)) := hD 5 35 (by kernel_rfl) (by kernel_rfl)
            rw [q3, q5] at hK ⊢
            obtain ⟨hB, hw⟩ := hX.pure 6 hi (by decide) (by decide) (by decide)
            go_simp
            exact hK _ _ trivial rfl hB
          · refine mono.dutyS_of rfl ?_
            intro f W L hR hO hD hL hi hX K hK
            have eL : mono.lit 45 f [] = ⟨#[f 0, f 1, f 2, f 3, f 4, f 5, f 6, f 7, f 8, f 9, f 10, f 11, f 12, f 13, f 14, f 15, f 16, f 17, f 18, f 19, f 20, f 21, f 22, f 23, f 24, f 25, f 26, f 27, f 28, f 29, f 30, f 31, f 32, f 33, f 34, f 35, f 36, f 37, f 38, f 39, f 40, f 41, f 42, f 43, f 44], []⟩ := rfl
            replace hK : ∀ v W', True → phHv p N.length ba x.1 k (rsH E x.1).length kr2 w4.heap.size g9 cap9 ar2 7 v W' → mono.BxW 9 10 12 w4.drew (w4.drew.alloc (.cells #[.int .i64 (k : Int)] 3)) w9 (w9.setCell ⟨p, x.1, none⟩ (.slice (some ⟨g9, 0, none⟩) ((rsH E x.1).length + 1) cap9)) (fun j => if j = 7 then true else L j) W' → K ((mono.lit 45 f []).put (some 37) v) W' := hK
            rw [eL] at hK ⊢
            simp only [Act.put, List.setIfInBounds_toArray, List.set_cons_succ, List.set_cons_zero] at hK
            have q6 : f 36 = (.pointer (some ⟨p, x.1, none⟩)) := hD 6 36 (by kernel_rfl) (by kernel_rfl)
            rw [q6] at hK ⊢
            obtain ⟨hB, hw⟩ := hX.pure 7 hi (by decide) (by decide) (by decide)
            have yld : W.cell? ⟨p, x.1, none⟩ = some (.slice ar2 (rsH E x.1).length kr2) := by
              rcases hw with rfl | rfl | rfl
              · exact hpc
              · exact hpca
              · exact k2
            go_simp
            exact hK _ _ trivial rfl hB
          · refine mono.dutyS_of rfl ?_
            intro f W L hR hO hD hL hi hX K hK
            have eL : mono.lit 45 f [] = ⟨#[f 0, f 1, f 2, f 3, f 4, f 5, f 6, f 7, f 8, f 9, f 10, f 11, f 12, f 13, f 14, f 15, f 16, f 17, f 18, f 19, f 20, f 21, f 22, f 23, f 24, f 25, f 26, f 27, f 28, f 29, f 30, f 31, f 32, f 33, f 34, f 35, f 36, f 37, f 38, f 39, f 40, f 41, f 42, f 43, f 44], []⟩ := rfl
            replace hK : ∀ v W', True → phHv p N.length ba x.1 k (rsH E x.1).length kr2 w4.heap.size g9 cap9 ar2 8 v W' → mono.BxW 9 10 12 w4.drew (w4.drew.alloc (.cells #[.int .i64 (k : Int)] 3)) w9 (w9.setCell ⟨p, x.1, none⟩ (.slice (some ⟨g9, 0, none⟩) ((rsH E x.1).length + 1) cap9)) (fun j => if j = 8 then true else L j) W' → K ((mono.lit 45 f []).put (some 38) v) W' := hK
            rw [eL] at hK ⊢
            simp only [Act.put, List.setIfInBounds_toArray, List.set_cons_succ, List.set_cons_zero] at hK
            have o4 : f 4 = (.int .i64 (k : Int)) := hO 4 (by kernel_rfl)
            rw [o4] at hK ⊢
            obtain ⟨hB, hw⟩ := hX.pure 8 hi (by decide) (by decide) (by decide)
            go_simp
            exact hK _ _ trivial rfl hB
          · refine mono.dutyS_of rfl ?_
            intro f W L hR hO hD hL hi hX K hK
            have eL : mono.lit 45 f [] = ⟨#[f 0, f 1, f 2, f 3, f 4, f 5, f 6, f 7, f 8, f 9, f 10, f 11, f 12, f 13, f 14, f 15, f 16, f 17, f 18, f 19, f 20, f 21, f 22, f 23, f 24, f 25, f 26, f 27, f 28, f 29, f 30, f 31, f 32, f 33, f 34, f 35, f 36, f 37, f 38, f 39, f 40, f 41, f 42, f 43, f 44], []⟩ := rfl
            replace hK : ∀ v W', True → phHv p N.length ba x.1 k (rsH E x.1).length kr2 w4.heap.size g9 cap9 ar2 9 v W' → mono.BxW 9 10 12 w4.drew (w4.drew.alloc (.cells #[.int .i64 (k : Int)] 3)) w9 (w9.setCell ⟨p, x.1, none⟩ (.slice (some ⟨g9, 0, none⟩) ((rsH E x.1).length + 1) cap9)) (fun j => if j = 9 then true else L j) W' → K ((mono.lit 45 f []).put (some 39) v) W' := hK
            rw [eL] at hK ⊢
            simp only [Act.put, List.setIfInBounds_toArray, List.set_cons_succ, List.set_cons_zero] at hK
            have q8 : f 38 = (.int .i64 (k : Int)) := hD 8 38 (by kernel_rfl) (by kernel_rfl)
            rw [q8] at hK ⊢
            obtain ⟨rfl, hB⟩ := hX.one hi (by decide) (by decide)
            go_simp
            exact hK _ _ trivial rfl hB
          · refine mono.dutyS_of rfl ?_
            intro f W L hR hO hD hL hi hX K hK
            have eL : mono.lit 45 f [] = ⟨#[f 0, f 1, f 2, f 3, f 4, f 5, f 6, f 7, f 8, f 9, f 10, f 11, f 12, f 13, f 14, f 15, f 16, f 17, f 18, f 19, f 20, f 21, f 22, f 23, f 24, f 25, f 26, f 27, f 28, f 29, f 30, f 31, f 32, f 33, f 34, f 35, f 36, f 37, f 38, f 39, f 40, f 41, f 42, f 43, f 44], []⟩ := rfl
            replace hK : ∀ v W', True → phHv p N.length ba x.1 k (rsH E x.1).length kr2 w4.heap.size g9 cap9 ar2 10 v W' → mono.BxW 9 10 12 w4.drew (w4.drew.alloc (.cells #[.int .i64 (k : Int)] 3)) w9 (w9.setCell ⟨p, x.1, none⟩ (.slice (some ⟨g9, 0, none⟩) ((rsH E x.1).length + 1) cap9)) (fun j => if j = 10 then true else L j) W' → K ((mono.lit 45 f []).put (some 40) v) W' := hK
            rw [eL] at hK ⊢
            simp only [Act.put, List.setIfInBounds_toArray, List.set_cons_succ, List.set_cons_zero] at hK
            have q7 : f 37 = (.slice ar2 (rsH E x.1).length kr2) := hD 7 37 (by kernel_rfl) (by kernel_rfl)
            have q9 : f 39 = (.slice (some ⟨w4.heap.size, 0, none⟩) 1 1) := hD 9 39 (by kernel_rfl) (by kernel_rfl)
            rw [q7, q9] at hK ⊢
            have hl1 := hL 9 (by kernel_rfl)
            obtain ⟨rfl, hB⟩ := hX.two hl1 hi (by decide) (by decide)
            exact mono.wp_append_run (.tmp 37) (.tmp 39) 68 rfl rfl rfl hrun (hK _ _ trivial rfl hB)
          · refine mono.dutyS_of rfl ?_
            intro f W L hR hO hD hL hi hX K hK
            have eL : mono.lit 45 f [] = ⟨#[f 0, f 1, f 2, f 3, f 4, f 5, f 6, f 7, f 8, f 9, f 10, f 11, f 12, f 13, f 14, f 15, f 16, f 17, f 18, f 19, f 20, f 21, f 22, f 23, f 24, f 25, f 26, f 27, f 28, f 29, f 30, f 31, f 32, f 33, f 34, f 35, f 36, f 37, f 38, f 39, f 40, f 41, f 42, f 43, f 44], []⟩ := rfl
            replace hK : ∀ v W', True → phHv p N.length ba x.1 k (rsH E x.1).length kr2 w4.heap.size g9 cap9 ar2 11 v W' → mono.BxW 9 10 12 w4.drew (w4.drew.alloc (.cells #[.int .i64 (k : Int)] 3)) w9 (w9.setCell ⟨p, x.1, none⟩ (.slice (some ⟨g9, 0, none⟩) ((rsH E x.1).length + 1) cap9)) (fun j => if j = 11 then true else L j) W' → K ((mono.lit 45 f []).put (some 41) v) W' := hK
            rw [eL] at hK ⊢
            simp only [Act.put, List.setIfInBounds_toArray, List.set_cons_succ, List.set_cons_zero] at hK
            have q0 : f 30 = (.slice (some ⟨p, 0, none⟩) N.length N.length) := hD 0 30 (by kernel_rfl) (by kernel_rfl)
            have q2 : f 32 = (.int .i64 (x.1 : Int)) := hD 2 32 (by kernel_rfl) (by kernel_rfl)
            rw [q0, q2] at hK ⊢
            obtain ⟨hB, hw⟩ := hX.pure 11 hi (by decide) (by decide) (by decide)
            go_simp
            exact hK _ _ trivial rfl hB
          · refine mono.dutyS_of rfl ?_
            intro f W L hR hO hD hL hi hX K hK
            have eL : mono.lit 45 f [] = ⟨#[f 0, f 1, f 2, f 3, f 4, f 5, f 6, f 7, f 8, f 9, f 10, f 11, f 12, f 13, f 14, f 15, f 16, f 17, f 18, f 19, f 20, f 21, f 22, f 23, f 24, f 25, f 26, f 27, f 28, f 29, f 30, f 31, f 32, f 33, f 34, f 35, f 36, f 37, f 38, f 39, f 40, f 41, f 42, f 43, f 44], []⟩ := rfl
            replace hK : ∀ v W', True → phHv p N.length ba x.1 k (rsH E x.1).length kr2 w4.heap.size g9 cap9 ar2 12 v W' → mono.BxW 9 10 12 w4.drew (w4.drew.alloc (.cells #[.int .i64 (k : Int)] 3)) w9 (w9.setCell ⟨p, x.1, none⟩ (.slice (some ⟨g9, 0, none⟩) ((rsH E x.1).length + 1) cap9)) (fun j => if j = 12 then true else L j) W' → K ((mono.lit 45 f []).put none v) W' := hK
            rw [eL] at hK ⊢
            simp only [Act.put] at hK
            have q11 : f 41 = (.pointer (some ⟨p, x.1, none⟩)) := hD 11 41 (by kernel_rfl) (by kernel_rfl)
            have q10 : f 40 = (.slice (some ⟨g9, 0, none⟩) ((rsH E x.1).length + 1) cap9) := hD 10 40 (by kernel_rfl) (by kernel_rfl)
            rw [q11, q10] at hK ⊢
            have ha : ∀ j, j < 12 → L j = true := fun j hj => match j, hj with
              | 0, _ => hL 0 (by kernel_rfl)
              | 1, _ => hL 1 (by kernel_rfl)
              | 2, _ => hL 2 (by kernel_rfl)
              | 3, _ => hL 3 (by kernel_rfl)
              | 4, _ => hL 4 (by kernel_rfl)
              | 5, _ => hL 5 (by kernel_rfl)
              | 6, _ => hL 6 (by kernel_rfl)
              | 7, _ => hL 7 (by kernel_rfl)
              | 8, _ => hL 8 (by kernel_rfl)
              | 9, _ => hL 9 (by kernel_rfl)
              | 10, _ => hL 10 (by kernel_rfl)
              | 11, _ => hL 11 (by kernel_rfl)
              | (q + 12), h => absurd h (by omega)
            obtain ⟨rfl, hB⟩ := hX.three hi ha (by decide) (by decide)
            have y := k2
            have z := k3
            go_simp
            exact hK undef _ trivial trivial hB
          intro f W L hR hO hD hall hX
          obtain rfl := hX.fin hall (by decide)
          have r0 := hO 0 (by kernel_rfl)
          have r1 := hO 1 (by kernel_rfl)
          have r2 := hO 2 (by kernel_rfl)
          have r3 := hO 3 (by kernel_rfl)
          have r4 := hO 4 (by kernel_rfl)
          have r5 := hO 5 (by kernel_rfl)
          have r6 := hO 6 (by kernel_rfl)
          have r7 := hO 7 (by kernel_rfl)
          have r8 := hO 8 (by kernel_rfl)
          have r9 := hO 9 (by kernel_rfl)
          have r10 := hO 10 (by kernel_rfl)
          have r11 := hO 11 (by kernel_rfl)
          have r12 := hO 12 (by kernel_rfl)
          have r13 := hO 13 (by kernel_rfl)
          have r14 := hO 14 (by kernel_rfl)
          have r15 := hO 15 (by kernel_rfl)
          have r16 := hO 16 (by kernel_rfl)
          have r17 := hO 17 (by kernel_rfl)
          have r18 := hO 18 (by kernel_rfl)
          have r19 := hO 19 (by kernel_rfl)
          have r20 := hO 20 (by kernel_rfl)
          have r21 := hO 21 (by kernel_rfl)
          have r22 := hO 22 (by kernel_rfl)
          have r23 := hO 23 (by kernel_rfl)
          have r24 := hO 24 (by kernel_rfl)
          have r25 := hO 25 (by kernel_rfl)
          have r26 := hO 26 (by kernel_rfl)
          have r27 := hO 27 (by kernel_rfl)
          have r28 := hO 28 (by kernel_rfl)
          have r29 := hO 29 (by kernel_rfl)
          have r42 := hO 42 (by kernel_rfl)
          have r43 := hO 43 (by kernel_rfl)
          have r44 := hO 44 (by kernel_rfl)
          simp only [Array.getD_eq_getD_getElem?, List.getElem?_toArray, List.getElem?_cons_zero, List.getElem?_cons_succ, Option.getD_some] at r0 r1 r2 r3 r4 r5 r6 r7 r8 r9 r10 r11 r12 r13 r14 r15 r16 r17 r18 r19 r20 r21 r22 r23 r24 r25 r26 r27 r28 r29 r42 r43 r44
          have eL : mono.lit 45 f [] = ⟨#[f 0, f 1, f 2, f 3, f 4, f 5, f 6, f 7, f 8, f 9, f 10, f 11, f 12, f 13, f 14, f 15, f 16, f 17, f 18, f 19, f 20, f 21, f 22, f 23, f 24, f 25, f 26, f 27, f 28, f 29, f 30, f 31, f 32, f 33, f 34, f 35, f 36, f 37, f 38, f 39, f 40, f 41, f 42, f 43, f 44], []⟩ := rfl
          rw [eL, r0, r1, r2, r3, r4, r5, r6, r7, r8, r9, r10, r11, r12, r13, r14, r15, r16, r17, r18, r19, r20, r21, r22, r23, r24, r25, r26, r27, r28, r29, r42, r43, r44]
          clear eL hO hD hall hX hR r0 r1 r2 r3 r4 r5 r6 r7 r8 r9 r10 r11 r12 r13 r14 r15 r16 r17 r18 r19 r20 r21 r22 r23 r24 r25 r26 r27 r28 r29 r42 r43 r44
          go_wp2_with fail
          exact ⟨⟨e + 1, by omega, by go_num, ⟨_, by rw [HE2.out]; exact E1⟩, F2, F3⟩, by simp [Go.RowKit.intOf]; omega⟩
        · obtain rfl : e = row.length := by omega
          go_wp2_with fail
          exact ⟨⟨k + 1, by omega, by go_num, ⟨R1, by rw [HEV.out]; exact hN3⟩, hb3⟩, by simp [Go.RowKit.intOf]; omega⟩
    · obtain rfl : k = D.length := by omega
      rw [List.take_length] at hN1
      go_wp2_with fail
      go_ret
      exact ⟨_, rfl, hN1.tbl.rd, hb⟩
end Go.Proofs.YtjimolafoihnpaaDoor.tc
