/-
  The program's read: the walk.
-/
import Derived.Test.YtjimolafoihnpaaDoorTrC
namespace Go.Proofs.YtjimolafoihnpaaDoor.tc
open Go.Maps Go.ChangeShapes Go.WideShapes Go.ChangeAt Go.RowKit Go.PlainAid

theorem idx_f {l a rest : List Atm} {x : Atm} (h : l = a ++ x :: rest) : (nmA l).idxOf x.key = if x.key ∈ nmA a then (nmA a).idxOf x.key else (nmA a).length := by
  have e : l = (a ++ [x]) ++ rest := by rw [h]; simp
  obtain ⟨t, ht⟩ := nmA_pre (a ++ [x]) rest
  rw [e, ht, nmA_one]
  by_cases hm : x.key ∈ nmA a
  · rw [if_pos hm, if_pos hm, idx_pre hm]
  · rw [if_neg hm, if_neg hm, idx_pre (by simp), List.idxOf_append, if_neg hm]
    simp
theorem cut_at {L : List (List RunD)} {k e j : Nat} {l : List RunD} {r : RunD} {z : Int} (h1 : L[k]? = some l) (h2 : l[e]? = some r) (h3 : (pq r)[j]? = some z) :
    ∃ rest, aTs L = (aTs (L.take k) ++ (aT (l.take e) ++ atG r.c r.q r.f ((pq r).take j))) ++ ⟨r.c, r.q, r.f + (j : Int), z⟩ :: rest := by
  have hk : k < L.length := (List.getElem?_eq_some_iff.1 h1).1
  have he : e < l.length := (List.getElem?_eq_some_iff.1 h2).1
  have e1 : aTs L = aTs (L.take k) ++ (aT l ++ aTs (L.drop (k + 1))) := by
    conv => lhs; rw [← List.take_append_drop k L, List.drop_eq_getElem_cons hk]
    rw [List.getElem?_eq_getElem hk] at h1
    cases h1
    simp only [aTs, List.map_append, List.flatten_append, List.map_cons, List.flatten_cons]
  have e2 : aT l = aT (l.take e) ++ (atR r ++ aT (l.drop (e + 1))) := by
    conv => lhs; rw [← List.take_append_drop e l, List.drop_eq_getElem_cons he]
    rw [List.getElem?_eq_getElem he] at h2
    cases h2
    simp only [aT, List.map_append, List.flatten_append, List.map_cons, List.flatten_cons]
  have e3 : atR r = atG r.c r.q r.f ((pq r).take j) ++ ⟨r.c, r.q, r.f + (j : Int), z⟩ :: atG r.c r.q (r.f + (j : Int) + 1) ((pq r).drop (j + 1)) := by
    rw [atR_pq]
    have hj : j < (pq r).length := (List.getElem?_eq_some_iff.1 h3).1
    rw [List.getElem?_eq_getElem hj] at h3
    cases h3
    conv => lhs; rw [← List.take_append_drop j (pq r), atG_append, List.drop_eq_getElem_cons hj, atG]
    rw [List.length_take, Nat.min_eq_left (by omega)]
  exact ⟨atG r.c r.q (r.f + (j : Int) + 1) ((pq r).drop (j + 1)) ++ aT (l.drop (e + 1)) ++ aTs (L.drop (k + 1)), by rw [e1, e2, e3]; simp⟩
theorem dA_app (N : List AtK) (a b : List Atm) : dA N (a ++ b) = dA N a ++ dA N b := by simp [dA]
theorem nm_cell (k : AtK) : cN k = [.int .i64 k.1, .int .i64 k.2.1, .int .i64 k.2.2] := rfl
theorem wf_key {c q n : Int} (h1 : -9223372036854775808 ≤ c ∧ c ≤ 9223372036854775807) (h2 : -9223372036854775808 ≤ q ∧ q ≤ 9223372036854775807) (h3 : 0 ≤ n ∧ n ≤ 9223372036854775807) : Wf (c, q, n) := by
  have e0 : IntKind.i64.min = -9223372036854775808 := by decide
  have e1 : IntKind.i64.max = 9223372036854775807 := by decide
  refine ⟨?_, ?_, ?_⟩ <;> (simp only [Lit.wf, e0, e1, Bool.and_eq_true, decide_eq_true_eq]; omega)
def InI (k : Int) : Prop := -9223372036854775808 ≤ k ∧ k ≤ 9223372036854775807
theorem pq_len (r : RunD) : (pq r).length ≤ r.t.size := by
  unfold pq
  split
  · exact pts_size _
  · simp

theorem cell_al {W : World} {p : Addr} {v : Value} (h : W.cell? p = some v) (o : Obj) : W.cell? p = some v ∧ (W.alloc o).cell? p = some v :=
  ⟨h, ((alloc_b W o).cell (World.block_lt_of_cell? W p h)).trans h⟩
/-- What is met behind the append. -/
theorem atom_facts {W W9 : World} {B b m p n cp : Nat} {N : List AtK} {nv : Value} {R : List Value} {X : List (List (Nat × Int))} {i : Nat} {r : Value} {xs : List (Nat × Int)} (h : Bk W B b m N (.slice (some ⟨p, 0, none⟩) n cp) nv R X) (hr : R[i]? = some r) (hx : X[i]? = some xs) (o : Obj) (hg : (W.drew.alloc o).grownBy W9 r.ownBlock) :
    W9.cell? ⟨b, 0, none⟩ = some (.slice (some ⟨p, 0, none⟩) n cp) ∧ W9.cell? ⟨p, i, none⟩ = some r ∧ W9.frozen? ⟨p, i, none⟩ = false := by
  have h1 : Bk (W.drew.alloc o) B b m N (.slice (some ⟨p, 0, none⟩) n cp) nv R X := Bk.below (W := W) h ((Below.refl _ W).drew.alloc (Nat.le_refl _) o)
  have hro := h1.docs.row i r xs hr hx
  have t2 := own_sm h1.docs.top (Sm.own hro hg neBk.1)
  have c := t2.cells (g := p) rfl i _ hr
  rw [addr4, Nat.zero_add] at c
  have hn : n = X.length := by
    obtain ⟨ao, cp, e⟩ := own_form t2
    injection e
  subst hn
  exact ⟨(h1.box.own hro hg neBk.2.2.2.1.symm).cells.1, c, t2.frozenAt i⟩
theorem drew_al (W : World) (o : Obj) : Below W.heap.size W (W.drew.alloc o) := (Below.refl _ W).drew.alloc (Nat.le_refl _) o
/-- What is there behind it. -/
theorem atom_end {W W9 : World} {B b m p n cp : Nat} {N : List AtK} {nv : Value} {R : List Value} {X : List (List (Nat × Int))} {i : Nat} {r : Value} {xs : List (Nat × Int)} {a : Nat × Int} {g k : Nat} {o : Obj} (h : Bk W B b m N (.slice (some ⟨p, 0, none⟩) n cp) nv R X) (hr : R[i]? = some r) (hx : X[i]? = some xs)
    (ho : W9.ownsRow B 114 2 (.slice (some ⟨g, 0, none⟩) (xs.length + 1) k) (xs.length + 1) ((xs.map cA).flatten ++ cA a)) (hg : (W.drew.alloc o).grownBy W9 r.ownBlock) (hl : r.ownBlock = some g ∨ g = W.heap.size + 1) :
    Bk (W9.setCell ⟨p, i, none⟩ (.slice (some ⟨g, 0, none⟩) (xs.length + 1) k)) B b m N (.slice (some ⟨p, 0, none⟩) n cp) nv (R.set i (.slice (some ⟨g, 0, none⟩) (xs.length + 1) k)) (X.set i (xs ++ [a])) ∧
    (∀ t, 114 ≠ t → 112 ≠ t → Sm t W (W9.setCell ⟨p, i, none⟩ (.slice (some ⟨g, 0, none⟩) (xs.length + 1) k))) ∧
    (∀ w0, B ≤ W.heap.size → Below B w0 W → Below B w0 (W9.setCell ⟨p, i, none⟩ (.slice (some ⟨g, 0, none⟩) (xs.length + 1) k))) := by
  have h1 : Bk (W.drew.alloc o) B b m N (.slice (some ⟨p, 0, none⟩) n cp) nv R X := Bk.below (W := W) h (drew_al W o)
  have hro := h1.docs.row i r xs hr hx
  have t2 := own_sm h1.docs.top (Sm.own hro hg neBk.1)
  obtain ⟨cu, hcu⟩ := own_kind t2 (g := p) rfl
  refine ⟨h1.atom hr hx rfl ho hg (by simpa using hl), fun t ht1 ht2 => ((Sm.below (drew_al W o)).trans (Sm.own hro hg ht1)).trans (Sm.set hcu ht2 _ _), fun w0 hB hb => ?_⟩
  have hs : (W.drew.alloc o).heap.size = W.heap.size + 1 := by simp
  exact ((hb.drew.alloc hB o).grown hg (by omega) (fun k hk => (hro.lt k hk).1)).setCell (p := ⟨p, i, none⟩) (t2.lt p rfl).1 _
/-- The same of a name. -/
theorem name_facts {W W9 : World} {B b : Nat} {N : List AtK} {dv nv : Value} (h1 : BB W b dv nv) (h3 : W.ownsRow B 111 3 nv N.length (N.map cN).flatten) (o : Obj) (hg : (W.drew.alloc o).grownBy W9 nv.ownBlock) :
    W9.cell? ⟨b, 1, none⟩ = some nv ∧ W9.frozen? ⟨b, 1, none⟩ = false := by
  have b1 := (h1.below (drew_al W o)).own (own_below h3 (drew_al W o)) hg neBk.2.2.2.2.2.symm
  exact ⟨b1.cells.2.1, b1.cells.2.2.2⟩
theorem name_end {W W9 : World} {B b m : Nat} {N : List AtK} {k : AtK} {dv nv nv' : Value} {R : List Value} {X : List (List (Nat × Int))} {o : Obj} (h1 : BB W b dv nv) (h2 : Tbl W B 114 2 cA 112 dv R X) (h3 : W.ownsRow B 111 3 nv N.length (N.map cN).flatten) (h4 : Kn W m (N ++ [k])) (hb : B ≤ b) (hm : B ≤ m)
    (ho : W9.ownsRow B 111 3 nv' (N.length + 1) ((N.map cN).flatten ++ cN k)) (hg : (W.drew.alloc o).grownBy W9 nv.ownBlock) :
    Bk (W9.setCell ⟨b, 1, none⟩ nv') B b m (N ++ [k]) dv nv' R X ∧
    (∀ t, 111 ≠ t → 65 ≠ t → Sm t W (W9.setCell ⟨b, 1, none⟩ nv')) ∧
    (∀ w0, B ≤ W.heap.size → Below B w0 W → Below B w0 (W9.setCell ⟨b, 1, none⟩ nv')) := by
  have hd := drew_al W o
  have h3' := own_below h3 hd
  have b1 := (h1.below hd).own h3' hg neBk.2.2.2.2.2.symm
  refine ⟨Bk.name (h1.below hd) (h2.below hd) h3' (h4.grown (gb_below (o := none) hd) (by simp)) hb hm ho hg, fun t ht1 ht2 => ((Sm.below hd).trans (Sm.own h3' hg ht1)).trans (Sm.set b1 ht2 _ _), fun w0 hB hbl => ?_⟩
  have hs : (W.drew.alloc o).heap.size = W.heap.size + 1 := by simp
  exact ((hbl.drew.alloc hB o).grown hg (by omega) (fun k hk => (h3'.lt k hk).1)).setCell (p := ⟨b, 1, none⟩) hb _
set_option maxRecDepth 20000 in
set_option maxHeartbeats 8000000 in
theorem read_any (v : Value) (L : List (List RunD)) (w : World) (hr : RdL w v L) (hL : L.length ≤ 1048576) (hl : ∀ l ∈ L, l.length ≤ 1048576 ∧ ∀ r ∈ l, r.t.size ≤ 1048576 ∧ InI r.c ∧ InI r.q) (hn : (aTs L).length ≤ 1048576) :
    Calls Tryd.prog 24 #[v] w fun e w' => ∃ b dv nv, e = .returned (.pointer (some ⟨b, 0, none⟩)) ∧ Below w.heap.size w w' ∧ w.heap.size ≤ b ∧ BB w' b dv nv ∧ Tb w' 114 cA 112 dv (L.map fun l => dA (nmA (aTs L)) (aT l)) ∧ Ln w' 111 nv (nmA (aTs L)).length ((nmA (aTs L)).map cN).flatten := by
  obtain ⟨i1, hi1, hy0, hy1, hy2⟩ := info_parts infoAt
  obtain ⟨i2, hi2, hx0, hx1, hx2⟩ := info_parts infoNm
  obtain ⟨ao, cp, rfl, _, hcs⟩ := hr
  have hmm := @run_makeMap Tryd.prog
  obtain ⟨Nf, HNf⟩ : ∃ Nf, Hid (nmA (aTs L) = Nf) := ⟨_, rfl⟩
  rw [HNf.out]
  obtain ⟨Z, Z1, Z2, hmk⟩ := make_any (t := 62) Tryd.underlying62 infoRw rfl (by decide) (by decide) L.length (by omega)
  have q1 := own_made (e := 112) (W := w) (B := w.heap.size) Z1 Z2 (by omega) (Nat.le_refl _)
  have q2 : (w.alloc (.cells Z 112)).ownsRow w.heap.size 112 1 (.slice (some ⟨w.heap.size, 0, none⟩) L.length L.length) L.length (List.replicate L.length (.slice none 0 0)) := by
    have e : ((List.replicate L.length ()).map fun _ => (Value.slice none 0 0).cells.toList).flatten = List.replicate L.length (.slice none 0 0) := by
      simp [Value.cells]
    rw [e] at q1
    exact q1
  have b1 := alloc_b w (.cells Z 112)
  have b2 := alloc_b (w.alloc (.cells Z 112)) (.cells #[.slice (some ⟨w.heap.size, 0, none⟩) L.length L.length, .slice none 0 0] 65)
  have x2 : BB _ _ _ _ := heap_alloc_new (w.alloc (.cells Z 112)) (.cells #[.slice (some ⟨w.heap.size, 0, none⟩) L.length L.length, .slice none 0 0] 65)
  have b3 := alloc_b ((w.alloc (.cells Z 112)).alloc (.cells #[.slice (some ⟨w.heap.size, 0, none⟩) L.length L.length, .slice none 0 0] 65)) (.map #[] 0)
  have k3 := Kn.new ((w.alloc (.cells Z 112)).alloc (.cells #[.slice (some ⟨w.heap.size, 0, none⟩) L.length L.length, .slice none 0 0] 65))
  have hB0 := chain (chain b1 b2) b3
  have K0 : Bk (((w.alloc (.cells Z 112)).alloc (.cells #[.slice (some ⟨w.heap.size, 0, none⟩) L.length L.length, .slice none 0 0] 65)).alloc (.map #[] 0)) w.heap.size (w.heap.size + 1) (w.heap.size + 1 + 1) [] (.slice (some ⟨w.heap.size, 0, none⟩) L.length L.length) (.slice none 0 0) (List.replicate L.length (.slice none 0 0)) (List.replicate L.length []) := by
    refine ⟨?_, (((Tbl.new q2).below b2).below b3), World.ownsRow_nil _ _ _ _, ?_, by omega, by omega⟩
    · have := x2.below b3
      simpa using this
    · simpa using k3
  clear q1 q2 b1 b2 x2 b3 k3 Z1 Z2
  go_enter Tryd.func24, Tryd.ntmps24
  go_wp2_with fail
  generalize (((w.alloc (.cells Z 112)).alloc (.cells #[.slice (some ⟨w.heap.size, 0, none⟩) L.length L.length, .slice none 0 0] 65)).alloc (.map #[] 0)) = w0 at *
  clear hmk hmm
  go_loopw [22] (fun i wr => ∃ k : Nat, k ≤ L.length ∧ i = .int .i64 (k : Int) ∧ (∃ dv nv R, Bk wr w.heap.size (w.heap.size + 1) (w.heap.size + 1 + 1) (nmA (aTs (L.take k))) dv nv R ((L.take k).map (fun l => dA Nf (aT l)) ++ List.replicate (L.length - k) [])) ∧ Below w.heap.size w wr) (fun i _ => L.length - (Go.RowKit.intOf i).toNat)
  case atStart => exact ⟨0, by omega, rfl, ⟨_, _, _, by simpa [aTs, nmA, nms] using K0⟩, hB0⟩
  case round =>
    obtain ⟨k, hk, rfl, ⟨dv, nv, R, hbk⟩, hb⟩ := hrel
    clear K0 hB0
    by_cases hlt : k < L.length
    · have hlt' : (k : Int) < (L.length : Int) := by omega
      have hLk : L[k]? = some L[k] := by simp [hlt]
      obtain ⟨gb, go, u, e1, hgb, cu, hrn⟩ := hcs k _ hLk
      have hlk := hl L[k] (List.getElem_mem hlt)
      obtain ⟨C, hC⟩ : ∃ C : List (List (Nat × Int)), C = List.replicate (L.length - k - 1) [] := ⟨_, rfl⟩
      have eX : (L.take k).map (fun l => dA Nf (aT l)) ++ List.replicate (L.length - k) [] = (L.take k).map (fun l => dA Nf (aT l)) ++ dA Nf (aT (L[k].take 0)) :: C := by
        rw [hC, show L.length - k = (L.length - k - 1) + 1 by omega, List.replicate_succ]
        rfl
      rw [eX] at hbk
      have HEND : Hid ((L.take k).map (fun l => dA Nf (aT l)) ++ dA Nf (aT (L[k].take L[k].length)) :: C = (L.take (k + 1)).map (fun l => dA Nf (aT l)) ++ List.replicate (L.length - (k + 1)) []) := by
        show _ = _
        rw [hC, List.take_of_length_le (Nat.le_refl _), List.take_succ_eq_append_getElem hlt, List.map_append, List.append_assoc, Nat.sub_sub]
        rfl
      have HEN2 : Hid (aTs (L.take (k + 1)) = aTs (L.take k) ++ aT (L[k].take L[k].length)) := by
        show _ = _
        rw [List.take_of_length_le (Nat.le_refl _), aTs_take hlt]
      have HCUT : Hid (∀ e r j z, L[k][e]? = some r → (pq r)[j]? = some z → ∃ rest, aTs L = (aTs (L.take k) ++ (aT (L[k].take e) ++ atG r.c r.q r.f ((pq r).take j))) ++ ⟨r.c, r.q, r.f + (j : Int), z⟩ :: rest) := fun e r j z h2 h3 => cut_at hLk h2 h3
      have hAl : ((L.take k).map (fun l => dA Nf (aT l))).length = k := by rw [List.length_map, List.length_take]; omega
      have hk0 : nmA (aTs (L.take k)) = nmA (aTs (L.take k) ++ aT (L[k].take 0)) := by
        rw [show aT (L[k].take 0) = [] from rfl, List.append_nil]
      rw [hk0] at hbk
      have cu' := (hb.cell (p := ⟨gb, go + k, none⟩) hgb).trans cu
      clear hcs hLk eX hl cu hk0 hC
      generalize L[k] = l at *
      generalize (L.take k).map (fun l => dA Nf (aT l)) = A at *
      generalize aTs (L.take k) = T at *
      subst e1
      obtain ⟨ao, cpl', rfl, hcl, hcr⟩ := hrn
      go_wp2_with fail
      generalize wr = wa at *
      go_loopw [29] (fun i wr => ∃ e : Nat, e ≤ l.length ∧ i = .int .i64 (e : Int) ∧ (∃ dv nv R, Bk wr w.heap.size (w.heap.size + 1) (w.heap.size + 1 + 1) (nmA (T ++ aT (l.take e))) dv nv R (A ++ dA Nf (aT (l.take e)) :: C)) ∧ Below w.heap.size w wr) (fun i _ => l.length - (Go.RowKit.intOf i).toNat)
      case atStart => exact ⟨0, by omega, rfl, ⟨_, _, _, hbk⟩, hb⟩
      case round =>
        obtain ⟨e, he, rfl, ⟨dv2, nv2, R2, hbk2⟩, hb2⟩ := hrel
        clear hbk cu' hb
        by_cases hle : e < l.length
        · have hle' : (e : Int) < (l.length : Int) := by omega
          have hre : l[e]? = some l[e] := by simp [hle]
          obtain ⟨g2, o2, e2, hg2, c0, c1, c2, c3⟩ := hcr e _ hre
          obtain ⟨hrs, hrc, hrq⟩ := hlk.2 l[e] (List.getElem_mem hle)
          have HC2 : Hid (∀ j z, (pq l[e])[j]? = some z → ∃ rest, aTs L = (T ++ (aT (l.take e) ++ atG l[e].c l[e].q l[e].f ((pq l[e]).take j))) ++ ⟨l[e].c, l[e].q, l[e].f + (j : Int), z⟩ :: rest) := fun j z h3 => HCUT.out e _ j z hre h3
          have HT2 : Hid (aT (l.take (e + 1)) = aT (l.take e) ++ atG l[e].c l[e].q l[e].f ((pq l[e]).take (pq l[e]).length)) := by
            show _ = _
            rw [aT_take hle, atR_pq, List.take_of_length_le (Nat.le_refl _)]
          have hqf : ∀ z, (pq l[e])[0]? = some z → 0 ≤ l[e].f ∧ l[e].f ≤ 1000000 := by
            intro z hz
            unfold pq at hz
            split at hz
            · rename_i hf
              simpa [fOk] using hf
            · simp at hz
          have cP := fun W => pointsOf_any l[e] W hrs
          have hpl := pq_len l[e]
          have q := fun o => hb2.cell (p := ⟨g2, o, none⟩) hg2
          rw [← q] at c0 c1 c2 c3
          clear q hre hcr HCUT
          generalize l[e] = r at *
          subst e2
          generalize aT (l.take e) = P at *
          go_wp2_with fail
          refine (cP _).mono ?_
          rintro x w5 ⟨v5, rfl, ho5, hb5⟩
          have hal := alloc_b wr (.cells #[.int .i64 r.c, .int .i64 r.q, .int .i64 r.f, .string r.t] 44)
          have hbx : (wr.alloc (.cells #[.int .i64 r.c, .int .i64 r.q, .int .i64 r.f, .string r.t] 44)).heap[wr.heap.size]? = some (.cells #[.int .i64 r.c, .int .i64 r.q, .int .i64 r.f, .string r.t] 44) := heap_alloc_new _ _
          have hbk5 := (hbk2.below hal).below hb5
          have hbx5 := (hb5.block _ (lt_heap hbx)).trans hbx
          have hBB := chain (chain hb2 hal) hb5
          have hwr := hb2.size
          have ho5' := own_mono ho5 (show w.heap.size ≤ (wr.alloc (.cells #[.int .i64 r.c, .int .i64 r.q, .int .i64 r.f, .string r.t] 44)).heap.size by simp; omega)
          generalize hrb : wr.heap.size = rb at *
          clear hrb ho5 hb5 hal hbx hb2 hbk2 cP c0 c1 c2 c3
          obtain ⟨a5, k5, rfl⟩ := own_form ho5'
          generalize wr = wc at *
          go_wp2_with fail
          go_loopw [36] (fun i wr => ∃ j : Nat, j ≤ (pq r).length ∧ i = .int .i64 (j : Int) ∧ (∃ dv nv R, Bk wr w.heap.size (w.heap.size + 1) (w.heap.size + 1 + 1) (nmA (T ++ (P ++ atG r.c r.q r.f ((pq r).take j)))) dv nv R (A ++ dA Nf (P ++ atG r.c r.q r.f ((pq r).take j)) :: C)) ∧ wr.ownsRow w.heap.size 3 1 (.slice a5 (pq r).length k5) (pq r).length (iv (pq r)) ∧ wr.heap[rb]? = some (.cells #[.int .i64 r.c, .int .i64 r.q, .int .i64 r.f, .string r.t] 44) ∧ Below w.heap.size w wr) (fun i _ => (pq r).length - (Go.RowKit.intOf i).toNat)
          case atStart => exact ⟨0, by omega, rfl, ⟨_, _, _, by simpa [atG] using hbk5⟩, ho5', hbx5, hBB⟩
          case round =>
            obtain ⟨j, hj, rfl, ⟨dv6, nv6, R6, hbk6⟩, ho6, hbx6, hB6⟩ := hrel
            clear hbk5 ho5' hbx5 hBB
            by_cases hlj : j < (pq r).length
            · have hlj' : (j : Int) < ((pq r).length : Int) := by omega
              obtain ⟨z, hz⟩ : ∃ z, (pq r)[j]? = some z := ⟨(pq r)[j], by simp [hlj]⟩
              obtain ⟨z0, hz0⟩ : ∃ z, (pq r)[0]? = some z := ⟨(pq r)[0]'(by omega), by simp [show 0 < (pq r).length by omega]⟩
              obtain ⟨hf0, hf1⟩ := hqf z0 hz0
              obtain ⟨rest, hrest⟩ := HC2.out j z hz
              have hix := idx_f hrest
              rw [HNf.out] at hix
              have hlen : (T ++ (P ++ atG r.c r.q r.f ((pq r).take j))).length + 1 ≤ 1048576 := by
                have := congrArg List.length hrest
                rw [List.length_append, List.length_cons] at this
                omega
              have HA : Hid (P ++ atG r.c r.q r.f ((pq r).take (j + 1)) = (P ++ atG r.c r.q r.f ((pq r).take j)) ++ [⟨r.c, r.q, r.f + (j : Int), z⟩]) := by show _ = _; rw [atG_take1 _ _ _ _ _ _ hz, List.append_assoc]
              have hwk : Wf (r.c, r.q, r.f + (j : Int)) := wf_key hrc hrq (by omega)
              have hkey := kN_key hwk
              simp only at hkey
              have hnl := nmA_len (T ++ (P ++ atG r.c r.q r.f ((pq r).take j)))
              obtain ⟨g5, c5, e5, -, -⟩ := ho6.form (by omega)
              injection e5 with e51 _ e53
              subst e51
              subst e53
              have hzc := ho6.cells (g := g5) rfl j (.int .i64 z) (iv_get hz)
              rw [addr4, Nat.zero_add] at hzc
              have ho7 := ho6
              have x0 : wr.cell? ⟨rb, 0, none⟩ = some (.int .i64 r.c) := cell_of_row wr rb 0 _ _ (0, 0) hbx6
              have x1 : wr.cell? ⟨rb, 1, none⟩ = some (.int .i64 r.q) := cell_of_row wr rb 1 _ _ (0, 0) hbx6
              have x2 : wr.cell? ⟨rb, 2, none⟩ = some (.int .i64 r.f) := cell_of_row wr rb 2 _ _ (0, 0) hbx6
              have HNX : Hid (nmA (T ++ (P ++ atG r.c r.q r.f ((pq r).take (j + 1)))) = if (r.c, r.q, r.f + (j : Int)) ∈ nmA (T ++ (P ++ atG r.c r.q r.f ((pq r).take j))) then nmA (T ++ (P ++ atG r.c r.q r.f ((pq r).take j))) else nmA (T ++ (P ++ atG r.c r.q r.f ((pq r).take j))) ++ [(r.c, r.q, r.f + (j : Int))]) := by
                show _ = _
                rw [HA.out, ← List.append_assoc, nmA_one]
                rfl
              have HPX : Hid (dA Nf (P ++ atG r.c r.q r.f ((pq r).take (j + 1))) = dA Nf (P ++ atG r.c r.q r.f ((pq r).take j)) ++ [(Nf.idxOf (r.c, r.q, r.f + (j : Int)), z)]) := by
                show _ = _
                rw [HA.out, dA_app]
                rfl
              clear HA hrest HC2 hz hz0 ho6 hqf
              have hix2 : Hid (Nf.idxOf (r.c, r.q, r.f + (j : Int)) = if (r.c, r.q, r.f + (j : Int)) ∈ nmA (T ++ (P ++ atG r.c r.q r.f ((pq r).take j))) then (nmA (T ++ (P ++ atG r.c r.q r.f ((pq r).take j)))).idxOf (r.c, r.q, r.f + (j : Int)) else (nmA (T ++ (P ++ atG r.c r.q r.f ((pq r).take j)))).length) := hix
              clear hix
              have hN3 : (nmA (T ++ (P ++ atG r.c r.q r.f ((pq r).take j)))).length ≤ 1048575 := by omega
              clear hnl
              generalize nmA (T ++ (P ++ atG r.c r.q r.f ((pq r).take j))) = N at *
              have hd6 : (dA Nf (P ++ atG r.c r.q r.f ((pq r).take j))).length ≤ 1048575 := by
                rw [dA, List.length_map]
                rw [List.length_append] at hlen
                omega
              generalize dA Nf (P ++ atG r.c r.q r.f ((pq r).take j)) = X at *
              clear hlen
              have hwj : IntKind.i64.wrap (r.f + (j : Int)) = r.f + (j : Int) := by rw [IntKind.wrap_i64]; omega
              have hXk : (A ++ X :: C)[k]? = some X := by rw [List.getElem?_append_right (by omega), hAl, Nat.sub_self]; rfl
              have hXs : ∀ q, (A ++ X :: C).set k q = A ++ q :: C := fun q => by rw [List.set_append_right _ _ (by omega), hAl, Nat.sub_self]; rfl
              obtain ⟨p, cd, hdv, -, hpl6⟩ := hbk6.docs.top.form (by rw [List.length_append, List.length_cons]; omega)
              obtain ⟨nn, hnn⟩ : ∃ nn : Nat, (A ++ X :: C).length = nn := ⟨_, rfl⟩
              have hklt : (k : Int) < (nn : Int) := by rw [← hnn, List.length_append, List.length_cons]; omega
              rw [hnn] at hdv
              subst hdv
              obtain ⟨rr, hrr⟩ : ∃ rr, R6[k]? = some rr := ⟨_, List.getElem?_eq_getElem (by rw [hbk6.docs.len, List.length_append, List.length_cons]; omega)⟩
              have hal := alloc_b wr (.cells #[.int .i64 r.c, .int .i64 r.q, .int .i64 (r.f + (j : Int))] 111)
              have hnb : (wr.alloc (.cells #[.int .i64 r.c, .int .i64 r.q, .int .i64 (r.f + (j : Int))] 111)).heap[wr.heap.size]? = some (.cells #[.int .i64 r.c, .int .i64 r.q, .int .i64 (r.f + (j : Int))] 111) := heap_alloc_new _ _
              have hbk7 := hbk6.below hal
              have ho7' := own_below ho7 hal
              have hbx7 := (hal.block _ (lt_heap hbx6)).trans hbx6
              have hB7 := chain hB6 hal
              obtain ⟨hN1, D, ho, hhD⟩ := id hbk7.kn
              obtain ⟨hh1, hh2⟩ := hhD _ hwk
              obtain ⟨ar, kr, er⟩ := own_form (hbk7.docs.row k rr X hrr hXk)
              have hrow := hbk7.docs.row k rr X hrr hXk
              subst er
              clear hnn
              obtain ⟨y0, -, -, -⟩ := hbk7.box.cells
              have y1 := hbk7.docs.top.cells (g := p) rfl k _ hrr
              rw [addr4, Nat.zero_add] at y1
              obtain ⟨cu7, hcu7⟩ := own_kind hbk7.docs.top (g := p) rfl
              have y2 := frz hcu7 k
              clear hcu7
              have y3 := fun o => (cell_al y0 o).2
              have y4 := fun o => (cell_al y1 o).2
              by_cases hin : (r.c, r.q, r.f + (j : Int)) ∈ N
              · have HIX : Hid (Nf.idxOf (r.c, r.q, r.f + (j : Int)) = N.idxOf (r.c, r.q, r.f + (j : Int))) := by show _ = _; rw [hix2.out, if_pos hin]
                have HN4 : Hid (nmA (T ++ (P ++ atG r.c r.q r.f ((pq r).take (j + 1)))) = N) := by show _ = _; rw [HNX.out, if_pos hin]
                have hat0 := hh2 hin
                rw [decide_eq_true hin] at hh1
                clear hix2 HNX hh2 hin hhD
                go_wp2_with (at_lookup; refine wpList_lookup_own_ok_int _ rfl _ _ 108 rfl 111 3 .i64 nmKeyed Tryd.underlying108 Tryd.underlying3 (zeroIT _) _ N.length D rfl ho _ _ rfl hkey ?_; intro cc hat hwc; rw [hh1])
                rw [hat0] at hat
                simp only [DataW.lit.injEq, Lit.int.injEq, true_and] at hat
                subst hat
                clear hat0 hwc hh1 hkey hwk hN1 ho
                generalize N.idxOf (r.c, r.q, r.f + (j : Int)) = ix at *
                generalize wr.alloc _ = w7 at *
                go_region_law (refine step_append_lies _ (by rfl) (.tmp 85) (.tmp 89) 112 (by rfl) w.heap.size 114 i1 (.agg #[.int .i64 0, .int .i64 0]) 2 16 Tryd.underlying112 hi1 hy0 hy1 hy2 rfl (by decide) (.slice ar X.length kr) X.length (X.map cA).flatten (by simp [Act.eval]) (World.ownsRow.alloc (w := w7.drew) hrow _) ⟨w7.heap.size, 0, none⟩ 1 1 [.int .i64 (ix : Int), .int .i64 z] (by simp [Act.eval]) rfl (World.news_of_block (heap_alloc_new w7.drew _)) (by simp [Value.oneCell']) (by decide) (by unfold maxLen; omega) (by omega) (by have := hB7.size; simp; omega) (w7.heap.size + 1) (by simp) ?_; intro g9 cap9 w9 hown hgr hgl hlt9; obtain ⟨k0, k1, k2⟩ := atom_facts hbk7 hrr hXk _ hgr)
                all_goals (obtain ⟨E1, E2, E3⟩ := atom_end (a := (ix, z)) hbk7 hrr hXk hown hgr hgl)
                all_goals (rw [hXs] at E1)
                all_goals (have F2 := own_sm ho7' (E2 _ (by decide) (by decide)))
                all_goals (have F3 := E2 _ (by decide) (by decide) _ _ hbx7)
                all_goals (have F4 := E3 _ hB7.size hB7)
                all_goals (go_wp2_with fail)
                all_goals exact ⟨⟨j + 1, by omega, by go_num, ⟨_, _, _, by rw [HN4.out, HPX.out, HIX.out]; exact E1⟩, F2, F3, F4⟩, by simp [Go.RowKit.intOf]; omega⟩
              · have HIX : Hid (Nf.idxOf (r.c, r.q, r.f + (j : Int)) = N.length) := by show _ = _; rw [hix2.out, if_neg hin]
                have HN4 : Hid (nmA (T ++ (P ++ atG r.c r.q r.f ((pq r).take (j + 1)))) = N ++ [(r.c, r.q, r.f + (j : Int))]) := by show _ = _; rw [HNX.out, if_neg hin]
                have HPUT : Hid (∀ W, W.ownsMap Tryd.prog 111 (plainElem (H := Unit) Tryd.prog 3) (w.heap.size + 1 + 1) (N.length + 1) (D.put (kN (r.c, r.q, r.f + (j : Int))) (.lit (.int .i64 (N.length : Int)))) → Kn W (w.heap.size + 1 + 1) (N ++ [(r.c, r.q, r.f + (j : Int))])) := fun W hW => Kn.put hN1 hwk hin ho hhD hW
                rw [decide_eq_false hin] at hh1
                have hwl : (Lit.int .i64 (N.length : Int)).wf = true := by
                  have e0 : IntKind.i64.min = -9223372036854775808 := by decide
                  have e1 : IntKind.i64.max = 9223372036854775807 := by decide
                  simp only [Lit.wf, e0, e1, Bool.and_eq_true, decide_eq_true_eq]
                  omega
                obtain ⟨an, kn, er⟩ := own_form hbk7.names
                subst er
                obtain ⟨-, y5, -, -⟩ := hbk7.box.cells
                clear hix2 HNX hh2 hin hhD
                go_wp2_with (first
                  | (at_lookup; refine wpList_lookup_own_ok_int _ rfl _ _ 108 rfl 111 3 .i64 nmKeyed Tryd.underlying108 Tryd.underlying3 (zeroIT _) _ N.length D rfl ho _ _ rfl hkey ?_; intro cc hat hwc; rw [hh1])
                  | (at_mapUpdate; refine wpList_mapUpdate_own _ rfl _ _ _ 108 rfl 111 3 nmKeyed Tryd.underlying108 (plainElem (H := Unit) Tryd.prog 3) _ N.length D rfl ho (by unfold maxLen; omega) _ (.int .i64 (N.length : Int)) _ rfl rfl hkey (.lit (.int .i64 (N.length : Int))) [] (plainElem_int Tryd.underlying3 hwl) ?_; intro w8 ho8 hg8))
                have hKn8 := HPUT.out w8 ho8
                obtain ⟨s8, x8, t8, n8⟩ := hbk7.map hg8
                have hB8 := hB7.grown hg8 hB7.size (fun k hk => by injection hk with hk; omega)
                have ho8' := own_sm ho7' (s8 _)
                have hbx8 := s8 _ _ _ hbx7
                have hnb8 := s8 _ _ _ hnb
                have z0 : w8.cell? ⟨wr.heap.size, 0, none⟩ = some (.int .i64 r.c) := cell_of_row w8 _ 0 _ _ (0, 0) hnb8
                have z1 : w8.cell? ⟨wr.heap.size, 1, none⟩ = some (.int .i64 r.q) := cell_of_row w8 _ 1 _ _ (0, 0) hnb8
                have z2 : w8.cell? ⟨wr.heap.size, 2, none⟩ = some (.int .i64 (r.f + (j : Int))) := cell_of_row w8 _ 2 _ _ (0, 0) hnb8
                obtain ⟨y0, y5, y6, y7⟩ := x8.cells
                have y8 := fun o => (cell_al y5 o).2
                have hb7 := hbk7.hb
                have hm7 := hbk7.hm
                clear HPUT hwl ho8 hg8 hkey hwk hN1 ho hh1 hnb8 s8 hat hwc hB7 ho7' hbx7 hal hnb hbk7 hbk6 hbx6 ho7 hB6 y1 y2 y3 y4 x0 x1 x2 hzc
                go_region_law (refine step_append_lies _ (by rfl) (.tmp 68) (.tmp 70) 63 (by rfl) w.heap.size 111 i2 (.agg #[.int .i64 0, .int .i64 0, .int .i64 0]) 3 24 Tryd.underlying63 hi2 hx0 hx1 hx2 rfl (by decide) (.slice an N.length kn) N.length (N.map cN).flatten (by simp [Act.eval]) (World.ownsRow.alloc (w := w8.drew) n8 _) ⟨w8.heap.size, 0, none⟩ 1 1 [.int .i64 r.c, .int .i64 r.q, .int .i64 (r.f + (j : Int))] (by simp [Act.eval]) rfl (World.news_of_block (heap_alloc_new w8.drew _)) (by simp [Value.oneCell']) (by decide) (by unfold maxLen; omega) (by omega) (by have := hB8.size; simp; omega) (w8.heap.size + 1) (by simp) ?_; intro g8 cap8 w9 hown hgr hgl hlt9; obtain ⟨k0, k1⟩ := name_facts x8 n8 _ hgr)
                all_goals
                  obtain ⟨G1, G2, G3⟩ := name_end (k := (r.c, r.q, r.f + (j : Int))) x8 t8 n8 hKn8 hb7 hm7 hown hgr
                  have ho9 := own_sm ho8' (G2 _ (by decide) (by decide))
                  have hbx9 := G2 _ (by decide) (by decide) _ _ hbx8
                  have hB9 := G3 _ hB8.size hB8
                  have hrow9 := G1.docs.row k _ X hrr hXk
                  obtain ⟨y0', -, -, -⟩ := G1.box.cells
                  have y1' := G1.docs.top.cells (g := p) rfl k _ hrr
                  rw [addr4, Nat.zero_add] at y1'
                  obtain ⟨cu9, hcu9⟩ := own_kind G1.docs.top (g := p) rfl
                  have y2' := frz hcu9 k
                  have y3' := fun o => (cell_al y0' o).2
                  have y4' := fun o => (cell_al y1' o).2
                  clear hcu9 x8 t8 n8 hKn8 hown hgr hgl G2 G3 hB8 ho8' hbx8 z0 z1 z2 y0 y5 y6 y7 y8 k0 k1 hrow
                  go_wp2_with fail
                  generalize w9.setCell _ _ = w10 at *
                  generalize N.length = ix at *
                  go_region_law (refine step_append_lies _ (by rfl) (.tmp 85) (.tmp 89) 112 (by rfl) w.heap.size 114 i1 (.agg #[.int .i64 0, .int .i64 0]) 2 16 Tryd.underlying112 hi1 hy0 hy1 hy2 rfl (by decide) (.slice ar X.length kr) X.length (X.map cA).flatten (by simp [Act.eval]) (World.ownsRow.alloc (w := w10.drew) hrow9 _) ⟨w10.heap.size, 0, none⟩ 1 1 [.int .i64 (ix : Int), .int .i64 z] (by simp [Act.eval]) rfl (World.news_of_block (heap_alloc_new w10.drew _)) (by simp [Value.oneCell']) (by decide) (by unfold maxLen; omega) (by omega) (by have := hB9.size; simp; omega) (w10.heap.size + 1) (by simp) ?_; intro g9 cap9 w11 hown hgr hgl hlt9; obtain ⟨k0, k1, k2⟩ := atom_facts G1 hrr hXk _ hgr)
                  all_goals
                    obtain ⟨E1, E2, E3⟩ := atom_end (a := (ix, z)) G1 hrr hXk hown hgr hgl
                    rw [hXs] at E1
                    have F2 := own_sm ho9 (E2 _ (by decide) (by decide))
                    have F3 := E2 _ (by decide) (by decide) _ _ hbx9
                    have F4 := E3 _ hB9.size hB9
                    go_wp2_with fail
                    exact ⟨⟨j + 1, by omega, by go_num, ⟨_, _, _, by rw [HN4.out, HPX.out, HIX.out]; exact E1⟩, F2, F3, F4⟩, by simp [Go.RowKit.intOf]; omega⟩
            · obtain rfl : j = (pq r).length := by omega
              go_wp2_with fail
              exact ⟨⟨e + 1, by omega, by go_num, ⟨_, _, _, by rw [HT2.out]; exact hbk6⟩, hB6⟩, by simp [Go.RowKit.intOf]; omega⟩
        · obtain rfl : e = l.length := by omega
          clear hcr
          go_wp2_with fail
          exact ⟨⟨k + 1, by omega, by go_num, ⟨_, _, _, by rw [HEN2.out, ← HEND.out]; exact hbk2⟩, hb2⟩, by simp [Go.RowKit.intOf]; omega⟩
    · obtain rfl : k = L.length := by omega
      rw [List.take_length, Nat.sub_self, List.replicate_zero, List.append_nil, HNf.out] at hbk
      clear hcs
      go_wp2_with fail
      go_ret
      exact ⟨_, dv, nv, rfl, hb, by omega, hbk.box, hbk.docs.rd, Ln.own hbk.names⟩
end Go.Proofs.YtjimolafoihnpaaDoor.tc
