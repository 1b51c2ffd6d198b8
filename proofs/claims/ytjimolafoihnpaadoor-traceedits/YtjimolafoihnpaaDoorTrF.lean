/-
  The program's sound: whether no name stands twice in a document.
-/
import Derived.Test.YtjimolafoihnpaaDoorTrC
import Derived.Outline
import Derived.Deep.DeepCutAuto
import Derived.Deep.CutBlock
import Derived.Deep.QuietTactic
import Derived.BigQuiet
namespace Go.Proofs.YtjimolafoihnpaaDoor.tc
open Go.Maps Go.ChangeShapes Go.WideShapes Go.ChangeAt Go.RowKit Go.PlainAid

/-- A book that is read. -/
def BkR (W : World) (b : Nat) (D : List (List (Nat × Int))) (N : List AtK) : Prop :=
  ∃ dv nv, BB W b dv nv ∧ Tb W 114 cA 112 dv D ∧ Ln W 111 nv N.length (N.map cN).flatten
theorem BkR.sm {W W' : World} {b : Nat} {D : List (List (Nat × Int))} {N : List AtK} (h : BkR W b D N) (hs : ∀ t, t = 65 ∨ t = 114 ∨ t = 112 ∨ t = 111 → Sm t W W') : BkR W' b D N := by
  obtain ⟨dv, nv, h1, h2, h3⟩ := h
  exact ⟨dv, nv, hs _ (.inl rfl) b _ h1, h2.sm (hs _ (.inr (.inr (.inl rfl)))) (hs _ (.inr (.inl rfl))), h3.sm (hs _ (.inr (.inr (.inr rfl))))⟩
theorem BkR.below {W W' : World} {b : Nat} {D : List (List (Nat × Int))} {N : List AtK} (h : BkR W b D N) (hb : Below W.heap.size W W') : BkR W' b D N := h.sm (fun _ _ => Sm.below hb)
/-- Flags as cells. -/
def bvT (l : List Bool) : List Value := l.map Value.bool
/-- Does no name stand twice? -/
def sndD (row : List (Nat × Int)) : Bool := decide ((row.map Prod.fst).Nodup)
theorem sndD_nil : sndD [] = true := by simp [sndD]
theorem sndD_one (row : List (Nat × Int)) (x : Nat × Int) : sndD (row ++ [x]) = (sndD row && decide (x.1 ∉ row.map Prod.fst)) := by
  unfold sndD
  rw [List.map_append, List.map_cons, List.map_nil]
  by_cases h1 : (row.map Prod.fst).Nodup
  · by_cases h2 : x.1 ∈ row.map Prod.fst
    · have h3 : ¬ (row.map Prod.fst ++ [x.1]).Nodup := by
        rw [List.nodup_append]
        rintro ⟨-, -, h⟩
        exact h _ h2 _ (by simp) rfl
      rw [decide_eq_false h3, decide_eq_true h1, decide_eq_false (fun h => h h2)]
      rfl
    · have h3 : (row.map Prod.fst ++ [x.1]).Nodup := by
        rw [List.nodup_append]
        exact ⟨h1, by simp, fun a ha b hb => by simp at hb; subst hb; intro e; exact h2 (e ▸ ha)⟩
      rw [decide_eq_true h3, decide_eq_true h1, decide_eq_true h2]
      rfl
  · have h3 : ¬ (row.map Prod.fst ++ [x.1]).Nodup := by
      rw [List.nodup_append]
      rintro ⟨h, -⟩
      exact h1 h
    rw [decide_eq_false h3, decide_eq_false h1]
    rfl
/-- What was met last, name by name: La at the place of a document whose names so far are X. -/
def LastOk (La : List Int) (k : Nat) (X : List Nat) : Prop := ∀ m v, La[m]? = some v → v ≤ (k : Int) + 1 ∧ (v = (k : Int) + 1 ↔ m ∈ X)
theorem LastOk.put {La : List Int} {k m : Nat} {X : List Nat} (h : LastOk La k X) : LastOk (La.set m ((k : Int) + 1)) k (X ++ [m]) := by
  intro i v hi
  by_cases he : i = m
  · subst he
    have hl : i < La.length := by
      have := (List.getElem?_eq_some_iff.1 hi).1
      simpa using this
    rw [List.getElem?_set_self hl] at hi
    cases hi
    exact ⟨by omega, by simp⟩
  · rw [List.getElem?_set_ne (fun q => he q.symm)] at hi
    obtain ⟨h1, h2⟩ := h i v hi
    refine ⟨h1, h2.trans ?_⟩
    simp [he]
theorem LastOk.next {La : List Int} {k : Nat} {X : List Nat} (h : LastOk La k X) : LastOk La (k + 1) [] := by
  intro i v hi
  obtain ⟨h1, -⟩ := h i v hi
  exact ⟨by omega, by simp; omega⟩
theorem infoBo : (Tryd.prog.info? 4).map (fun i => (i.zero, i.size, i.bytes)) = some (some (.bool false), 1, 1) := by kernel_rfl
theorem infoInt : (Tryd.prog.info? 3).map (fun i => (i.zero, i.size, i.bytes)) = some (some (.int .i64 0), 1, 8) := by kernel_rfl
theorem rep_one (z : Value) (n : Nat) (hz : z.cells = #[z]) : ((List.replicate n ()).map fun _ => z.cells.toList).flatten = List.replicate n z := by
  rw [hz]
  induction n with
  | zero => rfl
  | succ n ih => rw [List.replicate_succ, List.replicate_succ, List.map_cons, List.flatten_cons, ih]; rfl
theorem own_stored {W : World} {B e g n cap : Nat} {xs : List Value} (h : W.ownsRow B e 1 (.slice (some ⟨g, 0, none⟩) n cap) n xs) (j : Nat) (u : Value) : (W.setCell ⟨g, j, none⟩ u).ownsRow B e 1 (.slice (some ⟨g, 0, none⟩) n cap) n (xs.set j u) := (h.stored j u).1
theorem own_set_sm {W : World} {B e z g n cap t : Nat} {xs : List Value} (h : W.ownsRow B e z (.slice (some ⟨g, 0, none⟩) n cap) n xs) (hne : e ≠ t) (j : Nat) (u : Value) : Sm t W (W.setCell ⟨g, j, none⟩ u) := by
  obtain ⟨cu, hcu⟩ := own_kind h (g := g) rfl
  exact Sm.set hcu hne j u

set_option maxRecDepth 20000 in
set_option maxHeartbeats 2000000 in
theorem sound_any (b : Nat) (D : List (List (Nat × Int))) (N : List AtK) (w : World) (hr : BkR w b D N) (hD : D.length ≤ 1048576) (hN : N.length ≤ 1048576) (hrow : ∀ r ∈ D, r.length ≤ 1048576 ∧ ∀ x ∈ r, x.1 < N.length) :
    Calls Tryd.prog 25 #[.pointer (some ⟨b, 0, none⟩)] w fun e w' => ∃ v, e = .returned v ∧ w'.ownsRow w.heap.size 4 1 v D.length (bvT (D.map sndD)) ∧ Below w.heap.size w w' := by
  obtain ⟨Z, Z1, Z2, hmk⟩ := make_any (t := 58) Tryd.underlying58 infoBo rfl (by decide) (by decide) D.length (by omega)
  obtain ⟨Y, Y1, Y2, hmk2⟩ := make_any (t := 68) Tryd.underlying68 infoInt rfl (by decide) (by decide) N.length (by omega)
  rw [rep_one _ _ rfl] at Z1 Y1
  have o1 := own_made (e := 4) (W := w) (B := w.heap.size) Z1 Z2 (by omega) (Nat.le_refl _)
  have b1 := alloc_b w (.cells Z 4)
  have o2 := own_made (e := 3) (W := w.alloc (.cells Z 4)) (B := w.heap.size) Y1 Y2 (by omega) (by simp)
  have b2 := alloc_b (w.alloc (.cells Z 4)) (.cells Y 3)
  have o1' := own_below o1 b2
  have hB0 := chain b1 b2
  have hr0 := hr.below hB0
  have hr1 := hr.below b1
  obtain ⟨dv, nv, hbx, htb, hln⟩ := hr
  obtain ⟨ad, cd, rfl, hcd⟩ := htb.form
  obtain ⟨an, cn, rfl, hcn⟩ := hln.form
  obtain ⟨x0, x1, -, -⟩ := hbx.cells
  obtain ⟨x0', x1', -, -⟩ := (hbx.below b1).cells
  obtain ⟨x0'', x1'', -, -⟩ := (hbx.below hB0).cells
  have htb0 := htb.below hB0
  have e1 : (w.alloc (.cells Z 4)).heap.size = w.heap.size + 1 := by simp
  rw [e1] at o2
  clear b1 b2 o1 Z1 Z2 Y1 Y2 e1 hr1 hln hbx hr0
  go_enter Tryd.func25, Tryd.ntmps25
  go_wp2_with fail
  generalize (w.alloc (.cells Z 4)).alloc (.cells Y 3) = w0 at *
  clear hmk hmk2 x0 x1 x0' x1' x0'' x1'' htb
  go_loopw [26] (fun i wr => ∃ k : Nat, k ≤ D.length ∧ i = .int .i64 (k : Int) ∧ (∃ La : List Int, La.length = N.length ∧ LastOk La k [] ∧ wr.ownsRow w.heap.size 3 1 (.slice (some ⟨w.heap.size + 1, 0, none⟩) N.length N.length) N.length (iv La)) ∧ wr.ownsRow w.heap.size 4 1 (.slice (some ⟨w.heap.size, 0, none⟩) D.length D.length) D.length (bvT ((D.take k).map sndD ++ List.replicate (D.length - k) false)) ∧ Tb wr 114 cA 112 (.slice ad D.length cd) D ∧ Below w.heap.size w wr) (fun i _ => D.length - (Go.RowKit.intOf i).toNat)
  case atStart =>
    refine ⟨0, by omega, rfl, ⟨List.replicate N.length 0, by simp, fun m v hm => ?_, ?_⟩, ?_, htb0, hB0⟩
    · rw [List.getElem?_replicate] at hm
      split at hm
      · cases hm; exact ⟨by omega, by constructor <;> simp⟩
      · cases hm
    · simpa [iv] using o2
    · simpa [bvT] using o1'
  case round =>
    obtain ⟨k, hk, rfl, ⟨La, hLl, hLa, hol⟩, hos, htk, hb⟩ := hrel
    clear o1' o2 htb0 hB0
    by_cases hlt : k < D.length
    · have hlt' : (k : Int) < (D.length : Int) := by omega
      have hDk : D[k]? = some D[k] := by simp [hlt]
      obtain ⟨gd, od, rv, e1, hgd, c0, hlr⟩ := htk.at hDk
      obtain ⟨hrl, hrn⟩ := hrow D[k] (List.getElem_mem hlt)
      obtain ⟨ar, kr, rfl, hkr⟩ := hlr.form
      have HS : Hid (∀ T F : List Bool, T.length = k → bvT (T ++ true :: F) = (bvT (T ++ false :: F)).set k (.bool true)) := by
        intro T F hT
        subst hT
        simp [bvT]
      obtain ⟨T, hT⟩ : ∃ T, T = (D.take k).map sndD := ⟨_, rfl⟩
      obtain ⟨F, hF⟩ : ∃ F, F = List.replicate (D.length - k - 1) false := ⟨_, rfl⟩
      have hTl : T.length = k := by rw [hT, List.length_map, List.length_take]; omega
      have hFl : T.length + F.length + 1 = D.length := by rw [hTl, hF, List.length_replicate]; omega
      have hos2 : wr.ownsRow w.heap.size 4 1 (.slice (some ⟨w.heap.size, 0, none⟩) D.length D.length) D.length (bvT (T ++ false :: F)) := by
        rw [hT, hF]
        rw [show D.length - k = (D.length - k - 1) + 1 by omega, List.replicate_succ] at hos
        exact hos
      have HEND : Hid (T ++ sndD (D[k].take D[k].length) :: F = (D.take (k + 1)).map sndD ++ List.replicate (D.length - (k + 1)) false) := by
        show _ = _
        rw [hT, hF, List.take_of_length_le (Nat.le_refl _), List.take_succ_eq_append_getElem hlt, List.map_append, List.append_assoc, Nat.sub_sub]
        rfl
      clear hos hT hF hDk hrow
      generalize D[k] = row at *
      subst e1
      have y0 : wr.cell? ⟨w.heap.size, k, none⟩ = some (.bool false) := by
        have := hos2.cells (g := w.heap.size) rfl k (.bool false) (by subst hTl; simp [bvT])
        rw [addr4, Nat.zero_add] at this
        exact this
      obtain ⟨cu, hcu⟩ := own_kind hos2 (g := w.heap.size) rfl
      have y1 := frz hcu k
      have s0 := own_stored hos2 k (.bool true)
      rw [← HS.out T F hTl] at s0
      have s1 : ∀ t, 4 ≠ t → Sm t wr (wr.setCell ⟨w.heap.size, k, none⟩ (.bool true)) := fun t ht => own_set_sm hos2 ht k (.bool true)
      have s2 := own_sm hol (s1 _ (by decide))
      have s3 := htk.sm (s1 _ (by decide)) (s1 _ (by decide))
      have s4 := hlr.sm (s1 _ (by decide))
      have s5 := hb.setCell (p := ⟨w.heap.size, k, none⟩) (Nat.le_refl _) (.bool true)
      clear hcu s1
      go_upto_region 7 with fail
      generalize wr.setCell _ _ = w1 at *
      clear y0 y1 hos2 hol htk hlr hb HS c0
      generalize wr = wa at *
      go_wp2_with fail
      go_loopw [36] (fun i wr => ∃ e : Nat, e ≤ row.length ∧ i = .int .i64 (e : Int) ∧ (∃ La : List Int, La.length = N.length ∧ LastOk La k ((row.take e).map Prod.fst) ∧ wr.ownsRow w.heap.size 3 1 (.slice (some ⟨w.heap.size + 1, 0, none⟩) N.length N.length) N.length (iv La)) ∧ wr.ownsRow w.heap.size 4 1 (.slice (some ⟨w.heap.size, 0, none⟩) D.length D.length) D.length (bvT (T ++ sndD (row.take e) :: F)) ∧ Tb wr 114 cA 112 (.slice (some ⟨gd, od, none⟩) D.length cd) D ∧ Ln wr 114 (.slice ar row.length kr) row.length (row.map cA).flatten ∧ Below w.heap.size w wr) (fun i _ => row.length - (Go.RowKit.intOf i).toNat)
      case atStart => exact ⟨0, by omega, rfl, ⟨La, hLl, by simpa using hLa, s2⟩, by simpa [sndD_nil] using s0, s3, s4, s5⟩
      case round =>
        obtain ⟨e, he, rfl, ⟨Lb, hLl2, hLb, hol⟩, hos, htk, hlr, hb⟩ := hrel
        clear s0 s2 s3 s4 s5 hLl hLa
        by_cases hle : e < row.length
        · have hle' : (e : Int) < (row.length : Int) := by omega
          have hxe : row[e]? = some row[e] := by simp [hle]
          have hxn := hrn row[e] (List.getElem_mem hle)
          have f0 := flat_at cA 2 cA_len row e _ hxe 0 (by decide)
          have f1 := flat_at cA 2 cA_len row e _ hxe 1 (by decide)
          obtain ⟨ga, oa, cur, e1, hga, hcell⟩ := hlr.at (j := e * 2 + 0) (u := .int .i64 (row[e].1 : Int)) f0
          have c0 : wr.cell? ⟨ga, oa + e * 2, none⟩ = some (.int .i64 (row[e].1 : Int)) := hcell _ _ f0
          have c1 : wr.cell? ⟨ga, oa + e * 2 + 1, none⟩ = some (.int .i64 row[e].2) := hcell _ _ f1
          have HSN : Hid (sndD (row.take (e + 1)) = (sndD (row.take e) && decide (row[e].1 ∉ (row.take e).map Prod.fst))) := by
            show _ = _
            rw [List.take_succ_eq_append_getElem hle, sndD_one]
          have HLS : Hid ((row.take (e + 1)).map Prod.fst = (row.take e).map Prod.fst ++ [row[e].1]) := by
            show _ = _
            rw [List.take_succ_eq_append_getElem hle, List.map_append]
            rfl
          subst e1
          clear f0 f1 hcell hga hxe cur
          generalize row[e] = x at *
          obtain ⟨v, hv⟩ : ∃ v, Lb[x.1]? = some v := ⟨_, List.getElem?_eq_getElem (by omega)⟩
          obtain ⟨hv1, hv2⟩ := hLb _ _ hv
          have hal := alloc_b wr (.cells #[.int .i64 (x.1 : Int), .int .i64 x.2] 114)
          have g1 := own_below hol hal
          have g2 := own_below hos hal
          have g3 := htk.below hal
          have g4 := hlr.below hal
          have g5 := chain hb hal
          have y0 := g2.cells (g := w.heap.size) rfl k (.bool (sndD (row.take e))) (by subst hTl; simp [bvT])
          have y1 := g1.cells (g := w.heap.size + 1) rfl x.1 (.int .i64 v) (iv_get hv)
          rw [addr4, Nat.zero_add] at y0 y1
          obtain ⟨cu1, hcu1⟩ := own_kind g1 (g := w.heap.size + 1) rfl
          obtain ⟨cu2, hcu2⟩ := own_kind g2 (g := w.heap.size) rfl
          have z0 := frz hcu2 k
          have z1 := frz hcu1 x.1
          have hxn' : (x.1 : Int) < (N.length : Int) := by omega
          have HEE : Hid (∀ W bb, W = ((wr.alloc (.cells #[.int .i64 (x.1 : Int), .int .i64 x.2] 114)).setCell ⟨w.heap.size, k, none⟩ (.bool bb)).setCell ⟨w.heap.size + 1, x.1, none⟩ (.int .i64 ((k : Int) + 1)) → sndD (row.take (e + 1)) = bb →
              (∃ La : List Int, La.length = N.length ∧ LastOk La k ((row.take (e + 1)).map Prod.fst) ∧ W.ownsRow w.heap.size 3 1 (.slice (some ⟨w.heap.size + 1, 0, none⟩) N.length N.length) N.length (iv La)) ∧ W.ownsRow w.heap.size 4 1 (.slice (some ⟨w.heap.size, 0, none⟩) D.length D.length) D.length (bvT (T ++ sndD (row.take (e + 1)) :: F)) ∧ Tb W 114 cA 112 (.slice (some ⟨gd, od, none⟩) D.length cd) D ∧ Ln W 114 (.slice (some ⟨ga, oa, none⟩) row.length kr) row.length (row.map cA).flatten ∧ Below w.heap.size w W) := by
            rintro W bb rfl hbb
            have a1 := own_stored g2 k (.bool bb)
            have a2 : ∀ t, 4 ≠ t → Sm t _ _ := fun t ht => own_set_sm g2 ht k (.bool bb)
            have a3 := own_sm g1 (a2 _ (by decide))
            have a4 := own_stored a3 x.1 (.int .i64 ((k : Int) + 1))
            have a5 : ∀ t, 3 ≠ t → Sm t _ _ := fun t ht => own_set_sm a3 ht x.1 (.int .i64 ((k : Int) + 1))
            refine ⟨⟨Lb.set x.1 ((k : Int) + 1), by simpa using hLl2, by rw [HLS.out]; exact hLb.put, ?_⟩, ?_, (g3.sm (a2 _ (by decide)) (a2 _ (by decide))).sm (a5 _ (by decide)) (a5 _ (by decide)), (g4.sm (a2 _ (by decide))).sm (a5 _ (by decide)), (g5.setCell (p := ⟨w.heap.size, k, none⟩) (Nat.le_refl _) _).setCell (p := ⟨w.heap.size + 1, x.1, none⟩) (by simp) _⟩
            · have e3 : (iv Lb).set x.1 (.int .i64 ((k : Int) + 1)) = iv (Lb.set x.1 ((k : Int) + 1)) := by simp [iv, List.map_set]
              rw [e3] at a4
              exact a4
            · have e3 : (bvT (T ++ sndD (row.take e) :: F)).set k (.bool bb) = bvT (T ++ sndD (row.take (e + 1)) :: F) := by
                rw [hbb]
                subst hTl
                simp [bvT]
              rw [e3] at a1
              exact own_sm a1 (a5 _ (by decide))
          have hwk : IntKind.i64.wrap ((k : Int) + 1) = (k : Int) + 1 := by rw [IntKind.wrap_i64]; omega
          have hnb : (wr.alloc (.cells #[.int .i64 (x.1 : Int), .int .i64 x.2] 114)).heap[wr.heap.size]? = some (.cells #[.int .i64 (x.1 : Int), .int .i64 x.2] 114) := heap_alloc_new _ _
          have hne : wr.heap.size ≠ w.heap.size := by
            have := (hol.lt (w.heap.size + 1) rfl).2
            omega
          have y2 : ∀ bb, ((wr.alloc (.cells #[.int .i64 (x.1 : Int), .int .i64 x.2] 114)).setCell ⟨w.heap.size, k, none⟩ bb).cell? ⟨wr.heap.size, 0, none⟩ = some (.int .i64 (x.1 : Int)) := fun bb => cell_of_row _ _ 0 _ _ (0, 0) (hp_oth hnb hne k bb)
          clear hne hnb
          clear hcu1 hcu2 g1 g2 g3 g4 g5 hal hol hos htk hlr hb hv HLS hLb hLl2
          cases hS : sndD (row.take e) with
          | false =>
            rw [hS] at y0
            have HB : Hid (sndD (row.take (e + 1)) = false) := by show _ = _; rw [HSN.out, hS]; rfl
            clear hS HSN hv2
            go_wp2_with fail
            obtain ⟨E1, E2, E3, E4, E5⟩ := HEE.out _ false rfl HB.out
            exact ⟨⟨e + 1, by omega, by go_num, E1, E2, E3, E4, E5⟩, by simp [Go.RowKit.intOf]; omega⟩
          | true =>
            rw [hS] at y0
            by_cases hve : v = (k : Int) + 1
            · have HB : Hid (sndD (row.take (e + 1)) = false) := by show _ = _; rw [HSN.out, hS, decide_eq_false (show ¬ x.1 ∉ (row.take e).map Prod.fst from fun h => h (hv2.1 hve))]; rfl
              subst hve
              clear hS HSN hv2
              go_wp2_with fail
              obtain ⟨E1, E2, E3, E4, E5⟩ := HEE.out _ false rfl HB.out
              exact ⟨⟨e + 1, by omega, by go_num, E1, E2, E3, E4, E5⟩, by simp [Go.RowKit.intOf]; omega⟩
            · have HB : Hid (sndD (row.take (e + 1)) = true) := by show _ = _; rw [HSN.out, hS, decide_eq_true (show x.1 ∉ (row.take e).map Prod.fst from fun h => hve (hv2.2 h))]; rfl
              have hvb : (v == (k : Int) + 1) = false := beq_eq_false_iff_ne.2 hve
              clear hS HSN hv2
              go_wp2_with fail
              obtain ⟨E1, E2, E3, E4, E5⟩ := HEE.out _ (v != (k : Int) + 1) rfl (by rw [HB.out, bne, hvb]; rfl)
              exact ⟨⟨e + 1, by omega, by go_num, E1, E2, E3, E4, E5⟩, by simp [Go.RowKit.intOf]; omega⟩
        · obtain rfl : e = row.length := by omega
          rw [HEND.out] at hos
          go_wp2_with fail
          exact ⟨⟨k + 1, by omega, by go_num, ⟨Lb, hLl2, hLb.next, hol⟩, hos, htk, hb⟩, by simp [Go.RowKit.intOf]; omega⟩
    · obtain rfl : k = D.length := by omega
      rw [List.take_length, Nat.sub_self, List.replicate_zero, List.append_nil] at hos
      go_wp2_with fail
      go_ret
      exact ⟨_, rfl, hos, hb⟩
end Go.Proofs.YtjimolafoihnpaaDoor.tc
