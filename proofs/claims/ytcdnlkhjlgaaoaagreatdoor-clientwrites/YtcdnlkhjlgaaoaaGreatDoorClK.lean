/-
  led: a revision of somebody else's through all that is Pending.
-/
import Derived.Test.YtcdnlkhjlgaaoaaGreatDoorClH
import Derived.Test.YtcdnlkhjlgaaoaaGreatDoorOtY
import Derived.BigRegion
namespace Go.Proofs.YtcdnlkhjlgaaoaaGreatDoor
open Go.ChangeShapes Go.WideShapes Go.ChangeAt Go.RowKit Go.PlainAid

/-- A delta along the edits that wait: those behind it, and it behind them. -/
def ldG : List OpD → List EdW → Option (List EdW × List OpD)
  | d, [] => some ([], d)
  | d, e :: r => if (trR false e.d d).2 = 0 ∧ (trR true d e.d).2 = 0 then (ldG (trR true d e.d).1 r).map (fun x => (⟨e.q, (trR false e.d d).1⟩ :: x.1, x.2)) else none
/-- What led gives. -/
def ledE (E : EdD) (m : MsD) : EdD × Int := match ldG m.d E.p with
  | none => (zeroE, 91)
  | some x => if (apR E.t x.2).2 = 0 then (⟨E.c, E.b, m.r, (apR E.t x.2).1, E.s, x.1⟩, 0) else (zeroE, 91)
theorem ldG_step {d : List OpD} {l : List EdW} {k : Nat} (h : k < l.length) (h1 : (trR false l[k].d d).2 = 0) (h2 : (trR true d l[k].d).2 = 0) : ldG d (l.drop k) = (ldG (trR true d l[k].d).1 (l.drop (k + 1))).map (fun x => (⟨l[k].q, (trR false l[k].d d).1⟩ :: x.1, x.2)) := by
  rw [List.drop_eq_getElem_cons h, ldG, if_pos ⟨h1, h2⟩]
theorem ldG_bad {d : List OpD} {l : List EdW} {k : Nat} (h : k < l.length) (hn : ¬ ((trR false l[k].d d).2 = 0 ∧ (trR true d l[k].d).2 = 0)) : ldG d (l.drop k) = none := by
  rw [List.drop_eq_getElem_cons h, ldG, if_neg hn]
/-- All of led's three boxes. -/
structure L3 (W : World) (n : Nat) (E : EdD) (m : MsD) (v u : Value) : Prop where
  x : EB W n E v
  y : MB W (n + 1) m u
  z : EB W (n + 1 + 1) zeroE (.slice none 0 0)
theorem L3.below {W W' : World} {n : Nat} {E : EdD} {m : MsD} {v u : Value} (h : L3 W n E m v u) (hb : Below W.heap.size W W') : L3 W' n E m v u := ⟨h.x.below hb, h.y.below hb, h.z.below hb⟩
theorem bel3 (w : World) (a b c : Obj) : Below w.heap.size w (((w.alloc a).alloc b).alloc c) := chain (alloc_b w a) (chain (alloc_b _ b) (alloc_b _ c))
theorem l3_new (w : World) (E : EdD) (m : MsD) (v u : Value) : L3 (((w.alloc (.cells (E.fs v) 24)).alloc (.cells (m.fs u) 64)).alloc (.cells (zeroE.fs (.slice none 0 0)) 24)) w.heap.size E m v u := by
  have hx := ((eb_new w E v).below (alloc_b _ (.cells (m.fs u) 64))).below (alloc_b _ (.cells (zeroE.fs (.slice none 0 0)) 24))
  have hy := (mb_new (w.alloc (.cells (E.fs v) 24)) m u).below (alloc_b _ (.cells (zeroE.fs (.slice none 0 0)) 24))
  have hz := eb_new ((w.alloc (.cells (E.fs v) 24)).alloc (.cells (m.fs u) 64)) zeroE (.slice none 0 0)
  rw [World.size_alloc] at hy
  rw [World.size_alloc, World.size_alloc] at hz
  exact ⟨hx, hy, hz⟩
theorem cells2X {W : World} {g : Nat} {q : Int} {u : Value} (h : W.heap[g]? = some (.cells #[.int .i64 q, u] 41)) : W.cell? ⟨g, 0, none⟩ = some (.int .i64 q) ∧ W.cell? ⟨g, 1, none⟩ = some u := by
  have q := fun j => cell_of_row W g j _ _ (0, 0) h
  exact ⟨q 0, q 1⟩
theorem tr_len {f : Bool} {A B : List OpD} (iA : ∀ o ∈ A, o.In) (iB : ∀ o ∈ B, o.In) (h : (trR f A B).2 = 0) : (trR f A B).1.length ≤ maxLen ∧ ∀ o ∈ (trR f A B).1, o.In := by
  have g := tr_good iA iB h
  have := (kchk_any g.2.1).2
  exact ⟨by unfold maxLen; omega, g.1⟩

set_option maxRecDepth 20000 in
set_option maxHeartbeats 2000000 in
theorem led_any (E : EdD) (m : MsD) (v u : Value) (w : World) (hr : RdEd w v E.p) (hd : RdD w u m.d) (hF : E.Fit) (hp8 : E.p.length ≤ 8) (ht : E.t.size ≤ maxLen) (hdl : m.d.length ≤ maxLen) (hdi : ∀ o ∈ m.d, o.In) :
    Calls Tryz.prog 59 #[.agg (E.fs v), .agg (m.fs u)] w fun e w' => ∃ v' us, e = .returned (.tuple #[.agg ((ledE E m).1.fs v'), .int .i64 (ledE E m).2]) ∧ OwEd w' w.heap.size v' (ledE E m).1.p us ∧ Below w.heap.size w w' := by
  have h3 := l3_new w E m v u
  have hA := bel3 w (.cells (E.fs v) 24) (.cells (m.fs u) 64) (.cells (zeroE.fs (.slice none 0 0)) 24)
  have hsz : (((w.alloc (.cells (E.fs v) 24)).alloc (.cells (m.fs u) 64)).alloc (.cells (zeroE.fs (.slice none 0 0)) 24)).heap.size = w.heap.size + 3 := by simp
  have hr3 := hr.below hA
  have hd3 := hd.below hA
  obtain ⟨i0, hin, hz0, hz1, hz2⟩ := info_parts Tryz.infoEd
  obtain ⟨au, ku, rfl⟩ := rdd_len hd
  obtain ⟨ao, cp, rfl, -, hc⟩ := hr3
  have hpf := hF.pf
  clear hd hF hr
  obtain ⟨c, b, r, t, s, p⟩ := E
  obtain ⟨mk, mb, mc, ms, mr, my, md⟩ := m
  simp only [EdD.fs, MsD.fs] at *
  generalize hw3 : ((w.alloc (.cells #[.int .i64 c, .int .i64 b, .int .i64 r, .string t, .int .i64 s, .slice ao p.length cp] 24)).alloc (.cells #[.int .i64 mk, .int .i64 mb, .int .i64 mc, .int .i64 ms, .int .i64 mr, .int .i64 my, .slice au md.length ku] 64)).alloc (.cells #[.int .i64 zeroE.c, .int .i64 zeroE.b, .int .i64 zeroE.r, .string zeroE.t, .int .i64 zeroE.s, .slice none 0 0] 24) = w3 at *
  obtain ⟨x0, x1, x2, x3, x4, x5⟩ := cellsEB h3.x
  obtain ⟨z0, z1, z2, z3, z4, z5, z6⟩ := cellsMB h3.y
  rw [← hw3] at x0 x1 x2 x3 x4 x5 z0 z1 z2 z3 z4 z5 z6
  simp only [zeroE] at x0 x1 x2 x3 x4 x5 z0 z1 z2 z3 z4 z5 z6
  obtain ⟨R, HR⟩ : ∃ R, Hid (R = ledE ⟨c, b, r, t, s, p⟩ ⟨mk, mb, mc, ms, mr, my, md⟩) := ⟨_, rfl⟩
  rw [← HR.out]
  go_enter Tryz.func59, Tryz.ntmps59
  go_wp2_with fail
  clear x0 x1 x2 x3 x4 x5 z0 z1 z2 z3 z4 z5 z6
  simp only [zeroE] at hw3
  rw [hw3]
  clear hw3
  go_loopw [6, 7, 21] (fun a dv i wr => ∃ (k : Nat) (us : List Value) (L : List EdW) (d : List OpD), k ≤ p.length ∧ i = .int .i64 (k : Int) ∧ OwEd wr (w.heap.size + 3) a L us ∧ RdD wr dv d ∧ d.length ≤ maxLen ∧ (∀ o ∈ d, o.In) ∧ Hid (L.length = k) ∧ Hid (ldG md p = (ldG d (p.drop k)).map (fun x => (L ++ x.1, x.2))) ∧ Below w3.heap.size w3 wr) (fun _ _ i _ => p.length - (Go.RowKit.intOf i).toNat)
  case atStart => exact ⟨0, [], [], md, by omega, rfl, OwEd.nil _ _, hd3, hdl, hdi, rfl, (by show _ = _; simp), Below.refl _ _⟩
  case round =>
    obtain ⟨k, us, L, d, hk, rfl, ho, hrd, hl1, hl2, hLk, HL, hbl⟩ := hrel
    have hsb := hbl.size
    have hB := chain hA hbl
    obtain ⟨ad, kd, rfl⟩ := rdd_len hrd
    by_cases hlt : k < p.length
    · have hlt' : (k : Int) < (p.length : Int) := by omega
      obtain ⟨g, off, u1, rfl, hg, c0, c1, c2⟩ := hc k p[k] (by simp [hlt])
      have hxf := hpf p[k] (List.getElem_mem hlt)
      have hBg : ∀ o, wr.cell? ⟨g, o, none⟩ = w3.cell? ⟨g, o, none⟩ := fun o => hbl.cell (p := ⟨g, o, none⟩) hg
      rw [← hBg] at c0 c1
      obtain ⟨a1, k1, rfl⟩ := rdd_len c2
      have Hst := fun h1 h2 => ldG_step (d := d) hlt h1 h2
      have Hbd := fun h => ldG_bad (d := d) hlt h
      generalize p[k] = x at *
      have c2' := c2.below hbl
      have hAx := alloc_b wr (.cells #[.int .i64 x.q, .slice a1 x.d.length k1] 41)
      have hbx := eb_newX wr x.q (.slice a1 x.d.length k1)
      have cT := transform_any _ _ false x.d d _ (c2'.below hAx) (hrd.below hAx) hxf.dl hl1 hxf.di hl2
      have cU := fun W (h : Below wr.heap.size wr W) => transform_any _ _ true d x.d W (hrd.below h) (c2'.below h) hl1 hxf.dl hl2 hxf.di
      have hrow := ho.row
      obtain ⟨a0, k0, rfl⟩ := own_form hrow
      have T1 := fun h => tr_len (f := true) hl2 hxf.di h
      clear hc hBg c2 c2' hxf hrd hrow hpf
      go_wp2_with fail
      refine cT.mono ?_
      rintro e w4 ⟨u4, rfl, ho4, hb4⟩
      have hb4' := chain hAx hb4
      have hbx4 := (hb4.block _ (EB.lt' hbx)).trans hbx
      obtain ⟨y0, y1⟩ := cells2X hbx4
      have cU4 := cU _ hb4'
      have hs4 := hb4'.size
      clear cT cU c0 c1
      go_wp2_with fail
      refine cU4.mono ?_
      rintro e w5 ⟨u5, rfl, ho5, hb5⟩
      have hB5 := chain hb4' hb5
      have hbx5 := (hb5.block _ (EB.lt' hbx4)).trans hbx4
      have h35 := (h3.below hbl).below hB5
      have ho4' := own_lower (own_belowG ho4 hb5) (b' := w.heap.size + 3) (by simp; omega)
      have ho' := ho.below hB5
      have hW5 := chain hbl hB5
      have hsz5 := hW5.size
      have hsz45 := hB5.size
      clear y0 y1 cU4 ho4 ho hb4 hb5 hbx hbx4 hAx hb4'
      obtain ⟨y0, y1⟩ := cells2X hbx5
      obtain ⟨a4, k4, rfl⟩ := own_form ho4'
      obtain ⟨a5, k5, rfl⟩ := own_form ho5
      have hr5 := rdd_own ho5
      have hbT := chain hA hW5
      obtain ⟨e0, e1, e2, e3, e4, e5⟩ := cellsEB h35.z
      obtain ⟨f0, f1, f2, f3, f4, f5⟩ := EB.frz h35.z
      by_cases g1 : (trR false x.d d).2 = 0
      · by_cases g2 : (trR true d x.d).2 = 0
        · have HN : Hid (ldG md p = (ldG (trR true d x.d).1 (p.drop (k + 1))).map (fun y => ((L ++ [⟨x.q, (trR false x.d d).1⟩]) ++ y.1, y.2))) := by
            show _ = _
            rw [HL.out, Hst g1 g2, Option.map_map]
            congr 1
            funext y
            simp
          have T1' := T1 g2
          generalize hR1 : trR false x.d d = R1 at *
          generalize hR2 : trR true d x.d = R2 at *
          have n1 : (R1.2 != 0) = false := by rw [g1]; rfl
          have n2 : (R2.2 != 0) = false := by rw [g2]; rfl
          have hal := alloc_b w5 (.cells #[.int .i64 x.q, .slice a4 R1.1.length k4] 41)
          have hoE := ho'.below hal
          have hoD := own_belowG ho4' hal
          clear Hst Hbd HL T1 hR1 hR2 e0 e1 e2 e3 e4 e5 f0 f1 f2 f3 f4 f5
          go_wp2_with (at_builtin; refine wpList_append_own _ rfl (.tmp 46) (.tmp 51) 22 rfl (w.heap.size + 3) 41 i0 (.agg #[.int .i64 0, .slice none 0 0]) 2 32 Tryz.underlying22 hin hz0 hz1 hz2 rfl (by decide) _ L.length _ rfl hoE.row ⟨_, 0, none⟩ 1 1 [.int .i64 x.q, .slice a4 R1.1.length k4] rfl rfl (many_new _ _ _) (two_one _ _ _ _) (by have := hLk.out; unfold maxLen; omega) (by have := hLk.out; omega) (by simp; omega) ?_; intro v6 w6 ho6 hg6 _)
          have hnew := OwEd.app (e := ⟨x.q, R1.1⟩) hoE hoD ho6 hg6
          have hbl6 : Below w3.heap.size w3 w6 := (chain hW5 hal).grown hg6 (by simp; omega) (fun j hj => by have := (hoE.row.lt j hj).1; omega)
          have hr6 := rdd_own ((own_belowG (own_lower ho5 (b' := w.heap.size + 3) (by omega)) hal).kept hg6 (own_apart (own_belowG (own_lower ho5 (b' := w.heap.size + 3) (by omega)) hal) hoE.row (by decide)))
          exact ⟨⟨k + 1, _, _, _, by omega, by go_num, hnew, hr6, T1'.1, T1'.2, (by show _ = _; have := hLk.out; simp; omega), HN, hbl6⟩, by simp [Go.RowKit.intOf]; omega⟩
        · have e : R = (zeroE, 91) := by rw [HR.out, ledE]; simp only; rw [HL.out, Hbd (fun h => g2 h.2)]; rfl
          subst e
          have n1 : ((trR false x.d d).2 != 0) = false := by rw [g1]; rfl
          have n2 : ((trR true d x.d).2 != 0) = true := bne_iff_ne.2 g2
          generalize trR false x.d d = R1 at *
          generalize trR true d x.d = R2 at *
          clear Hst Hbd HL T1 HR
          go_wp2_with fail
          have hfin := h35.z.put zeroE (.slice none 0 0)
          refine bodyPost_ret (results_row_tmpC rfl _ _ (w.heap.size + 1 + 1) 24 _ (0, 0) _ rfl hfin Tryz.underlying24 rfl Tryz.sizeEr) rfl ?_
          exact ⟨_, rfl, ⟨_, OwEd.nil _ _⟩, below_putE hbT (by omega) zeroE (.slice none 0 0)⟩
      · have e : R = (zeroE, 91) := by rw [HR.out, ledE]; simp only; rw [HL.out, Hbd (fun h => g1 h.1)]; rfl
        subst e
        have n1 : ((trR false x.d d).2 != 0) = true := bne_iff_ne.2 g1
        generalize trR false x.d d = R1 at *
        generalize trR true d x.d = R2 at *
        clear Hst Hbd HL T1 HR
        go_wp2_with fail
        have hfin := h35.z.put zeroE (.slice none 0 0)
        refine bodyPost_ret (results_row_tmpC rfl _ _ (w.heap.size + 1 + 1) 24 _ (0, 0) _ rfl hfin Tryz.underlying24 rfl Tryz.sizeEr) rfl ?_
        exact ⟨_, rfl, ⟨_, OwEd.nil _ _⟩, below_putE hbT (by omega) zeroE (.slice none 0 0)⟩
    · have hlt' : ¬ (k : Int) < (p.length : Int) := by omega
      have hkl : k = p.length := by omega
      have HM : Hid (ldG md p = some (L, d)) := by show _ = _; rw [HL.out, hkl, List.drop_length, ldG]; simp
      have h3r := h3.below hbl
      obtain ⟨x0, x1, x2, x3, x4, x5⟩ := cellsEB h3r.x
      have cA := apply_any t _ d wr ht hrd hl1 hl2
      obtain ⟨a0, k0, rfl⟩ := own_form ho.row
      clear HL hc hpf hkl
      go_wp2_with fail
      refine cA.mono ?_
      rintro e w4 ⟨rfl, hb4⟩
      have hbT := chain hB hb4
      have h34 := h3r.below hb4
      have ho4 := ho.below hb4
      have hs4 := hb4.size
      clear x0 x1 x2 x3 x4 x5 cA h3r ho hb4 hbl hB h3
      obtain ⟨x0, x1, x2, x3, x4, x5⟩ := cellsEB h34.x
      obtain ⟨fx0, fx1, fx2, fx3, fx4, fx5⟩ := EB.frz h34.x
      obtain ⟨z0, z1, z2, z3, z4, z5, z6⟩ := cellsMB h34.y
      obtain ⟨e0, e1, e2, e3, e4, e5⟩ := cellsEB h34.z
      obtain ⟨f0, f1, f2, f3, f4, f5⟩ := EB.frz h34.z
      by_cases g1 : (apR t d).2 = 0
      · have e : R = (⟨c, b, mr, (apR t d).1, s, L⟩, 0) := by rw [HR.out, ledE]; simp only; rw [HM.out]; simp only; rw [if_pos g1]
        have n1 : ((apR t d).2 != 0) = false := by rw [g1]; rfl
        clear HR HM
        generalize apR t d = R1 at *
        subst e
        go_wp2_with fail
        go_region
        have hx5 : EB ((((w4.setCell ⟨w.heap.size, 3, none⟩ (.string R1.1)).setCell ⟨w.heap.size, 2, none⟩ (.int .i64 mr)).setCell ⟨w.heap.size, 5, none⟩ (.slice a0 L.length k0)).drew) w.heap.size ⟨c, b, mr, R1.1, s, L⟩ (.slice a0 L.length k0) := heap_setCell (heap_setCell (heap_setCell h34.x 3 (.string R1.1)) 2 (.int .i64 mr)) 5 (.slice a0 L.length k0)
        have hn := fun (i : Nat) (x : Value) (W : World) => Below.heap_setCell W ⟨w.heap.size, i, none⟩ x (w.heap.size + 1 + 1) (by simp only; omega)
        have hz5 : EB ((((w4.setCell ⟨w.heap.size, 3, none⟩ (.string R1.1)).setCell ⟨w.heap.size, 2, none⟩ (.int .i64 mr)).setCell ⟨w.heap.size, 5, none⟩ (.slice a0 L.length k0)).drew) (w.heap.size + 1 + 1) zeroE (.slice none 0 0) := (hn 5 _ _).trans ((hn 2 _ _).trans ((hn 3 _ _).trans h34.z))
        have hb5 : Below w.heap.size w ((((w4.setCell ⟨w.heap.size, 3, none⟩ (.string R1.1)).setCell ⟨w.heap.size, 2, none⟩ (.int .i64 mr)).setCell ⟨w.heap.size, 5, none⟩ (.slice a0 L.length k0)).drew) := (((hbT.setCell (Nat.le_refl _) _).setCell (Nat.le_refl _) _).setCell (Nat.le_refl _) _).drew
        have ho5 := (((ho4.set (a := ⟨w.heap.size, 3, none⟩) (by simp only; omega) (.string R1.1)).set (a := ⟨w.heap.size, 2, none⟩) (by simp only; omega) (.int .i64 mr)).set (a := ⟨w.heap.size, 5, none⟩) (by simp only; omega) (.slice a0 L.length k0)).below (Below.refl _ _).drew
        generalize ((((w4.setCell ⟨w.heap.size, 3, none⟩ (.string R1.1)).setCell ⟨w.heap.size, 2, none⟩ (.int .i64 mr)).setCell ⟨w.heap.size, 5, none⟩ (.slice a0 L.length k0)).drew) = w5 at *
        clear hn x0 x1 x2 x3 x4 x5 fx0 fx1 fx2 fx3 fx4 fx5 z0 z1 z2 z3 z4 z5 z6 e0 e1 e2 e3 e4 e5 f0 f1 f2 f3 f4 f5 h34 hbT ho4
        obtain ⟨x0, x1, x2, x3, x4, x5⟩ := cellsEB hx5
        obtain ⟨e0, e1, e2, e3, e4, e5⟩ := cellsEB hz5
        obtain ⟨f0, f1, f2, f3, f4, f5⟩ := EB.frz hz5
        go_wp2_with fail
        have hfin := hz5.put ⟨c, b, mr, R1.1, s, L⟩ (.slice a0 L.length k0)
        refine bodyPost_ret (results_row_tmpC rfl _ _ (w.heap.size + 1 + 1) 24 _ (0, 0) _ rfl hfin Tryz.underlying24 rfl Tryz.sizeEr) rfl ?_
        refine ⟨_, rfl, ⟨us, ?_⟩, below_putE hb5 (by omega) ⟨c, b, mr, R1.1, s, L⟩ _⟩
        refine OwEd.lower (B := w.heap.size + 3) ?_ (by omega)
        exact (((((ho5.set (a := ⟨w.heap.size + 1 + 1, 0, none⟩) (by simp only; omega) _).set (a := ⟨w.heap.size + 1 + 1, 1, none⟩) (by simp only; omega) _).set (a := ⟨w.heap.size + 1 + 1, 2, none⟩) (by simp only; omega) _).set (a := ⟨w.heap.size + 1 + 1, 3, none⟩) (by simp only; omega) _).set (a := ⟨w.heap.size + 1 + 1, 4, none⟩) (by simp only; omega) _).set (a := ⟨w.heap.size + 1 + 1, 5, none⟩) (by simp only; omega) _
      · have e : R = (zeroE, 91) := by rw [HR.out, ledE]; simp only; rw [HM.out]; simp only; rw [if_neg g1]
        subst e
        clear HR HM
        have n1 : ((apR t d).2 != 0) = true := bne_iff_ne.2 g1
        generalize apR t d = R1 at *
        go_wp2_with fail
        have hfin := h34.z.put zeroE (.slice none 0 0)
        refine bodyPost_ret (results_row_tmpC rfl _ _ (w.heap.size + 1 + 1) 24 _ (0, 0) _ rfl hfin Tryz.underlying24 rfl Tryz.sizeEr) rfl ?_
        exact ⟨_, rfl, ⟨_, OwEd.nil _ _⟩, below_putE hbT (by omega) zeroE (.slice none 0 0)⟩
end Go.Proofs.YtcdnlkhjlgaaoaaGreatDoor

/-
  Next, by what it meets.
-/
namespace Go.Proofs.YtcdnlkhjlgaaoaaGreatDoor
open Go.ChangeShapes Go.WideShapes Go.ChangeAt Go.RowKit Go.PlainAid

set_option maxRecDepth 20000 in
set_option maxHeartbeats 2000000 in
theorem next_form (E : EdD) (m : MsD) (v u : Value) (w : World) (hr : RdEd w v E.p) (hd : RdD w u m.d) (hV : VS w) (hF : E.Fit) (_hdl : m.d.length ≤ maxLen) (_hdi : ∀ o ∈ m.d, o.In) (hm : mayE E = false) :
    Calls Tryz.prog 30 #[.agg (E.fs v), .agg (m.fs u)] w fun e w' => e = .returned (.tuple #[.agg (zeroE.fs (.slice none 0 0)), .int .i64 (200)]) ∧ Below w.heap.size w w' := by
  have h3 := l3_new w E m v u
  have hA := bel3 w (.cells (E.fs v) 24) (.cells (m.fs u) 64) (.cells (zeroE.fs (.slice none 0 0)) 24)
  have hsz : (((w.alloc (.cells (E.fs v) 24)).alloc (.cells (m.fs u) 64)).alloc (.cells (zeroE.fs (.slice none 0 0)) 24)).heap.size = w.heap.size + 3 := by simp
  obtain ⟨au, ku, rfl⟩ := rdd_len hd
  obtain ⟨av, kv, rfl⟩ := rded_len hr
  have cM := fun W (h : Below w.heap.size w W) => mayBe_any E _ W (hr.below h) (hV.below h) hF
  rw [hm] at cM
  simp only [EdD.fs, MsD.fs] at *
  generalize hw3 : ((w.alloc (.cells #[.int .i64 E.c, .int .i64 E.b, .int .i64 E.r, .string E.t, .int .i64 E.s, .slice av E.p.length kv] 24)).alloc (.cells #[.int .i64 m.k, .int .i64 m.b, .int .i64 m.c, .int .i64 m.s, .int .i64 m.r, .int .i64 m.y, .slice au m.d.length ku] 64)).alloc (.cells #[.int .i64 zeroE.c, .int .i64 zeroE.b, .int .i64 zeroE.r, .string zeroE.t, .int .i64 zeroE.s, .slice none 0 0] 24) = w3 at *
  obtain ⟨x0, x1, x2, x3, x4, x5⟩ := cellsEB h3.x
  rw [← hw3] at x0 x1 x2 x3 x4 x5
  simp only [zeroE] at x0 x1 x2 x3 x4 x5
  go_enter Tryz.func30, Tryz.ntmps30
  go_wp2_with fail
  clear x0 x1 x2 x3 x4 x5
  simp only [zeroE] at hw3
  rw [hw3]
  clear hw3
  refine (cM _ hA).mono ?_
  rintro e w4 ⟨rfl, hb4⟩
  have h34 := h3.below hb4
  have hB4 := chain hA hb4
  have hs4 := hb4.size
  clear cM h3 hb4
  obtain ⟨e0, e1, e2, e3, e4, e5⟩ := cellsEB h34.z
  obtain ⟨f0, f1, f2, f3, f4, f5⟩ := EB.frz h34.z
  go_wp2_with fail
  have hfin := h34.z.put zeroE (.slice none 0 0)
  refine bodyPost_ret (results_row_tmpC rfl _ _ (w.heap.size + 1 + 1) 24 _ (0, 0) _ rfl hfin Tryz.underlying24 rfl Tryz.sizeEr) rfl ?_
  exact ⟨rfl, below_putE hB4 (by omega) zeroE (.slice none 0 0)⟩
set_option maxRecDepth 20000 in
set_option maxHeartbeats 2000000 in
theorem next_fits (E : EdD) (m : MsD) (v u : Value) (w : World) (hr : RdEd w v E.p) (hd : RdD w u m.d) (hV : VS w) (hF : E.Fit) (hdl : m.d.length ≤ maxLen) (hdi : ∀ o ∈ m.d, o.In) (hm : mayE E = true) (hc : fitC E m ≠ 0) :
    Calls Tryz.prog 30 #[.agg (E.fs v), .agg (m.fs u)] w fun e w' => e = .returned (.tuple #[.agg (zeroE.fs (.slice none 0 0)), .int .i64 (fitC E m)]) ∧ Below w.heap.size w w' := by
  have h3 := l3_new w E m v u
  have hA := bel3 w (.cells (E.fs v) 24) (.cells (m.fs u) 64) (.cells (zeroE.fs (.slice none 0 0)) 24)
  have hsz : (((w.alloc (.cells (E.fs v) 24)).alloc (.cells (m.fs u) 64)).alloc (.cells (zeroE.fs (.slice none 0 0)) 24)).heap.size = w.heap.size + 3 := by simp
  obtain ⟨au, ku, rfl⟩ := rdd_len hd
  obtain ⟨av, kv, rfl⟩ := rded_len hr
  have cM := fun W (h : Below w.heap.size w W) => mayBe_any E _ W (hr.below h) (hV.below h) hF
  have cF := fun W (h : Below w.heap.size w W) => fits_any E m _ _ W (hr.below h) (hd.below h) (hV.below h) hF hdl hdi ((may_iff E).1 hm).r0 ((may_iff E).1 hm).r1
  rw [hm] at cM
  have n1 : (fitC E m != 0) = true := bne_iff_ne.2 hc
  have n2 : (fitC E m == 0) = false := beq_eq_false_iff_ne.2 hc
  simp only [EdD.fs, MsD.fs] at *
  generalize hw3 : ((w.alloc (.cells #[.int .i64 E.c, .int .i64 E.b, .int .i64 E.r, .string E.t, .int .i64 E.s, .slice av E.p.length kv] 24)).alloc (.cells #[.int .i64 m.k, .int .i64 m.b, .int .i64 m.c, .int .i64 m.s, .int .i64 m.r, .int .i64 m.y, .slice au m.d.length ku] 64)).alloc (.cells #[.int .i64 zeroE.c, .int .i64 zeroE.b, .int .i64 zeroE.r, .string zeroE.t, .int .i64 zeroE.s, .slice none 0 0] 24) = w3 at *
  obtain ⟨x0, x1, x2, x3, x4, x5⟩ := cellsEB h3.x
  rw [← hw3] at x0 x1 x2 x3 x4 x5
  simp only [zeroE] at x0 x1 x2 x3 x4 x5
  go_enter Tryz.func30, Tryz.ntmps30
  go_wp2_with fail
  clear x0 x1 x2 x3 x4 x5
  simp only [zeroE] at hw3
  rw [hw3]
  clear hw3
  refine (cM _ hA).mono ?_
  rintro e w4 ⟨rfl, hb4⟩
  have h34 := h3.below hb4
  have hB4 := chain hA hb4
  have hs4 := hb4.size
  clear cM h3 hb4
  obtain ⟨x0, x1, x2, x3, x4, x5⟩ := cellsEB h34.x
  obtain ⟨z0, z1, z2, z3, z4, z5, z6⟩ := cellsMB h34.y
  go_wp2_with fail
  refine (cF _ hB4).mono ?_
  rintro e w5 ⟨rfl, hb5⟩
  have h35 := h34.below hb5
  have hB5 := chain hB4 hb5
  have hs5 := hb5.size
  clear x0 x1 x2 x3 x4 x5 z0 z1 z2 z3 z4 z5 z6 cF h34 hB4 hb5
  obtain ⟨e0, e1, e2, e3, e4, e5⟩ := cellsEB h35.z
  obtain ⟨f0, f1, f2, f3, f4, f5⟩ := EB.frz h35.z
  go_wp2_with fail
  have hfin := h35.z.put zeroE (.slice none 0 0)
  refine bodyPost_ret (results_row_tmpC rfl _ _ (w.heap.size + 1 + 1) 24 _ (0, 0) _ rfl hfin Tryz.underlying24 rfl Tryz.sizeEr) rfl ?_
  exact ⟨rfl, below_putE hB5 (by omega) zeroE (.slice none 0 0)⟩
set_option maxRecDepth 20000 in
set_option maxHeartbeats 2000000 in
theorem next_led (E : EdD) (m : MsD) (v u : Value) (w : World) (hr : RdEd w v E.p) (hd : RdD w u m.d) (hV : VS w) (hF : E.Fit) (hdl : m.d.length ≤ maxLen) (hdi : ∀ o ∈ m.d, o.In) (hm : mayE E = true) (hc : fitC E m = 0) (ho : ownC E m = false) (R : EdD × Int) (hR : ledE E m = R) :
    Calls Tryz.prog 30 #[.agg (E.fs v), .agg (m.fs u)] w fun e w' => ∃ v' us, e = .returned (.tuple #[.agg (R.1.fs v'), .int .i64 R.2]) ∧ OwEd w' w.heap.size v' R.1.p us ∧ Below w.heap.size w w' := by
  have h3 := l3_new w E m v u
  have hA := bel3 w (.cells (E.fs v) 24) (.cells (m.fs u) 64) (.cells (zeroE.fs (.slice none 0 0)) 24)
  have hsz : (((w.alloc (.cells (E.fs v) 24)).alloc (.cells (m.fs u) 64)).alloc (.cells (zeroE.fs (.slice none 0 0)) 24)).heap.size = w.heap.size + 3 := by simp
  obtain ⟨au, ku, rfl⟩ := rdd_len hd
  obtain ⟨av, kv, rfl⟩ := rded_len hr
  have cM := fun W (h : Below w.heap.size w W) => mayBe_any E _ W (hr.below h) (hV.below h) hF
  have cF := fun W (h : Below w.heap.size w W) => fits_any E m _ _ W (hr.below h) (hd.below h) (hV.below h) hF hdl hdi ((may_iff E).1 hm).r0 ((may_iff E).1 hm).r1
  rw [hm] at cM
  have cO := fun W (h : Below w.heap.size w W) => isOwn_any E m _ _ W (hr.below h) (hd.below h) hF.pl
  have cX := fun W (h : Below w.heap.size w W) => led_any E m _ _ W (hr.below h) (hd.below h) hF ((may_iff E).1 hm).p8 (by have := size_smallL ((may_iff E).1 hm).t0 ((may_iff E).1 hm).t1; unfold maxLen; omega) hdl hdi
  rw [hc] at cF
  rw [ho] at cO
  rw [hR] at cX
  clear hR
  simp only [EdD.fs, MsD.fs] at *
  generalize hw3 : ((w.alloc (.cells #[.int .i64 E.c, .int .i64 E.b, .int .i64 E.r, .string E.t, .int .i64 E.s, .slice av E.p.length kv] 24)).alloc (.cells #[.int .i64 m.k, .int .i64 m.b, .int .i64 m.c, .int .i64 m.s, .int .i64 m.r, .int .i64 m.y, .slice au m.d.length ku] 64)).alloc (.cells #[.int .i64 zeroE.c, .int .i64 zeroE.b, .int .i64 zeroE.r, .string zeroE.t, .int .i64 zeroE.s, .slice none 0 0] 24) = w3 at *
  obtain ⟨x0, x1, x2, x3, x4, x5⟩ := cellsEB h3.x
  rw [← hw3] at x0 x1 x2 x3 x4 x5
  simp only [zeroE] at x0 x1 x2 x3 x4 x5
  go_enter Tryz.func30, Tryz.ntmps30
  go_wp2_with fail
  clear x0 x1 x2 x3 x4 x5
  simp only [zeroE] at hw3
  rw [hw3]
  clear hw3
  refine (cM _ hA).mono ?_
  rintro e w4 ⟨rfl, hb4⟩
  have h34 := h3.below hb4
  have hB4 := chain hA hb4
  have hs4 := hb4.size
  clear cM h3 hb4
  obtain ⟨x0, x1, x2, x3, x4, x5⟩ := cellsEB h34.x
  obtain ⟨z0, z1, z2, z3, z4, z5, z6⟩ := cellsMB h34.y
  go_wp2_with fail
  refine (cF _ hB4).mono ?_
  rintro e w5 ⟨rfl, hb5⟩
  have h35 := h34.below hb5
  have hB5 := chain hB4 hb5
  have hs5 := hb5.size
  clear x0 x1 x2 x3 x4 x5 z0 z1 z2 z3 z4 z5 z6 cF h34 hB4 hb5
  obtain ⟨x0, x1, x2, x3, x4, x5⟩ := cellsEB h35.x
  obtain ⟨z0, z1, z2, z3, z4, z5, z6⟩ := cellsMB h35.y
  go_wp2_with fail
  refine (cO _ hB5).mono ?_
  rintro e w6 ⟨rfl, hb6⟩
  have h36 := h35.below hb6
  have hB6 := chain hB5 hb6
  have hs6 := hb6.size
  clear x0 x1 x2 x3 x4 x5 z0 z1 z2 z3 z4 z5 z6 cO h35 hB5 hb6
  obtain ⟨x0, x1, x2, x3, x4, x5⟩ := cellsEB h36.x
  obtain ⟨z0, z1, z2, z3, z4, z5, z6⟩ := cellsMB h36.y
  go_wp2_with fail
  refine (cX _ hB6).mono ?_
  rintro e w7 ⟨v7, us, rfl, ho7, hb7⟩
  have h37 := h36.below hb7
  have hB7 := chain hB6 hb7
  have hs7 := hb7.size
  obtain ⟨a7, k7, rfl⟩ := own_form ho7.row
  clear x0 x1 x2 x3 x4 x5 z0 z1 z2 z3 z4 z5 z6 cX h36 hB6 hb7
  obtain ⟨e0, e1, e2, e3, e4, e5⟩ := cellsEB h37.z
  obtain ⟨f0, f1, f2, f3, f4, f5⟩ := EB.frz h37.z
  go_wp2_with fail
  have hfin := h37.z.put R.1 (.slice a7 R.1.p.length k7)
  refine bodyPost_ret (results_row_tmpC rfl _ _ (w.heap.size + 1 + 1) 24 _ (0, 0) _ rfl hfin Tryz.underlying24 rfl Tryz.sizeEr) rfl ?_
  refine ⟨_, us, rfl, ?_, below_putE hB7 (by omega) R.1 _⟩
  refine OwEd.lower (B := w6.heap.size) ?_ (by omega)
  exact (((((ho7.set (a := ⟨w.heap.size + 1 + 1, 0, none⟩) (by simp only; omega) _).set (a := ⟨w.heap.size + 1 + 1, 1, none⟩) (by simp only; omega) _).set (a := ⟨w.heap.size + 1 + 1, 2, none⟩) (by simp only; omega) _).set (a := ⟨w.heap.size + 1 + 1, 3, none⟩) (by simp only; omega) _).set (a := ⟨w.heap.size + 1 + 1, 4, none⟩) (by simp only; omega) _).set (a := ⟨w.heap.size + 1 + 1, 5, none⟩) (by simp only; omega) _
end Go.Proofs.YtcdnlkhjlgaaoaaGreatDoor

/-
  Messages in memory of their own; from.
-/
namespace Go.Proofs.YtcdnlkhjlgaaoaaGreatDoor
open Go.ChangeShapes Go.WideShapes Go.ChangeAt Go.RowKit Go.PlainAid

/-- The cells of messages, with where their deltas lie. -/
def mcs7 : List MsD → List Value → List Value
  | m :: l, u :: us => .int .i64 m.k :: .int .i64 m.b :: .int .i64 m.c :: .int .i64 m.s :: .int .i64 m.r :: .int .i64 m.y :: u :: mcs7 l us
  | _, _ => []
theorem mcs7_len : ∀ (l : List MsD) (us : List Value), us.length = l.length → (mcs7 l us).length = l.length * 7
  | [], [], _ => rfl
  | e :: l, u :: us, h => by simp [mcs7, mcs7_len l us (by simpa using h)]; omega
  | [], _ :: _, h => by simp at h
  | _ :: _, [], h => by simp at h
theorem mcs7_app : ∀ (l : List MsD) (us : List Value) (m : MsD) (u : Value), us.length = l.length → mcs7 (l ++ [m]) (us ++ [u]) = mcs7 l us ++ [.int .i64 m.k, .int .i64 m.b, .int .i64 m.c, .int .i64 m.s, .int .i64 m.r, .int .i64 m.y, u]
  | [], [], _, _, _ => rfl
  | x :: l, y :: us, e, u, h => by simp [mcs7, mcs7_app l us e u (by simpa using h)]
  | [], _ :: _, _, _, h => by simp at h
  | _ :: _, [], _, _, h => by simp at h
theorem Tryz.infoMs : (Tryz.prog.info? 64).map (fun i => (i.zero, i.size, i.bytes)) = some (some (.agg #[.int .i64 0, .int .i64 0, .int .i64 0, .int .i64 0, .int .i64 0, .int .i64 0, .slice none 0 0]), 7, 72) := by kernel_rfl
/-- A message from an editor. -/
def MsD.sg (E : EdD) (m : MsD) : MsD := ⟨m.k, E.b, E.c, m.s, E.r, m.y, m.d⟩
theorem seven_one (k b c s r y : Int) (ao : Option Addr) (n cp : Nat) : ∀ u ∈ [Value.int .i64 k, .int .i64 b, .int .i64 c, .int .i64 s, .int .i64 r, .int .i64 y, .slice ao n cp], u.oneCell' = true := by
  intro u hu
  simp at hu
  rcases hu with rfl | rfl | rfl | rfl | rfl | rfl | rfl <;> rfl
/-- At b, from off on, lies a message. -/
structure At7 (w : World) (b off : Nat) (m : MsD) (u : Value) : Prop where
  lt : b < w.heap.size
  c0 : w.cell? ⟨b, off, none⟩ = some (.int .i64 m.k)
  c1 : w.cell? ⟨b, off + 1, none⟩ = some (.int .i64 m.b)
  c2 : w.cell? ⟨b, off + 2, none⟩ = some (.int .i64 m.c)
  c3 : w.cell? ⟨b, off + 3, none⟩ = some (.int .i64 m.s)
  c4 : w.cell? ⟨b, off + 4, none⟩ = some (.int .i64 m.r)
  c5 : w.cell? ⟨b, off + 5, none⟩ = some (.int .i64 m.y)
  c6 : w.cell? ⟨b, off + 6, none⟩ = some u
theorem At7.below {w w' : World} {b off : Nat} {m : MsD} {u : Value} (h : At7 w b off m u) (hb : Below w.heap.size w w') : At7 w' b off m u :=
  ⟨Nat.lt_of_lt_of_le h.lt hb.size, (hb.cell (p := ⟨b, off, none⟩) h.lt).trans h.c0, (hb.cell (p := ⟨b, off + 1, none⟩) h.lt).trans h.c1, (hb.cell (p := ⟨b, off + 2, none⟩) h.lt).trans h.c2, (hb.cell (p := ⟨b, off + 3, none⟩) h.lt).trans h.c3, (hb.cell (p := ⟨b, off + 4, none⟩) h.lt).trans h.c4, (hb.cell (p := ⟨b, off + 5, none⟩) h.lt).trans h.c5, (hb.cell (p := ⟨b, off + 6, none⟩) h.lt).trans h.c6⟩

set_option maxRecDepth 20000 in
set_option maxHeartbeats 1500000 in
theorem from_any (E : EdD) (av : Option Addr) (nv kv : Nat) (l : List MsD) (us : List Value) (b off cp : Nat) (w : World) (hul : us.length = l.length) (hl : l.length ≤ 1000) (hu : ∀ u ∈ us, ∃ a n c, u = .slice a n c)
    (hc : ∀ (i : Nat) (m : MsD) (u : Value), l[i]? = some m → us[i]? = some u → At7 w b (off + i * 7) m u) :
    Calls Tryz.prog 60 #[.agg (E.fs (.slice av nv kv)), .slice (some ⟨b, off, none⟩) l.length cp] w fun e w' => ∃ v', e = .returned v' ∧ w'.ownsRow w.heap.size 64 7 v' l.length (mcs7 (l.map (MsD.sg E)) us) ∧ Below w.heap.size w w' := by
  obtain ⟨i0, hin, hz0, hz1, hz2⟩ := info_parts Tryz.infoMs
  have hx := eb_new w E (.slice av nv kv)
  have hA := alloc_b w (.cells (E.fs (.slice av nv kv)) 24)
  unfold EdD.fs at hA ⊢
  go_enter Tryz.func60, Tryz.ntmps60
  go_wp2_with fail
  generalize hw1 : w.alloc (.cells #[.int .i64 E.c, .int .i64 E.b, .int .i64 E.r, .string E.t, .int .i64 E.s, .slice av nv kv] 24) = w1 at *
  have hs1 : w1.heap.size = w.heap.size + 1 := by rw [← hw1]; simp
  clear hw1
  go_loopw [5, 10] (fun a i wr => ∃ (k : Nat), k ≤ l.length ∧ i = .int .i64 (k : Int) ∧ wr.ownsRow (w.heap.size + 1) 64 7 a k (mcs7 ((l.take k).map (MsD.sg E)) (us.take k)) ∧ Below w1.heap.size w1 wr) (fun _ i _ => l.length - (Go.RowKit.intOf i).toNat)
  case atStart => exact ⟨0, by omega, rfl, by simpa [mcs7] using World.ownsRow_nil _ _ _ _, Below.refl _ _⟩
  case round =>
    obtain ⟨k, hk, rfl, ho, hbl⟩ := hrel
    have hB := chain hA hbl
    have hsb := hbl.size
    obtain ⟨a0, k0, rfl⟩ := own_form ho
    by_cases hlt : k < l.length
    · have hlt' : (k : Int) < (l.length : Int) := by omega
      have hltu : k < us.length := by omega
      obtain ⟨au, nu, ku, eu⟩ := hu us[k] (List.getElem_mem hltu)
      have h7 := (hc k l[k] us[k] (by simp [hlt]) (by simp [hltu])).below hB
      have HX : Hid (mcs7 ((l.take (k + 1)).map (MsD.sg E)) (us.take (k + 1)) = mcs7 ((l.take k).map (MsD.sg E)) (us.take k) ++ [.int .i64 l[k].k, .int .i64 E.b, .int .i64 E.c, .int .i64 l[k].s, .int .i64 E.r, .int .i64 l[k].y, us[k]]) := by
        show _ = _
        rw [List.take_succ_eq_append_getElem hlt, List.take_succ_eq_append_getElem hltu, List.map_append]
        exact mcs7_app _ _ (l[k].sg E) us[k] (by simp; omega)
      rw [eu] at h7 HX
      generalize mcs7 ((l.take k).map (MsD.sg E)) (us.take k) = L0 at *
      generalize l[k] = m at *
      obtain ⟨-, c0, c1, c2, c3, c4, c5, c6⟩ := h7
      have hx' := hx.below hbl
      obtain ⟨x0, x1, x2, x3, x4, x5⟩ := cellsEB (hx'.below (alloc_b wr (.cells #[.int .i64 m.k, .int .i64 m.b, .int .i64 m.c, .int .i64 m.s, .int .i64 m.r, .int .i64 m.y, .slice au nu ku] 64)))
      have hm7 := mb_new wr m (.slice au nu ku)
      obtain ⟨y0, y1, y2, y3, y4, y5, y6⟩ := cellsMB hm7
      have fy := fun j => frz hm7 j
      have fy1 := fy 1
      have fy2 := fy 2
      have fy4 := fy 4
      have hBa := alloc_b wr (.cells #[.int .i64 m.k, .int .i64 m.b, .int .i64 m.c, .int .i64 m.s, .int .i64 m.r, .int .i64 m.y, .slice au nu ku] 64)
      clear hu hc eu fy
      go_wp2_with fail
      generalize hw2 : wr.alloc (.cells #[.int .i64 m.k, .int .i64 m.b, .int .i64 m.c, .int .i64 m.s, .int .i64 m.r, .int .i64 m.y, .slice au nu ku] 64) = w2 at *
      clear hw2 c0 c1 c2 c3 c4 c5 c6
      go_region
      have hm8 : MB (((w2.setCell ⟨wr.heap.size, 1, none⟩ (.int .i64 E.b)).setCell ⟨wr.heap.size, 2, none⟩ (.int .i64 E.c)).setCell ⟨wr.heap.size, 4, none⟩ (.int .i64 E.r)).drew wr.heap.size (m.sg E) (.slice au nu ku) := heap_setCell (heap_setCell (heap_setCell hm7 1 (.int .i64 E.b)) 2 (.int .i64 E.c)) 4 (.int .i64 E.r)
      have hb8 : Below wr.heap.size wr (((w2.setCell ⟨wr.heap.size, 1, none⟩ (.int .i64 E.b)).setCell ⟨wr.heap.size, 2, none⟩ (.int .i64 E.c)).setCell ⟨wr.heap.size, 4, none⟩ (.int .i64 E.r)).drew := (((hBa.setCell (Nat.le_refl _) _).setCell (Nat.le_refl _) _).setCell (Nat.le_refl _) _).drew
      generalize (((w2.setCell ⟨wr.heap.size, 1, none⟩ (.int .i64 E.b)).setCell ⟨wr.heap.size, 2, none⟩ (.int .i64 E.c)).setCell ⟨wr.heap.size, 4, none⟩ (.int .i64 E.r)).drew = w3 at *
      clear x0 x1 x2 x3 x4 x5 y0 y1 y2 y3 y4 y5 y6 fy1 fy2 fy4 hm7 hBa hx'
      obtain ⟨y0, y1, y2, y3, y4, y5, y6⟩ := cellsMB hm8
      simp only [MsD.sg] at y0 y1 y2 y3 y4 y5 y6
      have hsz8 := hb8.size
      have hal := alloc_b w3 (.cells #[.int .i64 m.k, .int .i64 E.b, .int .i64 E.c, .int .i64 m.s, .int .i64 E.r, .int .i64 m.y, .slice au nu ku] 64)
      have hoE := own_belowG (own_belowG ho hb8) hal
      go_wp2_with (at_builtin; refine wpList_append_own _ rfl (.tmp 23) (.tmp 25) 65 rfl (w.heap.size + 1) 64 i0 (.agg #[.int .i64 0, .int .i64 0, .int .i64 0, .int .i64 0, .int .i64 0, .int .i64 0, .slice none 0 0]) 7 72 Tryz.underlying65 hin hz0 hz1 hz2 rfl (by decide) _ k _ rfl hoE ⟨_, 0, none⟩ 1 1 [.int .i64 m.k, .int .i64 E.b, .int .i64 E.c, .int .i64 m.s, .int .i64 E.r, .int .i64 m.y, .slice au nu ku] rfl rfl (many_new _ _ _) (seven_one _ _ _ _ _ _ _ _ _) (by unfold maxLen; omega) (by omega) (by simp; omega) ?_; intro v4 w4 ho4 hg4 _)
      rw [← HX.out] at ho4
      have hbl4 : Below w1.heap.size w1 w4 := (chain hbl (chain hb8 hal)).grown hg4 (by simp; omega) (fun j hj => by have := (hoE.lt j hj).1; omega)
      exact ⟨⟨k + 1, by omega, by go_num, ho4, hbl4⟩, by simp [Go.RowKit.intOf]; omega⟩
    · have hlt' : ¬ (k : Int) < (l.length : Int) := by omega
      have hkl : k = l.length := by omega
      subst hkl
      rw [List.take_length, List.take_of_length_le (by omega)] at ho
      go_wp2_with fail
      go_ret
      exact ⟨_, rfl, own_lower ho (by omega), hB⟩
end Go.Proofs.YtcdnlkhjlgaaoaaGreatDoor

/-
  Says.
-/
namespace Go.Proofs.YtcdnlkhjlgaaoaaGreatDoor
open Go.ChangeShapes Go.WideShapes Go.ChangeAt Go.RowKit Go.PlainAid

/-- At v lie messages, in memory from B on. -/
structure OwMs (W : World) (B : Nat) (v : Value) (l : List MsD) (us : List Value) : Prop where
  ul : us.length = l.length
  row : W.ownsRow B 64 7 v l.length (mcs7 l us)
  dl : ∀ (i : Nat) (m : MsD) (u : Value), l[i]? = some m → us[i]? = some u → W.ownsRow B 59 3 u m.d.length (ocs m.d)
/-- What an editor says. -/
def pullE (E : EdD) : MsD := ⟨2, E.b, E.c, 0, E.r, 0, []⟩
def editE (E : EdD) (x : EdW) : MsD := ⟨1, E.b, E.c, x.q, E.r, 0, jn (stR x.d)⟩
def sayE (E : EdD) : List MsD := if mayE E = true then (match E.p with
  | [] => [pullE E]
  | x :: _ => [editE E x, pullE E]) else []
theorem at7_new {W : World} {g off : Nat} {cs : Array Value} (h : W.heap[g]? = some (.cells cs 64)) (m : MsD) (u : Value) (h0 : cs[off]? = some (.int .i64 m.k)) (h1 : cs[off + 1]? = some (.int .i64 m.b)) (h2 : cs[off + 2]? = some (.int .i64 m.c)) (h3 : cs[off + 3]? = some (.int .i64 m.s)) (h4 : cs[off + 4]? = some (.int .i64 m.r)) (h5 : cs[off + 5]? = some (.int .i64 m.y)) (h6 : cs[off + 6]? = some u) : At7 W g off m u := by
  have q := fun j => cell_of_row W g j _ _ (0, 0) h
  exact ⟨EB.lt' h, (q _).trans h0, (q _).trans h1, (q _).trans h2, (q _).trans h3, (q _).trans h4, (q _).trans h5, (q _).trans h6⟩

set_option maxRecDepth 20000 in
set_option maxHeartbeats 1500000 in
theorem says_no (E : EdD) (v : Value) (w : World) (hr : RdEd w v E.p) (hV : VS w) (hF : E.Fit) (hm : mayE E = false) :
    Calls Tryz.prog 31 #[.agg (E.fs v)] w fun e w' => e = .returned (.slice none 0 0) ∧ Below w.heap.size w w' := by
  have hx := eb_new w E v
  have hA := alloc_b w (.cells (E.fs v) 24)
  have cM := mayBe_any E v _ (hr.below hA) (hV.below hA) hF
  obtain ⟨av, kv, rfl⟩ := rded_len hr
  rw [hm] at cM
  unfold EdD.fs at hA cM ⊢
  go_enter Tryz.func31, Tryz.ntmps31
  go_wp2_with fail
  refine cM.mono ?_
  rintro e w1 ⟨rfl, hb1⟩
  go_wp2_with fail
  go_ret
  exact ⟨rfl, chain hA hb1⟩

set_option maxRecDepth 20000 in
set_option maxHeartbeats 1500000 in
theorem says_pull (c b r s : Int) (t : ByteArray) (v : Value) (w : World) (hr : RdEd w v []) (hV : VS w) (hF : EdD.Fit ⟨c, b, r, t, s, []⟩) (hm : mayE ⟨c, b, r, t, s, []⟩ = true) :
    Calls Tryz.prog 31 #[.agg (EdD.fs ⟨c, b, r, t, s, []⟩ v)] w fun e w' => ∃ v', e = .returned v' ∧ w'.ownsRow w.heap.size 64 7 v' 1 (mcs7 [pullE ⟨c, b, r, t, s, []⟩] [.slice none 0 0]) ∧ Below w.heap.size w w' := by
  have hx := eb_new w ⟨c, b, r, t, s, []⟩ v
  have hA := alloc_b w (.cells (EdD.fs ⟨c, b, r, t, s, []⟩ v) 24)
  have cM := mayBe_any ⟨c, b, r, t, s, []⟩ v _ (hr.below hA) (hV.below hA) hF
  obtain ⟨av, kv, rfl⟩ := rded_len hr
  rw [hm] at cM
  have cF := fun (W : World) (g : Nat) (h : W.heap[g]? = some (.cells #[.int .i64 2, .int .i64 0, .int .i64 0, .int .i64 0, .int .i64 0, .int .i64 0, .slice none 0 0] 64)) => from_any ⟨c, b, r, t, s, []⟩ av 0 kv [⟨2, 0, 0, 0, 0, 0, []⟩] [.slice none 0 0] g 0 1 W rfl (by simp) (by simp) (fun i m u h1 h2 => by
    rcases i with _ | i
    · simp only [List.getElem?_cons_zero, Option.some.injEq] at h1 h2
      subst h1
      subst h2
      exact at7_new h ⟨2, 0, 0, 0, 0, 0, []⟩ _ rfl rfl rfl rfl rfl rfl rfl
    · simp at h1)
  unfold EdD.fs at hA cM cF ⊢
  simp only [List.length_nil, List.length_cons, Nat.zero_add] at *
  go_enter Tryz.func31, Tryz.ntmps31
  go_wp2_with fail
  refine cM.mono ?_
  rintro e w1 ⟨rfl, hb1⟩
  have hB1 := chain hA hb1
  have hx1 := hx.below hb1
  have hB2 := alloc_b w1 (.cells #[.int .i64 2, .int .i64 0, .int .i64 0, .int .i64 0, .int .i64 0, .int .i64 0, .slice none 0 0] 64)
  have hB3 := chain hB2 (alloc_b _ (.cells #[.int .i64 2, .int .i64 0, .int .i64 0, .int .i64 0, .int .i64 0, .int .i64 0, .slice none 0 0] 64))
  obtain ⟨x0, x1, x2, x3, x4, x5⟩ := cellsEB (hx1.below hB2)
  have cF' := cF _ _ (heap_alloc_new (w1.alloc (.cells #[.int .i64 2, .int .i64 0, .int .i64 0, .int .i64 0, .int .i64 0, .int .i64 0, .slice none 0 0] 64)) (.cells #[.int .i64 2, .int .i64 0, .int .i64 0, .int .i64 0, .int .i64 0, .int .i64 0, .slice none 0 0] 64))
  rw [World.size_alloc] at cF'
  go_wp2_with fail
  refine cF'.mono ?_
  rintro e w2 ⟨v2, rfl, ho2, hb2⟩
  obtain ⟨a2, k2, rfl⟩ := own_form ho2
  go_wp2_with fail
  go_ret
  exact ⟨_, rfl, own_lower ho2 (by have := hB1.size; have := hB3.size; simp; omega), chain hB1 (chain hB3 hb2)⟩

set_option maxRecDepth 20000 in
set_option maxHeartbeats 1500000 in
theorem says_edit (c b r s : Int) (t : ByteArray) (x : EdW) (q : List EdW) (v : Value) (w : World) (hr : RdEd w v (x :: q)) (hV : VS w) (hF : EdD.Fit ⟨c, b, r, t, s, x :: q⟩) (hm : mayE ⟨c, b, r, t, s, x :: q⟩ = true) :
    Calls Tryz.prog 31 #[.agg (EdD.fs ⟨c, b, r, t, s, x :: q⟩ v)] w fun e w' => ∃ v' u, e = .returned v' ∧ w'.ownsRow w.heap.size 64 7 v' 2 (mcs7 [editE ⟨c, b, r, t, s, x :: q⟩ x, pullE ⟨c, b, r, t, s, x :: q⟩] [u, .slice none 0 0]) ∧ w'.ownsRow w.heap.size 59 3 u (jn (stR x.d)).length (ocs (jn (stR x.d))) ∧ Below w.heap.size w w' := by
  have hx := eb_new w ⟨c, b, r, t, s, x :: q⟩ v
  have hA := alloc_b w (.cells (EdD.fs ⟨c, b, r, t, s, x :: q⟩ v) 24)
  have cM := mayBe_any ⟨c, b, r, t, s, x :: q⟩ v _ (hr.below hA) (hV.below hA) hF
  have hxf : x.Fit := hF.pf x (by simp)
  have hql : q.length + 1 ≤ maxLen := hF.pl
  obtain ⟨ao, cp, rfl, ⟨hcp, -⟩, hc⟩ := id hr
  obtain ⟨g, off, u0, rfl, hg, c0, c1, c2⟩ := hc 0 x rfl
  simp only [Nat.zero_mul, Nat.add_zero] at c0 c1
  rw [hm] at cM
  have cC := fun W (h : Below w.heap.size w W) => copiedE_any x u0 W (c2.below h) hxf
  obtain ⟨a0, k0, rfl⟩ := rdd_len c2
  have cF := fun (W : World) (g' : Nat) (a3 : Option Addr) (n3 k3 : Nat) (h : W.heap[g']? = some (.cells #[.int .i64 1, .int .i64 0, .int .i64 0, .int .i64 x.q, .int .i64 0, .int .i64 0, .slice a3 n3 k3, .int .i64 2, .int .i64 0, .int .i64 0, .int .i64 0, .int .i64 0, .int .i64 0, .slice none 0 0] 64)) => from_any ⟨c, b, r, t, s, x :: q⟩ (some ⟨g, off, none⟩) (q.length + 1) cp [⟨1, 0, 0, x.q, 0, 0, jn (stR x.d)⟩, ⟨2, 0, 0, 0, 0, 0, []⟩] [.slice a3 n3 k3, .slice none 0 0] g' 0 2 W rfl (by simp) (by simp) (fun i m u h1 h2 => by
    rcases i with _ | i
    · simp only [List.getElem?_cons_zero, Option.some.injEq] at h1 h2
      subst h1
      subst h2
      exact at7_new h ⟨1, 0, 0, x.q, 0, 0, jn (stR x.d)⟩ _ rfl rfl rfl rfl rfl rfl rfl
    · rcases i with _ | i
      · simp only [List.getElem?_cons_succ, List.getElem?_cons_zero, Option.some.injEq] at h1 h2
        subst h1
        subst h2
        exact at7_new (off := 0 + 1 * 7) h ⟨2, 0, 0, 0, 0, 0, []⟩ _ rfl rfl rfl rfl rfl rfl rfl
      · simp at h1)
  unfold EdD.fs at hA cM cF ⊢
  simp only [List.length_nil, List.length_cons, Nat.zero_add] at *
  generalize q.length = n at *
  unfold maxLen at hql
  clear hc hr c2 hxf
  go_enter Tryz.func31, Tryz.ntmps31
  go_wp2_with fail
  refine cM.mono ?_
  rintro e w1 ⟨rfl, hb1⟩
  have hB1 := chain hA hb1
  have hx1 := hx.below hb1
  have hB2 := alloc_b w1 (.cells #[.int .i64 2, .int .i64 0, .int .i64 0, .int .i64 0, .int .i64 0, .int .i64 0, .slice none 0 0] 64)
  have hm2 := mb_new w1 ⟨2, 0, 0, 0, 0, 0, []⟩ (.slice none 0 0)
  have hB12 := chain hB1 hB2
  obtain ⟨x0, x1, x2, x3, x4, x5⟩ := cellsEB (hx1.below hB2)
  replace c0 := (hB12.cell (p := ⟨g, off, none⟩) hg).trans c0
  replace c1 := (hB12.cell (p := ⟨g, off + 1, none⟩) hg).trans c1
  have cC' := cC _ hB12
  have hne : (((n + 1 : Nat) : Int) == 0) = false := by simp; omega
  have hx2 := hx1.below hB2
  clear cC cM
  go_wp2_with fail
  clear x0 x1 x2 x3 x4 x5 c0 c1
  refine cC'.mono ?_
  rintro e w3 ⟨u3, rfl, ho3, hb3⟩
  obtain ⟨a3, k3, rfl⟩ := own_form ho3
  have hB4 := alloc_b w3 (.cells #[.int .i64 x.q, .slice a3 (jn (stR x.d)).length k3] 41)
  have hx4 := (hx2.below hb3).below hB4
  have hm4 := (hm2.below hb3).below hB4
  have he4 := eb_newX w3 x.q (.slice a3 (jn (stR x.d)).length k3)
  have ho4 := own_belowG ho3 hB4
  have hB14 := chain hB12 (chain hb3 hB4)
  have hs3 := hb3.size
  have hs1 := hB1.size
  simp only [World.size_alloc] at hs3
  obtain ⟨x0, x1, x2, x3, x4, x5⟩ := cellsEB hx4
  obtain ⟨z0, z1, z2, z3, z4, z5, z6⟩ := cellsMB hm4
  obtain ⟨y0, y1⟩ := cells2X he4
  have hn4 := heap_alloc_new (w3.alloc (.cells #[.int .i64 x.q, .slice a3 (jn (stR x.d)).length k3] 41)) (.cells #[.int .i64 1, .int .i64 0, .int .i64 0, .int .i64 x.q, .int .i64 0, .int .i64 0, .slice a3 (jn (stR x.d)).length k3, .int .i64 2, .int .i64 0, .int .i64 0, .int .i64 0, .int .i64 0, .int .i64 0, .slice none 0 0] 64)
  have cF' := cF _ _ _ _ _ hn4
  have hB5 := alloc_b (w3.alloc (.cells #[.int .i64 x.q, .slice a3 (jn (stR x.d)).length k3] 41)) (.cells #[.int .i64 1, .int .i64 0, .int .i64 0, .int .i64 x.q, .int .i64 0, .int .i64 0, .slice a3 (jn (stR x.d)).length k3, .int .i64 2, .int .i64 0, .int .i64 0, .int .i64 0, .int .i64 0, .int .i64 0, .slice none 0 0] 64)
  have ho5 := own_belowG ho4 hB5
  rw [World.size_alloc] at cF'
  clear cF cC' ho3 ho4
  go_wp2_with fail
  refine cF'.mono ?_
  rintro e w5 ⟨v5, rfl, ho6, hb5⟩
  obtain ⟨a5, k5, rfl⟩ := own_form ho6
  clear cF' x0 x1 x2 x3 x4 x5 z0 z1 z2 z3 z4 z5 z6 y0 y1
  go_wp2_with fail
  go_ret
  exact ⟨_, _, rfl, own_lower ho6 (by simp; omega), own_lower (own_belowG ho5 hb5) (by simp; omega), chain hB14 (chain hB5 hb5)⟩
end Go.Proofs.YtcdnlkhjlgaaoaaGreatDoor
