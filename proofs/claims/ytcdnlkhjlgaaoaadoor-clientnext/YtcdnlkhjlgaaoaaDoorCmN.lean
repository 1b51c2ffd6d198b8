/-
  The reference: Next of somebody else's edit.
-/
import Derived.Test.YtcdnlkhjlgaaoaaDoorCmJ
import Derived.Test.YtcdnlkhjlgaaoaaDoorRtF
import Derived.Test.YtcdnlkhjlgaaoaaDoorClS
import Derived.Test.YtcdnlkhjlgaaoaaDoorCnV
namespace Go.Proofs.YtcdnlkhjlgaaoaaDoor
open Go.ChangeShapes Go.WideShapes Go.ChangeAt Go.RowKit Go.PlainAid

theorem owed_setT {W : World} {B g j : Nat} {v x : Value} {l : List EdW} {us : List Value} {c : Array Value} (h : OwEd W B v l us) (hb : W.heap[g]? = some (.cells c 26)) : OwEd (W.setCell ⟨g, j, none⟩ x) B v l us :=
  ⟨h.ul, own_set h.row hb (by decide), fun i e u h1 h2 => own_set (h.dl i e u h1 h2) hb (by decide)⟩
theorem tr_sm {f : Bool} {A B : List OpD} (iA : ∀ o ∈ A, o.In) (iB : ∀ o ∈ B, o.In) (h : (trR f A B).2 = 0) : (trR f A B).1.length ≤ maxLen ∧ ∀ o ∈ (trR f A B).1, o.Sm :=
  ⟨(tr_len iA iB h).1, chk_smC (tr_len iA iB h).2 (tr_good iA iB h).2.1⟩
theorem drop_at {A B : List EdW} {k : Nat} (h : A.drop k = B.drop k) (hA : k < A.length) (hB : k < B.length) : A[k] = B[k] := by
  have q := congrArg (fun l => l[0]?) h
  simp only [List.getElem?_drop, Nat.add_zero, List.getElem?_eq_getElem hA, List.getElem?_eq_getElem hB, Option.some.injEq] at q
  exact q
theorem drop_set {A B : List EdW} {k : Nat} {x : EdW} (h : A.drop k = B.drop k) : (A.set k x).drop (k + 1) = B.drop (k + 1) := by
  rw [List.drop_set_of_lt (by omega), ← List.drop_drop, h, List.drop_drop]
theorem take_set_succ {A : List EdW} {k : Nat} {x : EdW} (h : k < A.length) : (A.set k x).take (k + 1) = A.take k ++ [x] := by
  rw [List.take_succ_eq_append_getElem (by simpa using h), List.take_set_of_le (Nat.le_refl _), List.getElem_set_self]
theorem own_at {W : World} {B n k7 k : Nat} {a7 : Option Addr} {LL : List EdW} {us : List Value} (h : OwEd W B (.slice a7 n k7) LL us) (hk : k < LL.length) : ∃ g off cs u1, a7 = some ⟨g, off, none⟩ ∧ Hid (off = 0) ∧ B ≤ g ∧ W.heap[g]? = some (.cells cs 41) ∧ W.cell? ⟨g, off + k * 2 + 1, none⟩ = some u1 ∧ RdD W u1 LL[k].d := by
  obtain ⟨ac, cc, ev, -, hcc⟩ := h.rd
  simp only [Value.slice.injEq] at ev
  obtain ⟨rfl, -, rfl⟩ := ev
  obtain ⟨g, off, u, rfl, hg, -, c1, c2⟩ := hcc k LL[k] (by simp [hk])
  rcases h.row.2 with ⟨e, h0⟩ | ⟨g', cap', cur, e', hb, hgg, _⟩
  · cases e
  · simp only [Value.slice.injEq, Option.some.injEq, Addr.mk.injEq, and_true] at e'
    obtain ⟨⟨rfl, e0⟩, -⟩ := e'
    exact ⟨g, off, _, u, rfl, e0, hb, hgg, c1, c2⟩
theorem own_cell {W : World} {B n k7 k g off : Nat} {LL : List EdW} {us : List Value} (h : OwEd W B (.slice (some ⟨g, off, none⟩) n k7) LL us) (hk : k < LL.length) (_hoff : Hid (off = 0)) : ∃ u1, W.cell? ⟨g, off + k * 2 + 1, none⟩ = some u1 := by
  obtain ⟨g', off', cs, u1, e, -, -, -, c, -⟩ := own_at h hk
  cases e
  exact ⟨_, c⟩
theorem put_at {W : World} {B n k7 k g off : Nat} {LL : List EdW} {us : List Value} {u : Value} {d : List OpD} (h : OwEd W B (.slice (some ⟨g, off, none⟩) n k7) LL us) (hk : k < LL.length) (hn : Hid (LL.length = n)) (hoff : Hid (off = 0)) (hu : W.ownsRow B 43 3 u d.length (ocs d)) : OwEd (W.setCell ⟨g, off + k * 2 + 1, none⟩ u) B (.slice (some ⟨g, off, none⟩) n k7) (LL.set k ⟨LL[k].q, d⟩) (us.set k u) := by
  have h0 := hoff.out
  have hn0 := hn.out
  subst h0
  subst hn0
  rw [Nat.zero_add]
  exact h.put hk rfl hu
theorem heap_setT {W : World} {n g j : Nat} {x : Value} {o : Obj} {cs : Array Value} {t : TypeId} (h : W.heap[n]? = some o) (hg : W.heap[g]? = some (.cells cs t)) (hne : ∀ cs', o ≠ .cells cs' t) : (W.setCell ⟨g, j, none⟩ x).heap[n]? = some o := by
  have : n ≠ g := by
    rintro rfl
    rw [h] at hg
    cases hg
    exact hne _ rfl
  exact (Below.heap_setCell W ⟨g, j, none⟩ x n (by simp only; omega)).trans h
theorem eb_setX {W : World} {n g : Nat} {E : EdD} {v : Value} {cs : Array Value} (h : EB W n E v) (hg : W.heap[g]? = some (.cells cs 41)) (j : Nat) (x : Value) : EB (W.setCell ⟨g, j, none⟩ x) n E v := heap_setT h hg (fun cs' e => by cases e)
theorem mb_setX {W : World} {n g : Nat} {m : MsD} {v : Value} {cs : Array Value} (h : MB W n m v) (hg : W.heap[g]? = some (.cells cs 41)) (j : Nat) (x : Value) : MB (W.setCell ⟨g, j, none⟩ x) n m v := heap_setT h hg (fun cs' e => by cases e)
theorem l3_setX {W : World} {n g : Nat} {E : EdD} {m : MsD} {v u : Value} {cs : Array Value} (h : L3 W n E m v u) (hg : W.heap[g]? = some (.cells cs 41)) (j : Nat) (x : Value) : L3 (W.setCell ⟨g, j, none⟩ x) n E m v u := ⟨eb_setX h.x hg j x, mb_setX h.y hg j x, eb_setX h.z hg j x⟩
set_option maxRecDepth 20000 in
set_option maxHeartbeats 2500000 in
theorem rnext_led (E : EdD) (m : MsD) (v u : Value) (w : World) (hr : RdEd w v E.p) (hd : RdD w u m.d) (hF : E.Fit) (ht : E.t.size ≤ 1048576) (hS : ∀ e ∈ E.p, ∀ o ∈ e.d, o.Sm) (hdl : m.d.length ≤ maxLen) (hdi : ∀ o ∈ m.d, o.Sm) (hm : mayE E = true) (hk : m.k = 3) (hc : m.c = E.c) (hb : m.b = E.b) (hg : m.r = E.r + 1) (hq : chk m.d = 0) (hl : (bsum (stR m.d) : Int) = baseE E) (ho : ownC E m = false) (hld : ∀ e ∈ E.p, e.d.length ≤ 1048576) (R : EdD × Int) (hR : ledE E m = R) :
    Calls Tryd.prog 16 #[.agg (E.fs v), .agg (m.fs u)] w fun e w' => ∃ v', e = .returned (.tuple #[.agg (R.1.fs v'), .int .i64 R.2]) ∧ RdEd w' v' R.1.p ∧ Below w.heap.size w w' := by
  have h3 := l3_new w E m v u
  have hA := bel3 w (.cells (E.fs v) 26) (.cells (m.fs u) 38) (.cells (zeroE.fs (.slice none 0 0)) 26)
  have cM := rmay_any E v _ (hr.below hA) hF ht hS
  obtain ⟨au, ku, rfl⟩ := rdd_len hd
  obtain ⟨av, kv, rfl⟩ := rded_len hr
  have hp8 := ((may_iff E).1 hm).p8
  rw [hm] at cM
  have hr0 := ((may_iff E).1 hm).r0
  have hr1 := ((may_iff E).1 hm).r1
  have cB := fun W (h : Below w.heap.size w W) => refBase_any _ m.d W (hd.below h) hdl hdi
  rw [hq, hl] at cB
  have cE := fun W (h : Below w.heap.size w W) => rbase20_any E _ W (hr.below h) hF ht hS
  have cC := fun W (h : Below w.heap.size w W) => rcopy_any E _ W (hr.below h) (by omega) hld
  have cN := fun W (h : Below w.heap.size w W) => refNormal_any _ m.d W (hd.below h) hdl hdi
  rw [hq] at cN
  have hjl := jn_in (stR_ok (fun o ho => sm_in (hdi o ho))) (stR_bd m.d).1 (stR_bd m.d).2
  generalize baseE E = Bs at *
  obtain ⟨c, b, r, t, s, p⟩ := E
  obtain ⟨mk, mb, mc, ms, mr, my, md⟩ := m
  simp only [EdD.fs, MsD.fs] at *
  subst hk
  subst hc
  subst hb
  subst hg
  have ho1 : ¬ (r + 1 ≤ r) := by omega
  have hoC : Hid (ownC ⟨mc, mb, r, t, s, p⟩ ⟨3, mb, mc, ms, r + 1, my, md⟩ = false) := ho
  have HRR : Hid (ledE ⟨mc, mb, r, t, s, p⟩ ⟨3, mb, mc, ms, r + 1, my, jn (stR md)⟩ = R) := (led_normal (E := ⟨mc, mb, r, t, s, p⟩) (m := ⟨3, mb, mc, ms, r + 1, my, md⟩) (fun o ho => sm_in (hdi o ho)) hq).trans hR
  have hjS : Hid (∀ o ∈ jn (stR md), o.Sm) := chk_smC hjl.2 (normal_facts (stR_ok (fun o ho => sm_in (hdi o ho))) (stR_bd md).1 (stR_bd md).2).1
  have hjL : Hid ((jn (stR md)).length ≤ maxLen) := by show _ ≤ _; have := hjl.1; unfold maxLen; omega
  have hpF : Hid (∀ e ∈ p, e.d.length ≤ maxLen) := fun e he => (hF.pf e he).dl
  have hpS : Hid (∀ e ∈ p, ∀ o ∈ e.d, o.Sm) := hS
  clear hr hd hF hS hq hl hm hld ho hR hdi hdl hjl
  obtain ⟨x0, x1, x2, x3, x4, x5⟩ := cellsEB h3.x
  simp only [zeroE] at hA x0 x1 x2 x3 x4 x5 cM ⊢
  go_enter Tryd.func16, Tryd.ntmps16
  go_wp2_with fail
  clear x0 x1 x2 x3 x4 x5
  refine cM.mono ?_
  rintro e w4 ⟨rfl, hb4⟩
  have h34 := h3.below hb4
  have hB4 := chain hA hb4
  clear cM h3 hb4 hA
  obtain ⟨x0, x1, x2, x3, x4, x5⟩ := cellsEB h34.x
  obtain ⟨z0, z1, z2, z3, z4, z5, z6⟩ := cellsMB h34.y
  go_wp2_with fail
  refine (cB _ hB4).mono ?_
  rintro e w5 ⟨rfl, hb5⟩
  have h35 := h34.below hb5
  have hB5 := chain hB4 hb5
  clear x0 x1 x2 x3 x4 x5 z0 z1 z2 z3 z4 z5 z6 h34 hB4 cB hb5
  obtain ⟨x0, x1, x2, x3, x4, x5⟩ := cellsEB h35.x
  go_wp2_with fail
  refine (cE _ hB5).mono ?_
  rintro e w6 ⟨rfl, hb6⟩
  have h36 := h35.below hb6
  have hB6 := chain hB5 hb6
  clear x0 x1 x2 x3 x4 x5 h35 hB5 cE hb6
  obtain ⟨x0, x1, x2, x3, x4, x5⟩ := cellsEB h36.x
  go_wp2_with fail
  refine (cC _ hB6).mono ?_
  rintro e w7 ⟨v7, us7, rfl, ho7, hb7⟩
  obtain ⟨a7, k7, ev7⟩ := own_form ho7.row
  subst ev7
  have hn7 := eb_new w7 ⟨mc, mb, r, t, s, p⟩ (.slice a7 p.length k7)
  have hal7 := alloc_b w7 (.cells #[.int .i64 mc, .int .i64 mb, .int .i64 r, .string t, .int .i64 s, .slice a7 p.length k7] 26)
  have h38 := (h36.below hb7).below hal7
  have r8 := ho7.rd.below hal7
  have hs6 := h36.z.lt
  have hs67 := hb7.size
  have hB8 := chain hB6 (chain hb7 hal7)
  clear x0 x1 x2 x3 x4 x5 h36 hB6 cC hb7
  obtain ⟨z0, z1, z2, z3, z4, z5, z6⟩ := cellsMB h38.y
  go_wp2_with fail
  refine (cN _ hB8).mono ?_
  rintro e w9 ⟨u9, rfl, ho9, hb9⟩
  obtain ⟨a9, k9, rfl⟩ := own_form ho9
  have hn9 := hn7.below hb9
  have h39 := h38.below hb9
  have r9 := r8.below hb9
  have hB9 := chain hB8 hb9
  have rd9 := rdd_own ho9
  clear z0 z1 z2 z3 z4 z5 z6 hn7 h38 r8 hB8 cN ho9
  go_upto_region 16 with fail
  go_cut [100] (fun x wx => x = .bool false ∧ Below w9.heap.size w9 wx)
  case first =>
    obtain ⟨x0, x1, x2, x3, x4, x5⟩ := cellsEB hn9
    obtain ⟨z0, z1, z2, z3, z4, z5, z6⟩ := cellsMB h39.y
    by_cases hw : my = mc
    · subst hw
      cases p with
      | nil =>
        simp only [List.length_nil] at *
        go_quiet (fail)
        go_wp2_with fail
        go_meet
        exact ⟨rfl, below_drewC _ _⟩
      | cons x q =>
        have hms : ms ≠ x.q := by
          have := hoC.out
          simp [ownC] at this
          exact this
        have hmb : (x.q == ms) = false := beq_eq_false_iff_ne.2 (fun e => hms e.symm)
        have hmd : decide (x.q = ms) = false := decide_eq_false (fun e => hms e.symm)
        obtain ⟨ac, cc, ev, -, hcc⟩ := id r9
        simp only [Value.slice.injEq] at ev
        obtain ⟨rfl, -, rfl⟩ := ev
        obtain ⟨gc, oc, uc, rfl, hgc, d0, -, -⟩ := hcc 0 x rfl
        simp only [Nat.zero_mul, Nat.add_zero] at d0
        simp only [List.length_cons] at *
        clear hcc hms hoC HRR
        generalize q.length = n at *
        have hd1 : decide (((n + 1 : Nat) : Int) > 0) = true := decide_eq_true (by omega)
        have hd2 : decide ((0 : Int) < ((n + 1 : Nat) : Int)) = true := decide_eq_true (by omega)
        have hd3 : decide ((0 : Int) < (n : Int) + 1) = true := decide_eq_true (by omega)
        go_quiet (fail)
        go_wp2_with fail
        go_meet
        exact ⟨rfl, below_drewC _ _⟩
    · have hwb : (my == mc) = false := beq_eq_false_iff_ne.2 hw
      have hwd : decide (my = mc) = false := decide_eq_false hw
      clear hoC HRR
      go_quiet (fail)
      go_wp2_with fail
      go_meet
      exact ⟨rfl, below_drewC _ _⟩
  case rest =>
    obtain ⟨rfl, hbx⟩ := hcut
    have h3c := h39.below hbx
    have hnc := hn9.below hbx
    have hoc := ((ho7.below hal7).below hb9).below hbx
    have rdc := rd9.below hbx
    have hBc := chain hB9 hbx
    obtain ⟨d0, hd0⟩ : ∃ d0, d0 = jn (stR md) := ⟨_, rfl⟩
    rw [← hd0] at rdc HRR hjS hjL ⊢
    clear h39 hn9 ho7 hal7 hb9 rd9 hB9 r9 hbx hoC hd0
    obtain ⟨x0, x1, x2, x3, x4, x5⟩ := cellsEB hnc
    go_wp2_with fail
    clear x0 x1 x2 x3 x4 x5
    go_loopw [9, 11] (fun dv i wr => ∃ (k : Nat) (LL : List EdW) (us : List Value) (d : List OpD), k ≤ p.length ∧ i = .int .i64 (k : Int) ∧ Hid (LL.length = p.length) ∧ Hid (LL.drop k = p.drop k) ∧ OwEd wr w6.heap.size (.slice a7 p.length k7) LL us ∧ RdD wr dv d ∧ d.length ≤ maxLen ∧ (∀ o ∈ d, o.Sm) ∧ Hid (ldG d0 p = (ldG d (p.drop k)).map (fun x => (LL.take k ++ x.1, x.2))) ∧ L3 wr w.heap.size ⟨mc, mb, r, t, s, p⟩ ⟨3, mb, mc, ms, r + 1, my, md⟩ (.slice av p.length kv) (.slice au md.length ku) ∧ EB wr w7.heap.size ⟨mc, mb, r, t, s, p⟩ (.slice a7 p.length k7) ∧ Below w.heap.size w wr) (fun _ i _ => p.length - (Go.RowKit.intOf i).toNat)
    case atStart => exact ⟨0, p, us7, d0, by omega, rfl, rfl, rfl, hoc, rdc, hjL.out, hjS.out, (by show _ = _; simp), h3c, hnc, hBc⟩
    case round =>
      obtain ⟨k, LL, us, d, hk, rfl, HLn, HLd, ho, hrd, hl1, hl2, HL, h3r, hnr, hBr⟩ := hrel
      obtain ⟨ad, kd, rfl⟩ := rdd_len hrd
      clear h3c hnc hoc rdc hBc
      by_cases hlt : k < p.length
      · have hlt' : (k : Int) < (p.length : Int) := by omega
        have hltL : k < LL.length := by rw [HLn.out]; exact hlt
        have hxe : LL[k] = p[k] := drop_at HLd.out hltL hlt
        obtain ⟨g, off, cs, u1, rfl, hoff, hgB, hgh, c1, c2⟩ := own_at ho hltL
        have hxm := List.getElem_mem hlt
        have hxl := hpF.out _ hxm
        have hxs := hpS.out _ hxm
        have Hst := fun h1 h2 => ldG_step (d := d) hlt h1 h2
        have Hbd := fun h => ldG_bad (d := d) hlt h
        rw [hxe] at c2
        have hput := fun W (d' : List OpD) (u : Value) (h : OwEd W w6.heap.size (.slice (some ⟨g, off, none⟩) p.length k7) LL us) (hu : W.ownsRow w6.heap.size 43 3 u d'.length (ocs d')) => put_at h hltL HLn hoff hu
        rw [hxe] at hput
        generalize p[k] = x at *
        obtain ⟨a1, k1, rfl⟩ := rdd_len c2
        have cT := rtransform_any _ _ false x.d d _ c2 hrd hxl hl1 hxs hl2
        have cU := fun W (h : Below wr.heap.size wr W) => rtransform_any _ _ true d x.d W (hrd.below h) (c2.below h) hl1 hxl hl2 hxs
        have T1 := fun h => tr_sm (f := true) (fun o ho => sm_in (hl2 o ho)) (fun o ho => sm_in (hxs o ho)) h
        obtain ⟨x0, x1, x2, x3, x4, x5⟩ := cellsEB hnr
        have hs7r := hnr.lt
        have hgl := EB.lt' hgh
        clear c2 hrd hxm hxl hxs hpF hpS hl1 hl2
        go_wp2_with fail
        refine cT.mono ?_
        rintro e w10 ⟨u10, rfl, ho10, hb10⟩
        have cU10 := cU _ hb10
        clear cT cU x0 x1 x2 x3 x4 x5 c1
        go_wp2_with fail
        refine cU10.mono ?_
        rintro e w11 ⟨u11, rfl, ho11, hb11⟩
        have hb := chain hb10 hb11
        have hsz10 := hb10.size
        have h311 := h3r.below hb
        have hn11 := hnr.below hb
        have hoE := ho.below hb
        have hsz6 : w6.heap.size ≤ wr.heap.size := by omega
        have hoD := own_lower (own_belowG ho10 hb11) (b' := w6.heap.size) hsz6
        have hg11 := (hb.block g hgl).trans hgh
        have hB11 := chain hBr hb
        obtain ⟨a10, k10, rfl⟩ := own_form hoD
        obtain ⟨a11, k11, rfl⟩ := own_form ho11
        clear cU10 ho10 hb10 hb11 hnr ho h3r hBr hgh hgl hb
        by_cases g1 : (trR false x.d d).2 = 0
        · by_cases g2 : (trR true d x.d).2 = 0
          · have HN : Hid (ldG d0 p = (ldG (trR true d x.d).1 (p.drop (k + 1))).map (fun y => ((LL.set k ⟨x.q, (trR false x.d d).1⟩).take (k + 1) ++ y.1, y.2))) := by
              show _ = _
              rw [HL.out, Hst g1 g2, Option.map_map]
              congr 1
              funext y
              simp only [Function.comp, take_set_succ hltL, List.append_assoc, List.singleton_append]
            have T1' := T1 g2
            generalize hR1 : trR false x.d d = R1 at *
            generalize hR2 : trR true d x.d = R2 at *
            have n1 : (R1.2 != 0) = false := by rw [g1]; rfl
            have n2 : (R2.2 != 0) = false := by rw [g2]; rfl
            have m1 : (R1.2 == 0) = true := by rw [g1]; rfl
            have m2 : (R2.2 == 0) = true := by rw [g2]; rfl
            have hnew := hput _ R1.1 _ hoE hoD
            have hd' := rdd_own (own_set ho11 hg11 (by decide) (j := off + k * 2 + 1) (x := .slice a10 R1.1.length k10))
            have h312 := l3_setX h311 hg11 (off + k * 2 + 1) (.slice a10 R1.1.length k10)
            have hn12 := eb_setX hn11 hg11 (off + k * 2 + 1) (.slice a10 R1.1.length k10)
            have hB12 := hB11.setCell (p := ⟨g, off + k * 2 + 1, none⟩) (by simp only; omega) (.slice a10 R1.1.length k10)
            have HD : Hid ((LL.set k ⟨x.q, R1.1⟩).drop (k + 1) = p.drop (k + 1)) := drop_set HLd.out
            have HE : Hid ((LL.set k ⟨x.q, R1.1⟩).length = p.length) := by show _ = _; rw [List.length_set]; exact HLn.out
            obtain ⟨vo, co⟩ := own_cell hoE hltL hoff
            have fo := frz hg11 (off + k * 2 + 1)
            obtain ⟨x0, x1, x2, x3, x4, x5⟩ := cellsEB hn11
            clear Hst Hbd HL T1 hR1 hR2 hput g1 g2
            go_wp2_with fail
            exact ⟨⟨k + 1, _, _, _, by omega, by go_num, HE, HD, hnew, hd', T1'.1, T1'.2, HN, h312, hn12, hB12⟩, by simp [Go.RowKit.intOf]; omega⟩
          · have e : R = (zeroE, 91) := by rw [← HRR.out, ledE]; simp only; rw [HL.out, Hbd (fun h => g2 h.2)]; rfl
            subst e
            have n1 : ((trR false x.d d).2 != 0) = false := by rw [g1]; rfl
            have n2 : ((trR true d x.d).2 != 0) = true := bne_iff_ne.2 g2
            have m1 : ((trR false x.d d).2 == 0) = true := by rw [g1]; rfl
            have m2 : ((trR true d x.d).2 == 0) = false := beq_eq_false_iff_ne.2 g2
            generalize trR false x.d d = R1 at *
            generalize trR true d x.d = R2 at *
            clear Hst Hbd HL T1 HRR hput g1
            obtain ⟨e0, e1, e2, e3, e4, e5⟩ := cellsEB h311.z
            obtain ⟨f0, f1, f2, f3, f4, f5⟩ := EB.frz h311.z
            go_upto_region 26 with fail
            go_wp21
            have hfin := h311.z.put zeroE (.slice none 0 0)
            refine bodyPost_ret (results_row_tmpC rfl _ _ (w.heap.size + 1 + 1) 26 _ (0, 0) _ rfl hfin Tryd.underlying26 rfl Tryd.sizeEr) rfl ?_
            exact ⟨_, rfl, RdEd.nil _, below_putE hB11 (by omega) zeroE (.slice none 0 0)⟩
        · have e : R = (zeroE, 91) := by rw [← HRR.out, ledE]; simp only; rw [HL.out, Hbd (fun h => g1 h.1)]; rfl
          subst e
          have n1 : ((trR false x.d d).2 != 0) = true := bne_iff_ne.2 g1
          have m1 : ((trR false x.d d).2 == 0) = false := beq_eq_false_iff_ne.2 g1
          generalize trR false x.d d = R1 at *
          generalize trR true d x.d = R2 at *
          clear Hst Hbd HL T1 HRR hput
          obtain ⟨e0, e1, e2, e3, e4, e5⟩ := cellsEB h311.z
          obtain ⟨f0, f1, f2, f3, f4, f5⟩ := EB.frz h311.z
          go_upto_region 26 with fail
          go_wp21
          have hfin := h311.z.put zeroE (.slice none 0 0)
          refine bodyPost_ret (results_row_tmpC rfl _ _ (w.heap.size + 1 + 1) 26 _ (0, 0) _ rfl hfin Tryd.underlying26 rfl Tryd.sizeEr) rfl ?_
          exact ⟨_, rfl, RdEd.nil _, below_putE hB11 (by omega) zeroE (.slice none 0 0)⟩
      · have hlt' : ¬ (k : Int) < (p.length : Int) := by omega
        have hkl : k = p.length := by omega
        have HM : Hid (ldG d0 p = some (LL, d)) := by
          show _ = _
          rw [HL.out, hkl, List.drop_length, ldG, Option.map_some]
          simp only [List.append_nil]
          rw [← HLn.out, List.take_length]
        have cA := refApply_any t _ d wr ht hrd hl1 hl2
        obtain ⟨x0, x1, x2, x3, x4, x5⟩ := cellsEB hnr
        clear HL hkl hpF hpS HLd hrd
        go_wp2_with fail
        refine cA.mono ?_
        rintro e w10 ⟨rfl, hb10⟩
        have hbT := chain hBr hb10
        have h310 := h3r.below hb10
        have hn10 := hnr.below hb10
        have ho10 := ho.below hb10
        have hs10 := hb10.size
        clear x0 x1 x2 x3 x4 x5 cA h3r ho hb10 hnr hBr
        by_cases g1 : (apR t d).2 = 0
        · have e : R = (⟨mc, mb, r + 1, (apR t d).1, s, LL⟩, 0) := by rw [← HRR.out, ledE]; simp only; rw [HM.out]; simp only; rw [if_pos g1]
          have n1 : ((apR t d).2 != 0) = false := by rw [g1]; rfl
          have m1 : ((apR t d).2 == 0) = true := by rw [g1]; rfl
          clear HRR HM g1
          generalize apR t d = R1 at *
          subst e
          obtain ⟨x0, x1, x2, x3, x4, x5⟩ := cellsEB hn10
          obtain ⟨fx0, fx1, fx2, fx3, fx4, fx5⟩ := EB.frz hn10
          obtain ⟨z0, z1, z2, z3, z4, z5, z6⟩ := cellsMB h310.y
          go_upto_region 33 with fail
          have hn1 := heap_setCell hn10 3 (.string R1.1)
          have hx5 : EB ((w10.setCell ⟨w7.heap.size, 3, none⟩ (.string R1.1)).setCell ⟨w7.heap.size, 2, none⟩ (.int .i64 (r + 1))) w7.heap.size ⟨mc, mb, r + 1, R1.1, s, LL⟩ (.slice a7 p.length k7) := heap_setCell hn1 2 (.int .i64 (r + 1))
          have hn := fun (i : Nat) (x : Value) (W : World) => Below.heap_setCell W ⟨w7.heap.size, i, none⟩ x (w.heap.size + 1 + 1) (by simp only; omega)
          have hz5 : EB ((w10.setCell ⟨w7.heap.size, 3, none⟩ (.string R1.1)).setCell ⟨w7.heap.size, 2, none⟩ (.int .i64 (r + 1))) (w.heap.size + 1 + 1) zeroE (.slice none 0 0) := (hn 2 _ _).trans ((hn 3 _ _).trans h310.z)
          have hb5 : Below w.heap.size w ((w10.setCell ⟨w7.heap.size, 3, none⟩ (.string R1.1)).setCell ⟨w7.heap.size, 2, none⟩ (.int .i64 (r + 1))) := (hbT.setCell (by simp only; omega) _).setCell (by simp only; omega) _
          have ho5 : OwEd ((w10.setCell ⟨w7.heap.size, 3, none⟩ (.string R1.1)).setCell ⟨w7.heap.size, 2, none⟩ (.int .i64 (r + 1))) w6.heap.size (.slice a7 p.length k7) LL us := owed_setT (owed_setT ho10 hn10) hn1
          generalize ((w10.setCell ⟨w7.heap.size, 3, none⟩ (.string R1.1)).setCell ⟨w7.heap.size, 2, none⟩ (.int .i64 (r + 1))) = w12 at *
          clear hn hn1 x0 x1 x2 x3 x4 x5 fx0 fx1 fx2 fx3 fx4 fx5 z0 z1 z2 z3 z4 z5 z6 h310 hbT ho10 hn10
          obtain ⟨x0, x1, x2, x3, x4, x5⟩ := cellsEB hx5
          obtain ⟨e0, e1, e2, e3, e4, e5⟩ := cellsEB hz5
          obtain ⟨f0, f1, f2, f3, f4, f5⟩ := EB.frz hz5
          go_wp21
          have hfin := hz5.put ⟨mc, mb, r + 1, R1.1, s, LL⟩ (.slice a7 p.length k7)
          refine bodyPost_ret (results_row_tmpC rfl _ _ (w.heap.size + 1 + 1) 26 _ (0, 0) _ rfl hfin Tryd.underlying26 rfl Tryd.sizeEr) rfl ?_
          refine ⟨_, rfl, ?_, below_putE hb5 (by omega) ⟨mc, mb, r + 1, R1.1, s, LL⟩ _⟩
          refine OwEd.rd (B := w6.heap.size) (us := us) ?_
          exact (((((ho5.set (a := ⟨w.heap.size + 1 + 1, 0, none⟩) (by simp only; omega) _).set (a := ⟨w.heap.size + 1 + 1, 1, none⟩) (by simp only; omega) _).set (a := ⟨w.heap.size + 1 + 1, 2, none⟩) (by simp only; omega) _).set (a := ⟨w.heap.size + 1 + 1, 3, none⟩) (by simp only; omega) _).set (a := ⟨w.heap.size + 1 + 1, 4, none⟩) (by simp only; omega) _).set (a := ⟨w.heap.size + 1 + 1, 5, none⟩) (by simp only; omega) _
        · have e : R = (zeroE, 91) := by rw [← HRR.out, ledE]; simp only; rw [HM.out]; simp only; rw [if_neg g1]
          subst e
          clear HRR HM
          have n1 : ((apR t d).2 != 0) = true := bne_iff_ne.2 g1
          have m1 : ((apR t d).2 == 0) = false := beq_eq_false_iff_ne.2 g1
          generalize apR t d = R1 at *
          obtain ⟨e0, e1, e2, e3, e4, e5⟩ := cellsEB h310.z
          obtain ⟨f0, f1, f2, f3, f4, f5⟩ := EB.frz h310.z
          go_upto_region 30 with fail
          go_wp21
          have hfin := h310.z.put zeroE (.slice none 0 0)
          refine bodyPost_ret (results_row_tmpC rfl _ _ (w.heap.size + 1 + 1) 26 _ (0, 0) _ rfl hfin Tryd.underlying26 rfl Tryd.sizeEr) rfl ?_
          exact ⟨_, rfl, RdEd.nil _, below_putE hbT (by omega) zeroE (.slice none 0 0)⟩
end Go.Proofs.YtcdnlkhjlgaaoaaDoor

/-
  The reference: Next is the program's. A row of edits that is written to; a message that came in.
-/
namespace Go.Proofs.YtcdnlkhjlgaaoaaDoor
open Go.ChangeShapes Go.WideShapes Go.ChangeAt Go.RowKit Go.PlainAid

theorem ldG_fit : ∀ {l : List EdW} {d : List OpD} {x : List EdW × List OpD}, (∀ o ∈ d, o.In) → (∀ e ∈ l, ∀ o ∈ e.d, o.In) → ldG d l = some x → ∀ e ∈ x.1, e.d.length ≤ 3000
  | [], d, x, _, _, h => by rw [ldG] at h; cases h; intro e he; cases he
  | a :: l, d, x, hd, hl, h => by
    rw [ldG] at h
    split at h
    · rename_i c
      cases hq : ldG (trR true d a.d).1 l with
      | none => rw [hq] at h; cases h
      | some y =>
        rw [hq] at h
        simp only [Option.map_some, Option.some.injEq] at h
        subst h
        have ia := hl a (by simp)
        intro e he
        rcases List.mem_cons.1 he with rfl | he
        · exact (kchk_any (tr_good ia hd c.1).2.1).2
        · exact ldG_fit (tr_good hd ia c.2).1 (fun e he => hl e (by simp [he])) hq e he
    · cases h
theorem nxt_fit {E : EdD} {m : MsD} (hF : E.Fit) (hdi : ∀ o ∈ m.d, o.In) : (nxtE E m).1.p.length ≤ 8 ∧ ∀ e ∈ (nxtE E m).1.p, e.d.length ≤ 3000 := by
  have z : (zeroE : EdD).p.length ≤ 8 ∧ ∀ e ∈ (zeroE : EdD).p, e.d.length ≤ 3000 := ⟨by decide, fun e he => by cases he⟩
  unfold nxtE
  split
  · exact z
  · rename_i h1
    have hm : mayE E = true := by simpa using h1
    have hM := (may_iff E).1 hm
    split
    · exact z
    · split
      · unfold conE
        have h8 := hM.p8
        have hk := may_ok hM
        split
        · exact z
        · rename_i e q hq
          rw [hq] at h8 hk
          split
          · refine ⟨by simp at h8 ⊢; omega, ?_⟩
            simp only
            rw [map_cp (fun e he => hk e (by simp [he]))]
            intro e he
            have := hk e (by simp [he])
            simp [okD] at this
            exact (kchk_any this.1).2
          · exact z
      · unfold ledE
        split
        · exact z
        · rename_i x hx
          split
          · exact ⟨by show x.1.length ≤ 8; rw [ldG_len hx]; exact hM.p8, ldG_fit hdi (fun e he => (hF.pf e he).di) hx⟩
          · exact z
theorem rnext_all (E : EdD) (m : MsD) (v u : Value) (w : World) (hr : RdEd w v E.p) (hd : RdD w u m.d) (hF : E.Fit) (ht : E.t.size ≤ 1048576) (hS : ∀ e ∈ E.p, ∀ o ∈ e.d, o.Sm) (hdl : m.d.length ≤ maxLen) (hdi : ∀ o ∈ m.d, o.Sm) (hld : ∀ e ∈ E.p, e.d.length ≤ 1048576) :
    Calls Tryd.prog 16 #[.agg (E.fs v), .agg (m.fs u)] w fun e w' => ∃ v', e = .returned (.tuple #[.agg ((nxtE E m).1.fs v'), .int .i64 (nxtE E m).2]) ∧ RdEd w' v' (nxtE E m).1.p ∧ Below w.heap.size w w' := by
  unfold nxtE
  by_cases hm : mayE E = false
  · rw [if_pos hm]
    refine (rnext_form E m v u w hr hd hF ht hS hdl hdi hm).mono ?_
    rintro e w' ⟨rfl, hb⟩
    exact ⟨_, rfl, RdEd.nil _, hb⟩
  · rw [if_neg hm]
    have hm' : mayE E = true := by simpa using hm
    have hM := (may_iff E).1 hm'
    by_cases hk : m.k = 3
    · by_cases hc : m.c = E.c
      · by_cases hb : m.b = E.b
        · have n0 : ¬ (m.k ≠ 3 ∨ m.c ≠ E.c ∨ m.b ≠ E.b) := by simp [hk, hc, hb]
          by_cases ho : m.r ≤ E.r
          · have hf : fitC E m = 196 := by unfold fitC; rw [if_neg n0, if_pos ho]
            rw [hf, if_pos (by decide)]
            refine (rnext_old E m v u w hr hd hF ht hS hdl hdi hm' hk hc hb ho).mono ?_
            rintro e w' ⟨rfl, hb⟩
            exact ⟨_, rfl, RdEd.nil _, hb⟩
          · by_cases hg : m.r = E.r + 1
            · by_cases hq : chk m.d = 0
              · by_cases hl : (bsum (stR m.d) : Int) = baseE E
                · have hf : fitC E m = 0 := by unfold fitC; rw [if_neg n0, if_neg ho, if_neg (fun h => h hg), if_neg (fun h => h hq), if_neg (fun h => h hl)]
                  rw [hf, if_neg (by decide)]
                  by_cases hw : ownC E m = true
                  · rw [if_pos hw]
                    cases hp : E.p with
                    | nil => rw [ownC_nil hp] at hw; cases hw
                    | cons x q =>
                      rw [ownC_cons hp] at hw
                      simp only [Bool.and_eq_true, decide_eq_true_eq] at hw
                      have hk8 := may_ok hM
                      have h8 := hM.p8
                      refine rnext_own E m v u w hr hd hF ht hS hdl hdi hm' hk hc hb hg hq hl x q hp hw.1 hw.2 hld (by omega) _ ?_
                      unfold conE
                      rw [hp] at hk8 ⊢
                      simp only
                      split
                      · rw [map_cp (fun e he => hk8 e (by simp [he]))]
                      · rfl
                  · rw [if_neg hw]
                    exact rnext_led E m v u w hr hd hF ht hS hdl hdi hm' hk hc hb hg hq hl (by simpa using hw) hld _ rfl
                · have hf : fitC E m = 91 := by unfold fitC; rw [if_neg n0, if_neg ho, if_neg (fun h => h hg), if_neg (fun h => h hq), if_pos hl]
                  rw [hf, if_pos (by decide)]
                  refine (rnext_len E m v u w hr hd hF ht hS hdl hdi hm' hk hc hb hg hq hl).mono ?_
                  rintro e w' ⟨rfl, hb⟩
                  exact ⟨_, rfl, RdEd.nil _, hb⟩
              · have hf : fitC E m = chk m.d := by unfold fitC; rw [if_neg n0, if_neg ho, if_neg (fun h => h hg), if_pos hq]
                rw [hf, if_pos hq]
                refine (rnext_delta E m v u w hr hd hF ht hS hdl hdi hm' hk hc hb hg hq).mono ?_
                rintro e w' ⟨rfl, hb⟩
                exact ⟨_, rfl, RdEd.nil _, hb⟩
            · have hf : fitC E m = 197 := by unfold fitC; rw [if_neg n0, if_neg ho, if_pos hg]
              rw [hf, if_pos (by decide)]
              refine (rnext_gap E m v u w hr hd hF ht hS hdl hdi hm' hk hc hb ho hg).mono ?_
              rintro e w' ⟨rfl, hb⟩
              exact ⟨_, rfl, RdEd.nil _, hb⟩
        · have hf : fitC E m = 1 := by unfold fitC; rw [if_pos (.inr (.inr hb))]
          rw [hf, if_pos (by decide)]
          refine (rnext_b E m v u w hr hd hF ht hS hdl hdi hm' hk hc hb).mono ?_
          rintro e w' ⟨rfl, hb⟩
          exact ⟨_, rfl, RdEd.nil _, hb⟩
      · have hf : fitC E m = 1 := by unfold fitC; rw [if_pos (.inr (.inl hc))]
        rw [hf, if_pos (by decide)]
        refine (rnext_c E m v u w hr hd hF ht hS hdl hdi hm' hk hc).mono ?_
        rintro e w' ⟨rfl, hb⟩
        exact ⟨_, rfl, RdEd.nil _, hb⟩
    · have hf : fitC E m = 1 := by unfold fitC; rw [if_pos (.inl hk)]
      rw [hf, if_pos (by decide)]
      refine (rnext_k E m v u w hr hd hF ht hS hdl hdi hm' hk).mono ?_
      rintro e w' ⟨rfl, hb⟩
      exact ⟨_, rfl, RdEd.nil _, hb⟩
/-- A row of n edits that is written to: their deltas' places stay. -/
structure MutE (B : Nat) (v : Value) (n : Nat) (us : List Value) (W : World) : Prop where
  row : n = 0 ∨ ∃ g cs cap, v = .slice (some ⟨g, 0, none⟩) n cap ∧ B ≤ g ∧ W.heap[g]? = some (.cells cs 41) ∧ n * 2 ≤ cs.size ∧ ∀ i, i < n → ∃ u, us[i]? = some u ∧ cs[i * 2 + 1]? = some u
  dl : ∀ (i : Nat) (u : Value), us[i]? = some u → ∃ a n c, u = .slice a n c ∧ n ≤ 3000 ∧ (n = 0 ∨ ∃ g cs, a = some ⟨g, 0, none⟩ ∧ B ≤ g ∧ W.heap[g]? = some (.cells cs 43) ∧ n * 3 ≤ cs.size)
theorem OwEd.mut {W : World} {B : Nat} {v : Value} {l : List EdW} {us : List Value} (h : OwEd W B v l us) (hl : ∀ e ∈ l, e.d.length ≤ 3000) : MutE B v l.length us W := by
  refine ⟨?_, fun i u hu => ?_⟩
  · rcases h.row.2 with ⟨rfl, h0⟩ | ⟨g, cap, cur, rfl, hb, hg, hn, _, hs, ht⟩
    · exact .inl h0
    · refine .inr ⟨g, cur, cap, rfl, hb, hg, by rw [hs]; exact Nat.mul_le_mul_right _ hn, fun i hi => ?_⟩
      obtain ⟨u, h1, -, h3⟩ := ecs_at l us i l[i] h.ul (by simp [hi])
      refine ⟨u, h1, ?_⟩
      rw [← ht, List.getElem?_take_of_lt (by omega)] at h3
      simpa using h3
  · have hi : i < l.length := by rw [← h.ul]; exact (List.getElem?_eq_some_iff.1 hu).1
    have hd := h.dl i l[i] u (by simp [hi]) hu
    have hn := hl l[i] (List.getElem_mem hi)
    rcases hd.2 with ⟨rfl, h0⟩ | ⟨g, cap, cur, rfl, hb, hg, hn', _, hs, _⟩
    · exact ⟨none, 0, 0, rfl, by omega, .inl rfl⟩
    · exact ⟨_, _, _, rfl, hn, .inr ⟨g, cur, rfl, hb, hg, by rw [hs]; exact Nat.mul_le_mul_right _ hn'⟩⟩
theorem MutE.set {W : World} {B n : Nat} {v : Value} {us : List Value} {g j : Nat} {cs : Array Value} {x : Value} (h : MutE B v n us W) (hg : W.heap[g]? = some (.cells cs 43)) : MutE B v n us (W.setCell ⟨g, j, none⟩ x) := by
  refine ⟨h.row.imp id ?_, fun i u hu => ?_⟩
  · rintro ⟨g', cs', cap, e, hb, hg', hr⟩
    exact ⟨g', cs', cap, e, hb, heap_setT hg' hg (fun c e => by cases e), hr⟩
  · obtain ⟨a, n, c, e, hn, hd⟩ := h.dl i u hu
    refine ⟨a, n, c, e, hn, hd.imp id ?_⟩
    rintro ⟨g', cs', ea, hb, hg', hs⟩
    by_cases hgg : g' = g
    · subst hgg
      rw [hg] at hg'
      cases hg'
      exact ⟨g', _, ea, hb, heap_setCell hg j x, by simpa using hs⟩
    · exact ⟨g', cs', ea, hb, (Below.heap_setCell W ⟨g, j, none⟩ x g' hgg).trans hg', hs⟩
theorem MutE.setQ {W : World} {B n : Nat} {v : Value} {us : List Value} {g i : Nat} {cs : Array Value} {x : Value} (h : MutE B v n us W) (hg : W.heap[g]? = some (.cells cs 41)) : MutE B v n us (W.setCell ⟨g, i * 2, none⟩ x) := by
  refine ⟨h.row.imp id ?_, fun k u hu => ?_⟩
  · rintro ⟨g', cs', cap, e, hb, hg', hs, hr⟩
    by_cases hgg : g' = g
    · subst hgg
      rw [hg] at hg'
      cases hg'
      refine ⟨g', _, cap, e, hb, heap_setCell hg (i * 2) x, by simpa using hs, fun k hk => ?_⟩
      obtain ⟨u, h1, h2⟩ := hr k hk
      exact ⟨u, h1, by rw [Array.getElem?_setIfInBounds_ne (by omega)]; exact h2⟩
    · exact ⟨g', cs', cap, e, hb, (Below.heap_setCell W ⟨g, i * 2, none⟩ x g' hgg).trans hg', hs, hr⟩
  · obtain ⟨a, n, c, e, hn, hd⟩ := h.dl k u hu
    refine ⟨a, n, c, e, hn, hd.imp id ?_⟩
    rintro ⟨g', cs', ea, hb, hg', hs⟩
    exact ⟨g', cs', ea, hb, heap_setT hg' hg (fun c e => by cases e), hs⟩
theorem MutE.below {W W' : World} {B n : Nat} {v : Value} {us : List Value} (h : MutE B v n us W) (hb : Below W.heap.size W W') : MutE B v n us W' := by
  refine ⟨h.row.imp id ?_, fun i u hu => ?_⟩
  · rintro ⟨g', cs', cap, e, hb', hg', hr⟩
    exact ⟨g', cs', cap, e, hb', (hb.block g' (EB.lt' hg')).trans hg', hr⟩
  · obtain ⟨a, n, c, e, hn, hd⟩ := h.dl i u hu
    refine ⟨a, n, c, e, hn, hd.imp id ?_⟩
    rintro ⟨g', cs', ea, hb', hg', hs⟩
    exact ⟨g', cs', ea, hb', (hb.block g' (EB.lt' hg')).trans hg', hs⟩
theorem MutE.at {W : World} {B n : Nat} {v : Value} {us : List Value} (h : MutE B v n us W) {i : Nat} (hi : i < n) : ∃ g cs cap u, v = .slice (some ⟨g, 0, none⟩) n cap ∧ us[i]? = some u ∧ W.cell? ⟨g, i * 2 + 1, none⟩ = some u ∧ B ≤ g ∧ W.heap[g]? = some (.cells cs 41) ∧ ∃ y, W.cell? ⟨g, i * 2, none⟩ = some y := by
  obtain ⟨g, cs, cap, e, hb, hg, hs, hr⟩ := h.row.resolve_left (by omega)
  obtain ⟨u, h1, h2⟩ := hr i hi
  have q1 := cell_of_row _ g (i * 2 + 1) _ _ (0, 0) hg
  have q0 := cell_of_row _ g (i * 2) _ _ (0, 0) hg
  rw [h2] at q1
  rw [Array.getElem?_eq_getElem (by omega)] at q0
  exact ⟨g, cs, cap, u, e, h1, q1, hb, hg, _, q0⟩
set_option maxRecDepth 20000 in
theorem open_msu {H : Type} {enc : TypeId × Value → H} {w : World} {spare : Nat → Bool} {held : Bool} {n : Nat} {cs : List Value} {x : DataW H × List MemPlace} (h : DataW.trod enc Tryd.prog w 0 spare held n 38 cs = some x) (hz : Rows.uptoBulk x.1 ≤ 1048576) :
    ∃ (m : MsD) (v : Value), cs = [.int .i64 m.k, .int .i64 m.b, .int .i64 m.c, .int .i64 m.s, .int .i64 m.r, .int .i64 m.y, v] ∧ RdD w v m.d ∧ m.d.length ≤ 1048576 ∧ ∀ o ∈ m.d, o.Sm := by
  obtain ⟨xs, m, _, hx, hl, _, hf⟩ := DataW.trod_struct Tryd.underlying38 h
  have h4 : Tryd.prog.cellsOf 38 = 7 := by kernel_rfl
  have c3 : Tryd.prog.cellsOf 3 = 1 := by kernel_rfl
  have c9 : Tryd.prog.cellsOf 33 = 1 := by kernel_rfl
  rw [h4] at hl
  have hxl : xs.length = 7 := by assumption
  match xs, hxl, cs, hl with
  | [y0, y1, y2, y3, y4, y5, y6], _, [v0, v1, v2, v3, v4, v5, v6], _ =>
    have g0 := hf 0 _ rfl
    have g1 := hf 1 _ rfl
    have g2 := hf 2 _ rfl
    have g3 := hf 3 _ rfl
    have g4 := hf 4 _ rfl
    have g5 := hf 5 _ rfl
    have g6 := hf 6 _ rfl
    simp [c3, c9] at g0 g1 g2 g3 g4 g5 g6
    obtain ⟨a0, e0, -, -⟩ := DataW.trod_int Tryd.underlying3 g0
    obtain ⟨a1, e1, -, -⟩ := DataW.trod_int Tryd.underlying3 g1
    obtain ⟨a2, e2, -, -⟩ := DataW.trod_int Tryd.underlying3 g2
    obtain ⟨a3, e3, -, -⟩ := DataW.trod_int Tryd.underlying3 g3
    obtain ⟨a4, e4, -, -⟩ := DataW.trod_int Tryd.underlying3 g4
    obtain ⟨a5, e5, -, -⟩ := DataW.trod_int Tryd.underlying3 g5
    simp at e0 e1 e2 e3 e4 e5
    have z6 : Rows.uptoBulk y6.1 ≤ 1048576 := by
      rw [hx] at hz
      simp only [List.map, Rows.uptoBulk, Rows.uptoBulkAll] at hz
      omega
    obtain ⟨A, rA, mA, oA⟩ := open_dlw g6 z6
    exact ⟨⟨a0, a1, a2, a3, a4, a5, A⟩, v6, by rw [e0, e1, e2, e3, e4, e5], rA, mA, oA⟩
end Go.Proofs.YtcdnlkhjlgaaoaaDoor
