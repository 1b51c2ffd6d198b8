/-
  Proved: a document and all that comes of it by edits, each with an origin that none of them has had, have an order (the law TraceEdits), where what comes in is of bulk at most 1048576.
-/
import Derived.Test.YtjimolafoihnpaaDoorTsM
import Derived.Test.YtjimolafoihnpaaDoorTsC
import Derived.Deep.RegionWith
import Derived.Test.YtjimolafoihnpaaDoorDpH
import Derived.Test.YtjimolafoihnpaaDoorRows
import Derived.ChangeOld
namespace Go.Proofs.YtjimolafoihnpaaDoor.traceEdits
open Go.ChangeShapes Go.WideShapes Go.ChangeAt Go.RowKit Go.PlainAid Go.Proofs.YtjimolafoihnpaaDoor.tc

/-- The documents so far. -/
structure Al (w W : World) (vl u : Value) (l0 : List RunD) (L : List (List RunD)) (R : List Value) : Prop where
  own : W.ownsRow w.heap.size 22 1 u L.length R
  doc : ∀ (j : Nat) (r : Value) (l : List RunD), R[j]? = some r → L[j]? = some l → RdN w r l ∨ W.ownsRow w.heap.size 44 4 r l.length (l.map cRn).flatten
  r0 : R[0]? = some vl
  z0 : L[0]? = some l0
theorem Al.below {w W W' : World} {vl u : Value} {l0 : List RunD} {L : List (List RunD)} {R : List Value} (h : Al w W vl u l0 L R) (hb : Below W.heap.size W W') : Al w W' vl u l0 L R :=
  { h with own := tc.own_below h.own hb, doc := fun j r l a b => (h.doc j r l a b).imp id (fun g => tc.own_below g hb) }
theorem Al.read {w W : World} {vl u : Value} {l0 : List RunD} {L : List (List RunD)} {R : List Value} (h : Al w W vl u l0 L R) (hb : Below w.heap.size w W) : tc.RdL W u L := by
  have hRl : R.length = L.length := by have := h.own.1; omega
  obtain ⟨a, k, rfl⟩ := own_form h.own
  have hk := (own_cap h.own).1
  refine ⟨a, k, rfl, hk, fun i l hi => ?_⟩
  have hiL := (List.getElem?_eq_some_iff.1 hi).1
  obtain ⟨r, hr⟩ : ∃ r, R[i]? = some r := ⟨_, List.getElem?_eq_getElem (by omega)⟩
  obtain ⟨g, k2, e, hg, -⟩ := h.own.form (by omega)
  injection e with e1 e2 e3
  subst e1
  have hc := h.own.cells (g := g) rfl i r hr
  rw [addr4, Nat.zero_add] at hc
  refine ⟨g, 0, r, rfl, World.block_lt_of_cell? _ _ hc, by rw [Nat.zero_add]; exact hc, ?_⟩
  rcases h.doc i r l hr hi with q | q
  · exact q.below hb
  · exact rdn_ownT q
theorem Al.app {w W W6 : World} {vl u v6 : Value} {l0 : List RunD} {L : List (List RunD)} {R : List Value} {X : List RunD} {a : Option Addr} {c : Nat} {o : Obj} (h : Al w W vl u l0 L R) (ho : W6.ownsRow w.heap.size 22 1 v6 (L.length + 1) (R ++ [.slice a X.length c])) (hg : (W.alloc o).grownBy W6 u.ownBlock) (hX : W.ownsRow w.heap.size 44 4 (.slice a X.length c) X.length (X.map cRn).flatten) :
    Al w W6 vl v6 l0 (L ++ [X]) (R ++ [.slice a X.length c]) ∧ Sm 44 W W6 := by
  have s6 : Sm 44 W W6 := (Sm.below (alloc_b W o)).trans (Sm.own (h.own.alloc o) hg (by decide))
  have hRl : R.length = L.length := by have := h.own.1; omega
  have hR0 : 0 < R.length := (List.getElem?_eq_some_iff.1 h.r0).1
  refine ⟨⟨by rw [List.length_append]; exact ho, fun j r x h1 h2 => ?_, by rw [List.getElem?_append_left hR0]; exact h.r0, by rw [List.getElem?_append_left (by omega)]; exact h.z0⟩, s6⟩
  by_cases hj : j < R.length
  · rw [List.getElem?_append_left hj] at h1
    rw [List.getElem?_append_left (by omega)] at h2
    exact (h.doc j r x h1 h2).imp id (fun g => own_sm g s6)
  · have hjn : j = R.length := by
      have := (List.getElem?_eq_some_iff.1 h1).1
      simp at this
      omega
    subst hjn
    rw [List.getElem?_append_right (Nat.le_refl _), Nat.sub_self] at h1
    rw [hRl, List.getElem?_append_right (Nat.le_refl _), Nat.sub_self] at h2
    injection h1 with h1
    injection h2 with h2
    subst h1 h2
    exact .inr (own_sm hX s6)
theorem orQ_no {l : List RunD} {c q : Int} (h : l.any (orQ c q) = false) : ∀ r ∈ l, ¬ (r.c = c ∧ r.q = q) := fun r hr ⟨e1, e2⟩ => by
  rw [List.any_eq_false] at h
  exact h r hr (by simp [orQ, e1, e2])
set_option maxRecDepth 20000 in
set_option maxHeartbeats 1600000 in
theorem walk (vl vd : Value) (l0 : List RunD) (Ds : List (List OpD)) (w : World) (hV : VS w) (r0 : RdN w vl l0) (hU : Up [l0]) (rd : RdDs w vd Ds) (hDl : Ds.length ≤ 1048576) (hDs : ∀ l ∈ Ds, SmO l 1048576) :
    Calls Tryd.prog 3 #[vl, vd] w fun e w' => e = .returned (.bool true) ∧ Below w.heap.size w w' := by
  obtain ⟨i1, hi1, hy0, hy1, hy2⟩ := info_parts infoRR
  obtain ⟨hl1, hl2⟩ := hU.row l0 (by simp)
  have cK := Go.Proofs.YtjimolafoihnpaaDoor.check_any vl l0 w hV r0 (by omega) (fun r hr => by have := (hl2 r hr).1; show _ ≤ _; omega)
  obtain ⟨a0, k0, e0, -⟩ := id r0
  subst e0
  obtain ⟨ad, kd, e1, -, hds⟩ := id rd
  subst e1
  by_cases hg : Good l0
  · rw [ckR_zero.2 hg] at cK
    go_enter Tryd.func3, Tryd.ntmps3
    go_wp2_with fail
    refine cK.mono ?_
    rintro e w1 ⟨rfl, q1⟩
    go_wp2_with fail
    refine (live24_any _).mono ?_
    rintro e w2 ⟨rfl, q2⟩
    have hb2 := chain q1 q2
    have hAl : Al w (w2.alloc (.cells #[.slice a0 l0.length k0] 22)) (.slice a0 l0.length k0) (.slice (some ⟨w2.heap.size, 0, none⟩) 1 1) l0 [l0] [.slice a0 l0.length k0] :=
      ⟨World.ownsRow_lit w2 #[.slice a0 l0.length k0] 1 hb2.size (by decide) rfl, fun j r l h1 h2 => by
        cases j with
        | zero =>
          injection h1 with h1
          injection h2 with h2
          subst h1 h2
          exact .inl r0
        | succ j => simp at h1, rfl, rfl⟩
    have hb3 := chain hb2 (alloc_b w2 (.cells #[.slice a0 l0.length k0] 22))
    clear cK q1 q2
    go_upto_region 4 with fail
    generalize w2.alloc (.cells #[.slice a0 l0.length k0] 22) = w3 at *
    go_wp2_with fail
    go_loopw [0, 5, 6] (fun lv av iv wr => ∃ (i : Nat) (L : List (List RunD)) (s : List AtK) (l : List RunD) (R : List Value) (al aa : Option Addr) (kl ka : Nat), i ≤ Ds.length ∧ i ≤ 12 ∧ lv = .slice al l.length kl ∧ av = .slice aa L.length ka ∧ iv = .int .i64 (i : Int) ∧ Hid (Ed L s l0 l i) ∧ Hid (L.length ≤ i + 1) ∧ Al w wr (.slice a0 l0.length k0) (.slice aa L.length ka) l0 L R ∧ (RdN w (.slice al l.length kl) l ∨ wr.ownsRow w.heap.size 44 4 (.slice al l.length kl) l.length (l.map cRn).flatten) ∧ Below w.heap.size w wr) (fun _ _ iv _ => Ds.length - (Go.RowKit.intOf iv).toNat)
    case atStart => exact ⟨0, [l0], _, l0, _, _, _, _, _, by omega, by omega, rfl, rfl, rfl, Ed.start hg, by show _ ≤ _; simp, hAl, .inl r0, hb3⟩
    case round =>
      obtain ⟨i, L, s, l, R, al, aa, kl, ka, hi, hi12, rfl, rfl, rfl, HE, HL, hA, hlv, hb⟩ := hrel
      clear hAl hb3 hb2
      by_cases hc : i < Ds.length ∧ i < 12
      · obtain ⟨hlt, h12⟩ := hc
        have hlt' : (i : Int) < (Ds.length : Int) := by omega
        have h12' : (i : Int) < 12 := by omega
        have hgl := HE.out.good l HE.out.last
        have hgb := tc.good_row hgl
        obtain ⟨q, HQ⟩ : ∃ q : Int, Hid (q = 90000 + (i : Int)) := ⟨_, rfl⟩
        have hO7 : OB (wr.alloc (.cells #[.int .i64 8, .int .i64 q] 29)) wr.heap.size 8 q := heap_alloc_new wr _
        have q7 := alloc_b wr (.cells #[.int .i64 8, .int .i64 q] 29)
        have hb7 := chain hb q7
        have hA7 := hA.below q7
        have hlv7 : RdN w (.slice al l.length kl) l ∨ (wr.alloc (.cells #[.int .i64 8, .int .i64 q] 29)).ownsRow w.heap.size 44 4 (.slice al l.length kl) l.length (l.map cRn).flatten := hlv.imp id (fun g => tc.own_below g q7)
        obtain ⟨p, hp⟩ : ∃ p, Hid (p = wr.heap.size) := ⟨_, rfl⟩
        clear hA hlv hb
        go_upto_region 8 with fail
        rw [← HQ.out, ← hp.out]
        rw [← hp.out] at hO7
        generalize wr.alloc (.cells #[.int .i64 8, .int .i64 q] 29) = w7 at *
        clear q7
        have hrl : RdN w7 (.slice al l.length kl) l := hlv7.elim (fun g => g.below hb7) rdn_ownT
        have cH1 := fun x : Beh w7 => had_any (.slice al l.length kl) l 8 q x.it (hrl.below x.h) hgb.1
        have cH0 := fun x : Beh w7 => had_any (.slice a0 l0.length k0) l0 8 q x.it (r0.below (chain hb7 x.h)) hl1
        obtain ⟨o0, o1, -, -⟩ := hO7.facts
        have hpl := heap_lt hO7
        have d2 : ∀ x : Beh w7, x.it.cell? ⟨p, 0, none⟩ = some (.int .i64 8) := fun x => (x.h.cell (p := ⟨p, 0, none⟩) hpl).trans o0
        have d3 : ∀ x : Beh w7, x.it.cell? ⟨p, 1, none⟩ = some (.int .i64 q) := fun x => (x.h.cell (p := ⟨p, 1, none⟩) hpl).trans o1
        have hL0 : 0 < L.length := (List.getElem?_eq_some_iff.1 hA7.z0).1
        obtain ⟨ga, ka2, ea, -⟩ := hA7.own.form hL0
        injection ea with ea1 ea2 ea3
        subst ea1 ea3
        have ca := hA7.own.cells (g := ga) rfl 0 _ hA7.r0
        rw [addr4, Nat.zero_add] at ca
        have hga := World.block_lt_of_cell? _ _ ca
        have d4 : ∀ x : Beh w7, x.it.cell? ⟨ga, 0, none⟩ = some (.slice a0 l0.length k0) := fun x => (x.h.cell (p := ⟨ga, 0, none⟩) hga).trans ca
        have hL0' : (0 : Int) < (L.length : Int) := by omega
        have Hskip : Hid (Ed L s l0 l (i + 1)) := HE.out.skip
        have HL2 : Hid (L.length ≤ i + 1 + 1) := Nat.le_succ_of_le HL.out
        clear o0 o1 ca
        cases hb1 : l.any (orQ 8 q) with
        | true =>
          rw [hb1] at cH1
          refine wp_region_beh (by kernel_rfl) (by kernel_rfl) ?_
          repeat (go_big_quiet_step ((go_at_call 7; exact Beh.call (cH1 _))))
          refine wpQuiet_nil ?_
          intro wq hw'
          have hwq := Beh.out hw'
          clear hw' d2 d3 d4 cH1 cH0
          go_wp2_with fail
          exact ⟨⟨i + 1, L, s, l, R, al, _, kl, ka, by omega, by omega, rfl, rfl, by go_num, Hskip, HL2, hA7.below hwq, hlv7.imp id (fun g => tc.own_below g hwq), chain hb7 hwq⟩, by simp [Go.RowKit.intOf]; omega⟩
        | false =>
          rw [hb1] at cH1
          have cH : ∀ (x : Beh w7) (v : Value) (b : Bool), (v = .slice al l.length kl ∧ b = false) ∨ (v = .slice a0 l0.length k0 ∧ b = l0.any (orQ 8 q)) → Calls Tryd.prog 7 #[v, .agg #[.int .i64 8, .int .i64 q]] x.it fun e w' => e = .returned (.bool b) ∧ Below x.it.heap.size x.it w' := fun x v b h => by
            rcases h with ⟨rfl, rfl⟩ | ⟨rfl, rfl⟩
            · exact cH1 x
            · exact cH0 x
          clear cH1 cH0
          cases hb0 : l0.any (orQ 8 q) with
          | true =>
            rw [hb0] at cH
            refine wp_region_beh (by kernel_rfl) (by kernel_rfl) ?_
            repeat (go_big_quiet_step ((go_at_call 7; exact Beh.call (cH _ _ _ (by first | exact .inl ⟨rfl, rfl⟩ | exact .inr ⟨rfl, rfl⟩)))))
            refine wpQuiet_nil ?_
            intro wq hw'
            have hwq := Beh.out hw'
            clear hw' d2 d3 d4 cH
            go_wp2_with fail
            exact ⟨⟨i + 1, L, s, l, R, al, _, kl, ka, by omega, by omega, rfl, rfl, by go_num, Hskip, HL2, hA7.below hwq, hlv7.imp id (fun g => tc.own_below g hwq), chain hb7 hwq⟩, by simp [Go.RowKit.intOf]; omega⟩
          | false =>
            rw [hb0] at cH
            refine wp_region_beh (by kernel_rfl) (by kernel_rfl) ?_
            repeat (go_big_quiet_step ((go_at_call 7; exact Beh.call (cH _ _ _ (by first | exact .inl ⟨rfl, rfl⟩ | exact .inr ⟨rfl, rfl⟩)))))
            refine wpQuiet_nil ?_
            intro wq hw'
            have hwq := Beh.out hw'
            clear hw' d2 d3 d4 cH
            have hb8 := chain hb7 hwq
            have hA8 := hA7.below hwq
            have hlv8 : RdN w (.slice al l.length kl) l ∨ wq.ownsRow w.heap.size 44 4 (.slice al l.length kl) l.length (l.map cRn).flatten := hlv7.imp id (fun g => tc.own_below g hwq)
            replace hrl := hrl.below hwq
            have hO8 := hO7.below hwq
            obtain ⟨e0, e1, -, -⟩ := hO8.facts
            clear hA7 hlv7 hO7 hwq hb7 hpl
            have hDi : Ds[i]? = some Ds[i] := List.getElem?_eq_getElem hlt
            obtain ⟨gd, od, ud, rfl, hgd, cd, hrd⟩ := hds i _ hDi
            obtain ⟨hs1, hs2⟩ := hDs _ (List.getElem_mem hlt)
            have cd2 := (hb8.cell (p := ⟨gd, od + i, none⟩) hgd).trans cd
            have hIn : ∀ o ∈ Ds[i], o.In := fun o ho => by have := hs2 o ho; unfold OpD.In; omega
            have hno := orQ_no hb0
            have HS : Hid (dcE l Ds[i] 8 q = 0 → ∃ s', Ed (L ++ [dcL l Ds[i] 8 q]) s' l0 (dcL l Ds[i] 8 q) (i + 1)) := fun h => HE.out.step HQ.out hIn h hno
            have cA := fun W (hW : Below wq.heap.size wq W) => docApply_any (.slice al l.length kl) ud l Ds[i] 8 q W (hV.below (chain hb8 hW)) (hrl.below hW) (by omega) (fun r hr => by have := (hgb.2 r hr).1; show _ ≤ _; omega) (hrd.below (chain hb8 hW)) (by unfold maxLen; omega) hIn
            obtain ⟨au, ku, eu, -⟩ := id hrd
            subst eu
            clear hds hDi cd hrd hs1 hs2 hIn hno hDs hV HE
            generalize Ds[i] = ds at *
            generalize dcE l ds 8 q = E at *
            generalize dcL l ds 8 q = N at *
            go_upto_region 9 with fail
            go_cut [8, 9] (fun u ev wx => ∃ (an : Option Addr) (kn : Nat), u = .slice an N.length kn ∧ ev = .int .i64 E ∧ wx.ownsRow w.heap.size 44 4 (.slice an N.length kn) N.length (N.map cRn).flatten ∧ Below wq.heap.size wq wx)
            case first =>
              go_region_with (go_at_call 8; refine (cA _ (Below.drew (Below.refl _ wq))).mono ?_; rintro e w9 ⟨un, rfl, on, hb9⟩; have hb9 := chain (Below.drew (Below.refl _ wq)) hb9; obtain ⟨an, kn, rfl⟩ := own_form on)
              all_goals
                go_wp2_with fail
                go_meet
                exact ⟨an, kn, rfl, rfl, own_mono on hb8.size, hb9⟩
            case rest =>
              obtain ⟨an, kn, rfl, rfl, on, hb9⟩ := hcut
              generalize wc = w9 at *
              have hb10 := chain hb8 hb9
              have hA9 := hA8.below hb9
              have hlv9 : RdN w (.slice al l.length kl) l ∨ w9.ownsRow w.heap.size 44 4 (.slice al l.length kl) l.length (l.map cRn).flatten := hlv8.imp id (fun g => tc.own_below g hb9)
              clear hA8 hlv8 hrl hO8 e0 e1 cd2 cA hb9 hb8
              by_cases h0 : E = 0
              · subst h0
                obtain ⟨s', HE'⟩ := HS.out rfl
                have HE2 : Hid (Ed (L ++ [N]) s' l0 N (i + 1)) := HE'
                have HL3 : Hid ((L ++ [N]).length ≤ i + 1 + 1) := by
                  show _ ≤ _
                  have := HL.out
                  simp
                  omega
                clear HS HE' Hskip HL2 hlv9
                have hAo := hA9.own
                have hbs := hb10.size
                have hLs : L.length ≤ 100 := by have := HL.out; omega
                clear HL
                go_wp2_with (at_builtin; refine wpList_append_own _ rfl (.tmp 61) (.tmp 63) 27 rfl w.heap.size 22 i1 (.slice none 0 0) 1 24 Tryd.underlying27 hi1 hy0 hy1 hy2 rfl (by decide) (.slice (some ⟨ga, 0, none⟩) L.length ka) L.length R rfl (hAo.alloc _) ⟨w9.heap.size, 0, none⟩ 1 1 [.slice an N.length kn] rfl rfl (World.news_of_block (heap_alloc_new w9 _)) (by simp [Value.oneCell']) (by unfold maxLen; omega) (by omega) (by simp; omega) ?_; intro v6 w6 ho6 hg6 _)
                have hRl : R.length = L.length := by have := hAo.1; omega
                have hb6 := (hb10.alloc hbs _).grown hg6 (by simp; omega) (fun j hj => (hAo.lt j hj).1)
                obtain ⟨hA6, s6⟩ := hA9.app ho6 hg6 on
                have on6 := own_sm on s6
                obtain ⟨a6, k6, e6⟩ := own_form ho6
                subst e6
                have el : L.length + 1 = (L ++ [N]).length := by simp
                rw [el] at hA6
                refine ⟨⟨i + 1, L ++ [N], s', N, _, an, a6, kn, k6, by omega, by omega, rfl, by rw [el], by go_num, HE2, HL3, hA6, .inr on6, hb6⟩, by simp [Go.RowKit.intOf]; omega⟩
              · have h0' : (E == 0) = false := beq_eq_false_iff_ne.2 h0
                clear HS
                go_wp2_with fail
                exact ⟨⟨i + 1, L, s, l, R, al, _, kl, ka, by omega, by omega, rfl, rfl, by go_num, Hskip, HL2, hA9, hlv9, hb10⟩, by simp [Go.RowKit.intOf]; omega⟩
      · have hAr := hA.read hb
        have hU2 := good_up HE.out.good (by have := HL.out; omega)
        have hokL := HE.out.ok
        have hfin := ok_fine hokL
        have cC := tc.check_any _ L _ hAr hU2.len hU2.row hU2.atoms
        obtain ⟨F, sE, hM, hE1, hE2, hO⟩ := ord_is hU2
        have hNm : (nmA (aTs L)).length ≤ 1048576 := Nat.le_trans (nmA_len _) hU2.atoms
        have cO := fun W (hW : Below wr.heap.size wr W) => order_any _ L F sE W (hAr.below hW) hU2.len hU2.row hU2.atoms hM (by omega) hE2
        obtain ⟨P, hP, hOr, hrl, hord⟩ : ∃ P, PtI (nmA (aTs L)).length (dcs L).flatten P ∧ OrdN (dcs L) sE.row ∧ sE.row.length = (nmA (aTs L)).length ∧ ordO (dcs L) (nmA (aTs L)) sE.row = some (rns (nmA (aTs L)) P sE.row) := by
          rcases hO with ⟨-, h2⟩ | ⟨P, h1, h2, h3, h4, -⟩
          · exact absurd hokL h2
          · exact ⟨P, h1, h2, h3, h4⟩
        have hR := rw_ok HE.out.good (by have := HL.out; omega) hP hOr hrl hE2 hokL
        rw [hord] at cO
        simp only [Option.isSome_some, Option.getD_some] at cO
        generalize rns (nmA (aTs L)) P sE.row = R9 at *
        have htst : (¬ (i : Int) < (Ds.length : Int) ∧ decide ((i : Int) < (Ds.length : Int)) = false) ∨ ((i : Int) < (Ds.length : Int) ∧ ¬ (i : Int) < 12 ∧ decide ((i : Int) < 12) = false) := by
          by_cases h1 : i < Ds.length
          · exact .inr ⟨by omega, by omega, decide_eq_false (by omega)⟩
          · exact .inl ⟨by omega, decide_eq_false (by omega)⟩
        clear hO hM hE1 hE2 hNm hord hP hOr hrl hc hV hds hDs hA hlv HE
        rcases htst with ⟨h1, h2⟩ | ⟨h1, h2, h3⟩
        all_goals
          go_wp2_with fail
          refine cC.mono ?_
          rintro e w5 ⟨i5, j5, fine, rfl, hc5, q5⟩
          obtain rfl : fine = true := (chk_fine hc5).2 hfin
          have hb5 := chain hb q5
          clear cC hc5
          go_wp2_with fail
          refine (cO _ q5).mono ?_
          rintro e w6 ⟨uo, rfl, ho6, q6⟩
          obtain ⟨ao, ko, rfl⟩ := own_form ho6
          have rR := rdn_ownT ho6
          have q56 := chain q5 q6
          have cRt := right_any _ _ L R9 w6 (hAr.below q56) rR hU2.len (fun l hl => ⟨(hU2.row l hl).1, fun r hr => ((hU2.row l hl).2 r hr).1⟩) hU2.atoms hR.len hR.small hR.can hR.at_ hR.ats hR.one hR.num hR.sub hR.z hR.all
          clear cO ho6
          go_wp2_with fail
          refine cRt.mono ?_
          rintro e w7 ⟨rfl, q7⟩
          go_wp2_with fail
          go_ret
          exact ⟨rfl, chain (chain hb q56) q7⟩
  · have h0 : ckR l0 ≠ 0 := fun q => hg (ckR_zero.1 q)
    have h' : (ckR l0 != 0) = true := by simpa using h0
    generalize ckR l0 = E at *
    go_enter Tryd.func3, Tryd.ntmps3
    go_wp2_with fail
    refine cK.mono ?_
    rintro e w1 ⟨rfl, q1⟩
    go_wp2_with fail
    refine (live24_any _).mono ?_
    rintro e w2 ⟨rfl, q2⟩
    go_wp2_with fail
    go_ret
    exact ⟨rfl, chain q1 q2⟩

theorem own : ownKnob Tryd.prog.godebug = none := by kernel_rfl
theorem laidOut : laidOutB Tryd.prog = true := by kernel_rfl

set_option maxRecDepth 20000 in
theorem contract (H : Type) (enc : TypeId × Value → H) (W : World) (base : Nat) (args : Array Value) (ds gs : List (DataW H)) (before : List MemPlace)
    (hval : ∀ (j : Nat) t v, Tryd.f3.params[j]? = some t → args[j]? = some v → Value.okWide Tryd.prog W .any base t v)
    (hW : DataW.Whole enc Tryd.prog Tryd.f3.params.toList Rows.traceEditsSpec.vars false W args.toList ds gs before) (hk : Rows.uptoSmall H (ds ++ gs) = true) (hL : laidMetH Tryd.prog Rows.traceEditsUptoRow.laid W) :
    Calls Tryd.prog 3 args W fun e W' => ∃ v, e = .returned v ∧ Rows.traceEditsSpec.post enc Tryd.prog Tryd.f3 false true false false W args v W' := by
  have hW' := hW
  obtain ⟨p, q, hA0, hV, rfl, hfz, hnd⟩ := hW
  have hA : DataW.TrodAll enc Tryd.prog W 0 (fun _ => true) true Tryd.f3.params.toList args.toList ds p := hA0
  rw [Tryd.params3] at hA hval
  obtain ⟨v0, vs0, d0, ds0, p0, q0, hargs, rfl, rfl, h0, r0⟩ := trodAll_cons hA
  obtain ⟨v1, vs1, d1, ds1, p1, q1, rfl, rfl, rfl, h1, r1⟩ := trodAll_cons r0
  obtain ⟨rfl, rfl, rfl⟩ := trodAll_nil r1
  obtain rfl : args = #[v0, v1] := by cases args; simp_all
  obtain ⟨rfl, rfl⟩ := trodVars_none hV
  have k0 := h0
  have lt0 : ∀ x ∈ p0, x.block < W.heap.size := by obtain ⟨m, hm⟩ := k0; exact DataW.trod_lt m _ _ _ hm
  have k1 := h1
  have lt1 : ∀ x ∈ p1, x.block < W.heap.size := by obtain ⟨m, hm⟩ := k1; exact DataW.trod_lt m _ _ _ hm
  have b0 : Rows.uptoBulk d0 ≤ 1048576 := up_mem hk (by simp)
  have b1 : Rows.uptoBulk d1 ≤ 1048576 := up_mem hk (by simp)
  obtain ⟨a0, len0, cap0, rfl⟩ := okWide_slice Tryd.underlying22 (hval 0 22 v0 rfl rfl)
  obtain ⟨fuel0, hf0⟩ := h0
  obtain ⟨l0, ⟨u0, e0, rd0, bd0⟩, kd0⟩ := open_doc hf0
  obtain ⟨a1, len1, cap1, rfl⟩ := okWide_slice Tryd.underlying23 (hval 1 23 v1 rfl rfl)
  obtain ⟨fuel1, hf1⟩ := h1
  obtain ⟨l1, rd1, ln1, sm1⟩ := open_dls (v := .slice a1 len1 cap1) hf1 b1
  obtain rfl : .slice a0 len0 cap0 = u0 := by simpa [Value.cells] using e0
  have hU : Up [l0] := up_of (fun l hl => by
    obtain rfl := List.mem_singleton.1 hl
    exact bd0) (by
    change _ ≤ Rows.uptoBulk d0 at kd0
    simp only [List.map_cons, List.map_nil, List.sum_cons, List.sum_nil]
    omega)
  clear hA0
  simp only [List.append_nil] at hW'
  refine (walk _ _ l0 l1 W (vs_of (tabs_of hL)) rd0 hU rd1 ln1 sm1).mono fun e W' ⟨he, bel⟩ => ?_
  subst he
  exact ⟨_, rfl, _, _, _, [], _, [], hW', trodAll_mk1 (shut_bool Tryd.underlying4 _), (trodAll_cons_mk (Below.trod laidOut (by kernel_rfl) (of_decide_eq_true (by kernel_rfl)) k0 bel lt0) (trodAll_cons_mk (Below.trod laidOut (by kernel_rfl) (of_decide_eq_true (by kernel_rfl)) k1 bel lt1) trodAll_mk0)), rfl, bel.frame _, fun h => by cases h⟩

set_option maxRecDepth 100000 in
theorem laid_met (os : Os) : laidMet Tryd.prog Rows.traceEditsUptoRow.laid ((laidWorld os).forCall (fun _ _ => 0) ⟨#[], #[.slice none 0 0, .slice none 0 0], []⟩).memory :=
  (LaidIn.of_run (l := Rows.traceEditsUptoRow.laid) [1, 0] 8 (by kernel_rfl) (by kernel_rfl) (by kernel_rfl) (by kernel_rfl)).met
theorem reads (os : Os) {H : Type} (enc : TypeId × Value → H) : ∃ places, DataW.whole enc Tryd.prog ((laidWorld os).forCall (fun _ _ => 0) ⟨#[], #[.slice none 0 0, .slice none 0 0], []⟩).memory Tryd.f3.params.toList Rows.traceEditsSpec.vars false (#[.slice none 0 0, .slice none 0 0] : Array Value).toList 8 = some ([.nil, .nil], [], places) :=
  ⟨[], by kernel_rfl⟩
set_option maxRecDepth 100000 in
theorem lifted (os : Os) (started : os.Started) (H : Type) (enc : TypeId × Value → H) (F : Stop.Interp) :
    ReturnsInHanded {} Tryd.checked os 3 .any ((Rows.OpenSpec.upto Rows.traceEditsSpec).preRow enc Tryd.prog Tryd.f3 Rows.traceEditsUptoRow.domain false Rows.traceEditsUptoRow.laid) (((Rows.OpenSpec.upto Rows.traceEditsSpec).at F).post enc Tryd.prog Tryd.f3 false true false false) := by
  obtain ⟨places, hx⟩ := reads os enc
  refine returnsInHanded_of_row (C := Tryd.checked) (s := Rows.OpenSpec.upto Rows.traceEditsSpec) own started (by kernel_rfl) Tryd.func3
    (witness_row_atRef (enc := enc) (C := Tryd.checked) false (laidWorld os) #[.slice none 0 0, .slice none 0 0] rfl (by kernel_rfl) (by kernel_rfl) (by kernel_rfl)
      (OpenSpec.preRow_of_cond 8 hx (by kernel_rfl) (fun k hk => by cases hk; kernel_rfl) (by kernel_rfl) (laid_met os))) ?_
  intro W base args ds gs before hval hW _ hcond _ hL _ _
  exact contract H enc W base args ds gs before hval hW (hcond _ rfl) hL

theorem holds : Rows.TraceEditsUptoSaid :=
  OpenClaim.holds_of_cond 3 Tryd.f3 rfl rfl rfl rfl rfl rfl rfl ⟨rfl, rfl, rfl, rfl, rfl⟩ rfl rfl rfl rfl rfl (by kernel_rfl) Tryd.func3 (by kernel_rfl)
    (of_decide_eq_true (by kernel_rfl)) (by unfold Func.isWrapper; first | (rw [if_pos (by decide +kernel)]; kernel_rfl) | (rw [if_neg (by decide +kernel)]; exact ⟨rfl, rfl⟩))
    (fun os started H enc _ F => by rw [OpenClaim.pre_eq_preRow]; exact lifted os started H enc F)
theorem plain (f : FuncId) (fn : Func) (hf : Tryd.pinned.checked.prog.funcNamed "oxbow/oxbowlaw24.TraceEdits" = some f) (hfn : Tryd.pinned.checked.prog.funcs[f]? = some fn) :
    true = Tryd.pinned.checked.prog.looks [] ∧ ∀ (j : Nat) t, fn.params[j]? = some t → Tryd.pinned.checked.prog.wantsStandIn t = false := by
  obtain rfl : f = 3 := Option.some.inj ((show Tryd.prog.funcNamed "oxbow/oxbowlaw24.TraceEdits" = some 3 by kernel_rfl).symm.trans hf) |>.symm
  obtain rfl : fn = Tryd.f3 := (Option.some.inj (Tryd.func3.symm.trans hfn)).symm
  refine ⟨by kernel_rfl, fun j t ht => ?_⟩
  rw [Tryd.params3] at ht
  have hm := Array.mem_of_getElem? ht
  have h2 : t = 22 ∨ t = 23 := by simpa using hm
  rcases h2 with rfl | rfl
  · exact (show Tryd.prog.wantsStandIn 22 = false by kernel_rfl)
  · exact (show Tryd.prog.wantsStandIn 23 = false by kernel_rfl)
theorem card : Rows.TraceEditsUptoCardSaid :=
  Claim7.holds_tied_plain_at .later [] _ _ _ _ holds (fun _ h => by cases h) (by kernel_rfl) (fun _ h => by cases h) traceEditsUpto_row_tie rfl ⟨rfl, rfl⟩ (by kernel_rfl) rfl plain (by kernel_rfl)
end Go.Proofs.YtjimolafoihnpaaDoor.traceEdits
namespace Go.Proofs.YtjimolafoihnpaaDoor
theorem traceEdits_holds : Rows.TraceEditsUptoCardSaid := traceEdits.card
#print axioms traceEdits_holds
end Go.Proofs.YtjimolafoihnpaaDoor
