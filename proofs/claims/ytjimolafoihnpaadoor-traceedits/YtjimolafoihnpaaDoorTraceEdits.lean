/-
  Proved: a document and all that comes of it by edits, each with an origin that none of them has had, have an order (the law TraceEdits).
-/
import Derived.Test.YtjimolafoihnpaaDoorTsM
import Derived.Test.YtjimolafoihnpaaDoorTsC
import Derived.Deep.RegionWith
import Derived.Test.YtjimolafoihnpaaDoorDpH
import Derived.Test.YtjimolafoihnpaaDoorRows
import Derived.ChangeOld
namespace Go.Proofs.YtjimolafoihnpaaDoor.traceEdits
open Go.ChangeShapes Go.WideShapes Go.ChangeAt Go.RowKit Go.PlainAid Go.Proofs.YtjimolafoihnpaaDoor.tc

/-- The documents so far. -/
structure Al (w W : World) (vl u : Value) (l0 : List RunD) (L : List (List RunD)) (R : List Value) : Prop where
  own : W.ownsRow w.heap.size 22 1 u L.length R
  doc : ∀ (j : Nat) (r : Value) (l : List RunD), R[j]? = some r → L[j]? = some l → RdN w r l ∨ W.ownsRow w.heap.size 44 4 r l.length (l.map cRn).flatten
  r0 : R[0]? = some vl
  z0 : L[0]? = some l0
theorem Al.below {w W W' : World} {vl u : Value} {l0 : List RunD} {L : List (List RunD)} {R : List Value} (h : Al w W vl u l0 L R) (hb : Below W.heap.size W W') : Al w W' vl u l0 L R :=
  { h with own := tc.own_below h.own hb, doc := fun j r l a b => (h.doc j r l a b).imp id (fun g => tc.own_below g hb) }
theorem Al.read {w W : World} {vl u : Value} {l0 : List RunD} {L : List (List RunD)} {R : List Value} (h : Al w W vl u l0 L R) (hb : Below w.heap.size w W) : tc.RdL W u L := by
  have hRl : R.length = L.length := by have := h.own.1; omega
  obtain ⟨a, k, rfl⟩ := own_form h.own
  have hk := (own_cap h.own).1
  refine ⟨a, k, rfl, hk, fun i l hi => ?_⟩
  have hiL := (List.getElem?_eq_some_iff.1 hi).1
  obtain ⟨r, hr⟩ : ∃ r, R[i]? = some r := ⟨_, List.getElem?_eq_getElem (by omega)⟩
  obtain ⟨g, k2, e, hg, -⟩ := h.own.form (by omega)
  injection e with e1 e2 e3
  subst e1
  have hc := h.own.cells (g := g) rfl i r hr
  rw [addr4, Nat.zero_add] at hc
  refine ⟨g, 0, r, rfl, World.block_lt_of_cell? _ _ hc, by rw [Nat.zero_add]; exact hc, ?_⟩
  rcases h.doc i r l hr hi with q | q
  · exact q.below hb
  · exact rdn_ownT q
theorem Al.app {w W W6 : World} {vl u v6 : Value} {l0 : List RunD} {L : List (List RunD)} {R : List Value} {X : List RunD} {a : Option Addr} {c : Nat} {o : Obj} (h : Al w W vl u l0 L R) (ho : W6.ownsRow w.heap.size 22 1 v6 (L.length + 1) (R ++ [.slice a X.length c])) (hg : (W.alloc o).grownBy W6 u.ownBlock) (hX : W.ownsRow w.heap.size 44 4 (.slice a X.length c) X.length (X.map cRn).flatten) :
    Al w W6 vl v6 l0 (L ++ [X]) (R ++ [.slice a X.length c]) ∧ Sm 44 W W6 := by
  have s6 : Sm 44 W W6 := (Sm.below (alloc_b W o)).trans (Sm.own (h.own.alloc o) hg (by decide))
  have hRl : R.length = L.length := by have := h.own.1; omega
  have hR0 : 0 < R.length := (List.getElem?_eq_some_iff.1 h.r0).1
  refine ⟨⟨by rw [List.length_append]; exact ho, fun j r x h1 h2 => ?_, by rw [List.getElem?_append_left hR0]; exact h.r0, by rw [List.getElem?_append_left (by omega)]; exact h.z0⟩, s6⟩
  by_cases hj : j < R.length
  · rw [List.getElem?_append_left hj] at h1
    rw [List.getElem?_append_left (by omega)] at h2
    exact (h.doc j r x h1 h2).imp id (fun g => own_sm g s6)
  · have hjn : j = R.length := by
      have := (List.getElem?_eq_some_iff.1 h1).1
      simp at this
      omega
    subst hjn
    rw [List.getElem?_append_right (Nat.le_refl _), Nat.sub_self] at h1
    rw [hRl, List.getElem?_append_right (Nat.le_refl _), Nat.sub_self] at h2
    injection h1 with h1
    injection h2 with h2
    subst h1 h2
    exact .inr (own_sm hX s6)
theorem orQ_no {l : List RunD} {c q : Int} (h : l.any (orQ c q) = false) : ∀ r ∈ l, ¬ (r.c = c ∧ r.q = q) := fun r hr ⟨e1, e2⟩ => by
  rw [List.any_eq_false] at h
  exact h r hr (by simp [orQ, e1, e2])
set_option maxRecDepth 20000 in
set_option maxHeartbeats 1600000 in
theorem walk (vl vd : Value) (l0 : List RunD) (Ds : List (List OpD)) (w : World) (hV : VS w) (r0 : RdN w vl l0) (h0l : l0.length ≤ 1125899906842624) (h0i : ∀ r ∈ l0, r.In) (rd : RdDs w vd Ds) (hDl : Ds.length ≤ 6000000000000) (hDs : ∀ l ∈ Ds, l.length ≤ 4398046511104 ∧ ∀ o ∈ l, o.In) :
    Calls Tryd.prog 3 #[vl, vd] w fun e w' => e = .returned (.bool true) ∧ Below w.heap.size w w' := by
  obtain ⟨i1, hi1, hy0, hy1, hy2⟩ := info_parts infoRR
  have cK := Go.Proofs.YtjimolafoihnpaaDoor.check_any vl l0 w hV r0 h0l h0i
  obtain ⟨a0, k0, e0, -⟩ := id r0
  subst e0
  obtain ⟨ad, kd, e1, -, hds⟩ := id rd
  subst e1
  by_cases hg : Good l0
  · rw [ckR_zero.2 hg] at cK
    have hl1 := (tc.good_row hg).1
    clear h0l h0i
    go_enter Tryd.func3, Tryd.ntmps3
    go_wp2_with fail
    refine cK.mono ?_
    rintro e w1 ⟨rfl, q1⟩
    go_wp2_with fail
    refine (live24_any _).mono ?_
    rintro e w2 ⟨rfl, q2⟩
    have hb2 := chain q1 q2
    have hAl : Al w (w2.alloc (.cells #[.slice a0 l0.length k0] 22)) (.slice a0 l0.length k0) (.slice (some ⟨w2.heap.size, 0, none⟩) 1 1) l0 [l0] [.slice a0 l0.length k0] :=
      ⟨World.ownsRow_lit w2 #[.slice a0 l0.length k0] 1 hb2.size (by decide) rfl, fun j r l h1 h2 => by
        cases j with
        | zero =>
          injection h1 with h1
          injection h2 with h2
          subst h1 h2
          exact .inl r0
        | succ j => simp at h1, rfl, rfl⟩
    have hb3 := chain hb2 (alloc_b w2 (.cells #[.slice a0 l0.length k0] 22))
    clear cK q1 q2
    go_upto_region 4 with fail
    generalize w2.alloc (.cells #[.slice a0 l0.length k0] 22) = w3 at *
    go_wp2_with fail
    go_loopw [0, 5, 6] (fun lv av iv wr => ∃ (i : Nat) (L : List (List RunD)) (s : List AtK) (l : List RunD) (R : List Value) (al aa : Option Addr) (kl ka : Nat), i ≤ Ds.length ∧ i ≤ 12 ∧ lv = .slice al l.length kl ∧ av = .slice aa L.length ka ∧ iv = .int .i64 (i : Int) ∧ Hid (Ed L s l0 l i) ∧ Hid (L.length ≤ i + 1) ∧ Al w wr (.slice a0 l0.length k0) (.slice aa L.length ka) l0 L R ∧ (RdN w (.slice al l.length kl) l ∨ wr.ownsRow w.heap.size 44 4 (.slice al l.length kl) l.length (l.map cRn).flatten) ∧ Below w.heap.size w wr) (fun _ _ iv _ => Ds.length - (Go.RowKit.intOf iv).toNat)
    case atStart => exact ⟨0, [l0], _, l0, _, _, _, _, _, by omega, by omega, rfl, rfl, rfl, Ed.start hg, by show _ ≤ _; simp, hAl, .inl r0, hb3⟩
    case round =>
      obtain ⟨i, L, s, l, R, al, aa, kl, ka, hi, hi12, rfl, rfl, rfl, HE, HL, hA, hlv, hb⟩ := hrel
      clear hAl hb3 hb2
      by_cases hc : i < Ds.length ∧ i < 12
      · obtain ⟨hlt, h12⟩ := hc
        have hlt' : (i : Int) < (Ds.length : Int) := by omega
        have h12' : (i : Int) < 12 := by omega
        have hgl := HE.out.good l HE.out.last
        have hgb := tc.good_row hgl
        obtain ⟨q, HQ⟩ : ∃ q : Int, Hid (q = 90000 + (i : Int)) := ⟨_, rfl⟩
        have hO7 : OB (wr.alloc (.cells #[.int .i64 8, .int .i64 q] 29)) wr.heap.size 8 q := heap_alloc_new wr _
        have q7 := alloc_b wr (.cells #[.int .i64 8, .int .i64 q] 29)
        have hb7 := chain hb q7
        have hA7 := hA.below q7
        have hlv7 : RdN w (.slice al l.length kl) l ∨ (wr.alloc (.cells #[.int .i64 8, .int .i64 q] 29)).ownsRow w.heap.size 44 4 (.slice al l.length kl) l.length (l.map cRn).flatten := hlv.imp id (fun g => tc.own_below g q7)
        obtain ⟨p, hp⟩ : ∃ p, Hid (p = wr.heap.size) := ⟨_, rfl⟩
        clear hA hlv hb
        go_upto_region 8 with fail
        rw [← HQ.out, ← hp.out]
        rw [← hp.out] at hO7
        generalize wr.alloc (.cells #[.int .i64 8, .int .i64 q] 29) = w7 at *
        clear q7
        have hrl : RdN w7 (.slice al l.length kl) l := hlv7.elim (fun g => g.below hb7) rdn_ownT
        have cH1 := fun x : Beh w7 => had_any (.slice al l.length kl) l 8 q x.it (hrl.below x.h) hgb.1
        have cH0 := fun x : Beh w7 => had_any (.slice a0 l0.length k0) l0 8 q x.it (r0.below (chain hb7 x.h)) hl1
        obtain ⟨o0, o1, -, -⟩ := hO7.facts
        have hpl := heap_lt hO7
        have d2 : ∀ x : Beh w7, x.it.cell? ⟨p, 0, none⟩ = some (.int .i64 8) := fun x => (x.h.cell (p := ⟨p, 0, none⟩) hpl).trans o0
        have d3 : ∀ x : Beh w7, x.it.cell? ⟨p, 1, none⟩ = some (.int .i64 q) := fun x => (x.h.cell (p := ⟨p, 1, none⟩) hpl).trans o1
        have hL0 : 0 < L.length := (List.getElem?_eq_some_iff.1 hA7.z0).1
        obtain ⟨ga, ka2, ea, -⟩ := hA7.own.form hL0
        injection ea with ea1 ea2 ea3
        subst ea1 ea3
        have ca := hA7.own.cells (g := ga) rfl 0 _ hA7.r0
        rw [addr4, Nat.zero_add] at ca
        have hga := World.block_lt_of_cell? _ _ ca
        have d4 : ∀ x : Beh w7, x.it.cell? ⟨ga, 0, none⟩ = some (.slice a0 l0.length k0) := fun x => (x.h.cell (p := ⟨ga, 0, none⟩) hga).trans ca
        have hL0' : (0 : Int) < (L.length : Int) := by omega
        have Hskip : Hid (Ed L s l0 l (i + 1)) := HE.out.skip
        have HL2 : Hid (L.length ≤ i + 1 + 1) := Nat.le_succ_of_le HL.out
        clear o0 o1 ca
        cases hb1 : l.any (orQ 8 q) with
        | true =>
          rw [hb1] at cH1
          refine wp_region_beh (by kernel_rfl) (by kernel_rfl) ?_
          repeat (go_big_quiet_step ((go_at_call 7; exact Beh.call (cH1 _))))
          refine wpQuiet_nil ?_
          intro wq hw'
          have hwq := Beh.out hw'
          clear hw' d2 d3 d4 cH1 cH0
          go_wp2_with fail
          exact ⟨⟨i + 1, L, s, l, R, al, _, kl, ka, by omega, by omega, rfl, rfl, by go_num, Hskip, HL2, hA7.below hwq, hlv7.imp id (fun g => tc.own_below g hwq), chain hb7 hwq⟩, by simp [Go.RowKit.intOf]; omega⟩
        | false =>
          rw [hb1] at cH1
          have cH : ∀ (x : Beh w7) (v : Value) (b : Bool), (v = .slice al l.length kl ∧ b = false) ∨ (v = .slice a0 l0.length k0 ∧ b = l0.any (orQ 8 q)) → Calls Tryd.prog 7 #[v, .agg #[.int .i64 8, .int .i64 q]] x.it fun e w' => e = .returned (.bool b) ∧ Below x.it.heap.size x.it w' := fun x v b h => by
            rcases h with ⟨rfl, rfl⟩ | ⟨rfl, rfl⟩
            · exact cH1 x
            · exact cH0 x
          clear cH1 cH0
          cases hb0 : l0.any (orQ 8 q) with
          | true =>
            rw [hb0] at cH
            refine wp_region_beh (by kernel_rfl) (by kernel_rfl) ?_
            repeat (go_big_quiet_step ((go_at_call 7; exact Beh.call (cH _ _ _ (by first | exact .inl ⟨rfl, rfl⟩ | exact .inr ⟨rfl, rfl⟩)))))
            refine wpQuiet_nil ?_
            intro wq hw'
            have hwq := Beh.out hw'
            clear hw' d2 d3 d4 cH
            go_wp2_with fail
            exact ⟨⟨i + 1, L, s, l, R, al, _, kl, ka, by omega, by omega, rfl, rfl, by go_num, Hskip, HL2, hA7.below hwq, hlv7.imp id (fun g => tc.own_below g hwq), chain hb7 hwq⟩, by simp [Go.RowKit.intOf]; omega⟩
          | false =>
            rw [hb0] at cH
            refine wp_region_beh (by kernel_rfl) (by kernel_rfl) ?_
            repeat (go_big_quiet_step ((go_at_call 7; exact Beh.call (cH _ _ _ (by first | exact .inl ⟨rfl, rfl⟩ | exact .inr ⟨rfl, rfl⟩)))))
            refine wpQuiet_nil ?_
            intro wq hw'
            have hwq := Beh.out hw'
            clear hw' d2 d3 d4 cH
            have hb8 := chain hb7 hwq
            have hA8 := hA7.below hwq
            have hlv8 : RdN w (.slice al l.length kl) l ∨ wq.ownsRow w.heap.size 44 4 (.slice al l.length kl) l.length (l.map cRn).flatten := hlv7.imp id (fun g => tc.own_below g hwq)
            replace hrl := hrl.below hwq
            have hO8 := hO7.below hwq
            obtain ⟨e0, e1, -, -⟩ := hO8.facts
            clear hA7 hlv7 hO7 hwq hb7 hpl
            have hDi : Ds[i]? = some Ds[i] := List.getElem?_eq_getElem hlt
            obtain ⟨gd, od, ud, rfl, hgd, cd, hrd⟩ := hds i _ hDi
            obtain ⟨hs1, hs2⟩ := hDs _ (List.getElem_mem hlt)
            have cd2 := (hb8.cell (p := ⟨gd, od + i, none⟩) hgd).trans cd
            have hIn : ∀ o ∈ Ds[i], o.In := hs2
            have hno := orQ_no hb0
            have HS : Hid (dcE l Ds[i] 8 q = 0 → ∃ s', Ed (L ++ [dcL l Ds[i] 8 q]) s' l0 (dcL l Ds[i] 8 q) (i + 1)) := fun h => HE.out.step HQ.out hIn h hno
            have cA := fun W (hW : Below wq.heap.size wq W) => docApply_any (.slice al l.length kl) ud l Ds[i] 8 q W (hV.below (chain hb8 hW)) (hrl.below hW) (by omega) (fun r hr => by have := (hgb.2 r hr).1; show _ ≤ _; omega) (hrd.below (chain hb8 hW)) (by unfold maxLen; omega) hIn
            obtain ⟨au, ku, eu, -⟩ := id hrd
            subst eu
            clear hds hDi cd hrd hs1 hs2 hIn hno hDs hV HE
            generalize Ds[i] = ds at *
            generalize dcE l ds 8 q = E at *
            generalize dcL l ds 8 q = N at *
            go_upto_region 9 with fail
            go_cut [8, 9] (fun u ev wx => ∃ (an : Option Addr) (kn : Nat), u = .slice an N.length kn ∧ ev = .int .i64 E ∧ wx.ownsRow w.heap.size 44 4 (.slice an N.length kn) N.length (N.map cRn).flatten ∧ Below wq.heap.size wq wx)
            case first =>
              go_region_with (go_at_call 8; refine (cA _ (Below.drew (Below.refl _ wq))).mono ?_; rintro e w9 ⟨un, rfl, on, hb9⟩; have hb9 := chain (Below.drew (Below.refl _ wq)) hb9; obtain ⟨an, kn, rfl⟩ := own_form on)
              all_goals
                go_wp2_with fail
                go_meet
                exact ⟨an, kn, rfl, rfl, own_mono on hb8.size, hb9⟩
            case rest =>
              obtain ⟨an, kn, rfl, rfl, on, hb9⟩ := hcut
              generalize wc = w9 at *
              have hb10 := chain hb8 hb9
              have hA9 := hA8.below hb9
              have hlv9 : RdN w (.slice al l.length kl) l ∨ w9.ownsRow w.heap.size 44 4 (.slice al l.length kl) l.length (l.map cRn).flatten := hlv8.imp id (fun g => tc.own_below g hb9)
              clear hA8 hlv8 hrl hO8 e0 e1 cd2 cA hb9 hb8
              by_cases h0 : E = 0
              · subst h0
                obtain ⟨s', HE'⟩ := HS.out rfl
                have HE2 : Hid (Ed (L ++ [N]) s' l0 N (i + 1)) := HE'
                have HL3 : Hid ((L ++ [N]).length ≤ i + 1 + 1) := by
                  show _ ≤ _
                  have := HL.out
                  simp
                  omega
                clear HS HE' Hskip HL2 hlv9
                have hAo := hA9.own
                have hbs := hb10.size
                have hLs : L.length ≤ 100 := by have := HL.out; omega
                clear HL
                go_wp2_with (at_builtin; refine wpList_append_own _ rfl (.tmp 61) (.tmp 63) 27 rfl w.heap.size 22 i1 (.slice none 0 0) 1 24 Tryd.underlying27 hi1 hy0 hy1 hy2 rfl (by decide) (.slice (some ⟨ga, 0, none⟩) L.length ka) L.length R rfl (hAo.alloc _) ⟨w9.heap.size, 0, none⟩ 1 1 [.slice an N.length kn] rfl rfl (World.news_of_block (heap_alloc_new w9 _)) (by simp [Value.oneCell']) (by unfold maxLen; omega) (by omega) (by simp; omega) ?_; intro v6 w6 ho6 hg6 _)
                have hRl : R.length = L.length := by have := hAo.1; omega
                have hb6 := (hb10.alloc hbs _).grown hg6 (by simp; omega) (fun j hj => (hAo.lt j hj).1)
                obtain ⟨hA6, s6⟩ := hA9.app ho6 hg6 on
                have on6 := own_sm on s6
                obtain ⟨a6, k6, e6⟩ := own_form ho6
                subst e6
                have el : L.length + 1 = (L ++ [N]).length := by simp
                rw [el] at hA6
                refine ⟨⟨i + 1, L ++ [N], s', N, _, an, a6, kn, k6, by omega, by omega, rfl, by rw [el], by go_num, HE2, HL3, hA6, .inr on6, hb6⟩, by simp [Go.RowKit.intOf]; omega⟩
              · have h0' : (E == 0) = false := beq_eq_false_iff_ne.2 h0
                clear HS
                go_wp2_with fail
                exact ⟨⟨i + 1, L, s, l, R, al, _, kl, ka, by omega, by omega, rfl, rfl, by go_num, Hskip, HL2, hA9, hlv9, hb10⟩, by simp [Go.RowKit.intOf]; omega⟩
      · have hAr := hA.read hb
        have hU2 := good_up HE.out.good (by have := HL.out; omega)
        have hokL := HE.out.ok
        have hfin := ok_fine hokL
        have cC := tc.check_any _ L _ hAr hU2.len hU2.row hU2.atoms
        obtain ⟨F, sE, hM, hE1, hE2, hO⟩ := ord_is hU2
        have hNm : (nmA (aTs L)).length ≤ 1048576 := Nat.le_trans (nmA_len _) hU2.atoms
        have cO := fun W (hW : Below wr.heap.size wr W) => order_any _ L F sE W (hAr.below hW) hU2.len hU2.row hU2.atoms hM (by omega) hE2
        obtain ⟨P, hP, hOr, hrl, hord⟩ : ∃ P, PtI (nmA (aTs L)).length (dcs L).flatten P ∧ OrdN (dcs L) sE.row ∧ sE.row.length = (nmA (aTs L)).length ∧ ordO (dcs L) (nmA (aTs L)) sE.row = some (rns (nmA (aTs L)) P sE.row) := by
          rcases hO with ⟨-, h2⟩ | ⟨P, h1, h2, h3, h4, -⟩
          · exact absurd hokL h2
          · exact ⟨P, h1, h2, h3, h4⟩
        have hR := rw_ok HE.out.good (by have := HL.out; omega) hP hOr hrl hE2 hokL
        rw [hord] at cO
        simp only [Option.isSome_some, Option.getD_some] at cO
        generalize rns (nmA (aTs L)) P sE.row = R9 at *
        have htst : (¬ (i : Int) < (Ds.length : Int) ∧ decide ((i : Int) < (Ds.length : Int)) = false) ∨ ((i : Int) < (Ds.length : Int) ∧ ¬ (i : Int) < 12 ∧ decide ((i : Int) < 12) = false) := by
          by_cases h1 : i < Ds.length
          · exact .inr ⟨by omega, by omega, decide_eq_false (by omega)⟩
          · exact .inl ⟨by omega, decide_eq_false (by omega)⟩
        clear hO hM hE1 hE2 hNm hord hP hOr hrl hc hV hds hDs hA hlv HE
        rcases htst with ⟨h1, h2⟩ | ⟨h1, h2, h3⟩
        all_goals
          go_wp2_with fail
          refine cC.mono ?_
          rintro e w5 ⟨i5, j5, fine, rfl, hc5, q5⟩
          obtain rfl : fine = true := (chk_fine hc5).2 hfin
          have hb5 := chain hb q5
          clear cC hc5
          go_wp2_with fail
          refine (cO _ q5).mono ?_
          rintro e w6 ⟨uo, rfl, ho6, q6⟩
          obtain ⟨ao, ko, rfl⟩ := own_form ho6
          have rR := rdn_ownT ho6
          have q56 := chain q5 q6
          have cRt := right_any _ _ L R9 w6 (hAr.below q56) rR hU2.len (fun l hl => ⟨(hU2.row l hl).1, fun r hr => ((hU2.row l hl).2 r hr).1⟩) hU2.atoms hR.len hR.small hR.can hR.at_ hR.ats hR.one hR.num hR.sub hR.z hR.all
          clear cO ho6
          go_wp2_with fail
          refine cRt.mono ?_
          rintro e w7 ⟨rfl, q7⟩
          go_wp2_with fail
          go_ret
          exact ⟨rfl, chain (chain hb q56) q7⟩
  · have h0 : ckR l0 ≠ 0 := fun q => hg (ckR_zero.1 q)
    have h' : (ckR l0 != 0) = true := by simpa using h0
    generalize ckR l0 = E at *
    go_enter Tryd.func3, Tryd.ntmps3
    go_wp2_with fail
    refine cK.mono ?_
    rintro e w1 ⟨rfl, q1⟩
    go_wp2_with fail
    refine (live24_any _).mono ?_
    rintro e w2 ⟨rfl, q2⟩
    go_wp2_with fail
    go_ret
    exact ⟨rfl, chain q1 q2⟩

/-! ### Deltas that came in -/
section
variable {H : Type}
/-- What came in is not too great. -/
def Sz (up : Bool) (t : TypeId) (d : DataW H) : Prop := match up with
  | false => ∀ n ∈ d.weights Tryd.prog t, n ≤ reachBytes
  | true => Rows.uptoBulk d ≤ 1048576
theorem bulkR_pos (d : DataW H) : 1 ≤ Rows.uptoBulk d := by
  unfold Rows.uptoBulk
  split <;> omega
theorem bulkR_len : ∀ l : List (DataW H), l.length ≤ Rows.uptoBulkAll l
  | [] => Nat.zero_le _
  | d :: l => by
    have h1 := bulkR_pos d
    have h2 := bulkR_len l
    rw [Rows.uptoBulkAll, List.length_cons]
    omega
theorem bulkR_mem {d : DataW H} : ∀ {l : List (DataW H)}, d ∈ l → Rows.uptoBulk d ≤ Rows.uptoBulkAll l
  | [], h => by cases h
  | e :: l, h => by
    rw [Rows.uptoBulkAll]
    rcases List.mem_cons.1 h with rfl | h
    · omega
    · have := bulkR_mem h
      omega
theorem sz_elem {up : Bool} {t e : TypeId} {l r : List (DataW H)} {d : DataW H} (hu : Tryd.prog.underlying t = some (.slice e)) (h : Sz up t (.slice l r)) (hd : d ∈ l) : Sz up e d := by
  cases up with
  | false =>
    intro n hn
    refine h n ?_
    unfold DataW.weights
    rw [hu]
    exact List.mem_cons_of_mem _ (List.mem_append_left _ (wAll_mem hd n hn))
  | true =>
    have := bulkR_mem hd
    unfold Sz at h ⊢
    rw [Rows.uptoBulk] at h
    omega
/-- How long a row may be whose elements have b bytes. -/
def Ln (b : Nat) (up : Bool) (n : Nat) : Prop := n * b ≤ 140737488355328 ∧ (up = true → n ≤ 1048576)
theorem sz_len {up : Bool} {t e : TypeId} {by8 : Nat} {l r : List (DataW H)} (hu : Tryd.prog.underlying t = some (.slice e)) (hb : Tryd.prog.bytesOf e = by8) (h9 : by8 ≤ 134217728) (h : Sz up t (.slice l r)) : Ln by8 up l.length := by
  subst hb
  cases up with
  | false =>
    have := h ((l.length + r.length) * Tryd.prog.bytesOf e) (by unfold DataW.weights; rw [hu]; exact List.mem_cons_self ..)
    have h2 : l.length * Tryd.prog.bytesOf e ≤ (l.length + r.length) * Tryd.prog.bytesOf e := Nat.mul_le_mul_right _ (by omega)
    unfold reachBytes at this
    exact ⟨by omega, fun h => by cases h⟩
  | true =>
    have := bulkR_len l
    unfold Sz at h
    rw [Rows.uptoBulk] at h
    refine ⟨?_, fun _ => by omega⟩
    have h3 : l.length * Tryd.prog.bytesOf e ≤ 1048576 * 134217728 := Nat.mul_le_mul (by omega) h9
    omega
theorem sz_part {up : Bool} {t f : TypeId} {fs : Array Field} {ps : List (DataW H)} {d : DataW H} {j : Nat} (hu : Tryd.prog.underlying t = some (.struct fs)) (h : Sz up t (.agg ps)) (hf : (fs.toList.map (·.type))[j]? = some f) (hd : ps[j]? = some d) : Sz up f d := by
  cases up with
  | false =>
    intro n hn
    refine h n ?_
    unfold DataW.weights
    rw [hu]
    exact DataW.weights_mem_each hf hd n hn
  | true =>
    have := bulkR_mem (List.mem_of_getElem? hd)
    unfold Sz at h ⊢
    rw [Rows.uptoBulk] at h
    omega
variable {enc : TypeId × Value → H} {w : World} {spare : Nat → Bool} {held : Bool}
/-- A row that came in. -/
theorem open_rowG {α : Type} [Inhabited α] {up : Bool} {t e : TypeId} {sz fuel : Nat} {v : Value} {x : DataW H × List MemPlace} (C : α → List Value → Prop) (hu : Tryd.prog.underlying t = some (.slice e)) (h4 : Tryd.prog.cellsOf e = sz) (h0 : 0 < sz) {by8 : Nat} (hb : Tryd.prog.bytesOf e = by8) (h9 : by8 ≤ 134217728)
    (ho : ∀ {n : Nat} {cs : List Value} {y : DataW H × List MemPlace}, DataW.trod enc Tryd.prog w 0 spare held n e cs = some y → Sz up e y.1 → ∃ a, C a cs)
    (h : DataW.trod enc Tryd.prog w 0 spare held fuel t [v] = some x) (hz : Sz up t x.1) :
    ∃ (l : List α) (ao : Option Addr) (cp : Nat), v = .slice ao l.length cp ∧ (l.length ≤ cp ∧ (ao = none → cp = 0)) ∧ Ln by8 up l.length ∧ ∀ (i : Nat) (a : α), l[i]? = some a → ∃ b off cs, ao = some ⟨b, off, none⟩ ∧ b < w.heap.size ∧ C a cs ∧ ∀ j u, cs[j]? = some u → w.cell? ⟨b, off + i * sz + j, none⟩ = some u := by
  rcases Go.Deep.open_slice hu h with ⟨hcs, _⟩ | ⟨a, len, cap, m, n, D, Pl, hcs, _, hl, hmx, hmm, hx, hall⟩
  · simp at hcs
    subst hcs
    exact ⟨[], none, 0, rfl, ⟨Nat.le_refl _, fun _ => rfl⟩, ⟨by simp, fun _ => Nat.zero_le _⟩, fun i a h => by simp at h⟩
  · simp at hcs
    subst hcs
    have hlm : len ≤ m := by rw [hmm]; split <;> omega
    rw [hx] at hz
    have hL := sz_len hu hb h9 hz
    simp only [List.length_map, List.length_range] at hL
    rw [h4] at hall
    obtain ⟨b, off, spot⟩ := a
    have hadd : ∀ k, (⟨b, off, none⟩ : Addr).add k = ⟨b, off + k, none⟩ := fun k => by unfold Addr.add; split <;> simp_all
    have each : ∀ i, i < len → ∃ a : α, spot = none ∧ ∃ cs, C a cs ∧ b < w.heap.size ∧ ∀ j u, cs[j]? = some u → w.cell? ⟨b, off + i * sz + j, none⟩ = some u := by
      intro i hi
      obtain ⟨cs', h1, h2⟩ := hall i (by omega)
      obtain ⟨o, hC⟩ := ho h2 (sz_elem hu hz (List.mem_map.2 ⟨i, List.mem_range.2 hi, rfl⟩))
      obtain ⟨-, hcl, hcell⟩ := World.cells?_some h1
      have hs : spot = none := by
        obtain ⟨cs0, g1, -⟩ := hall 0 (by omega)
        obtain ⟨-, gcl, gcell⟩ := World.cells?_some g1
        have e0 := gcell 0 h0
        rw [List.getElem?_eq_getElem (by omega)] at e0
        have := World.cell?_spot e0
        simpa [Addr.add] using this
      subst hs
      have e0 := hcell 0 h0
      rw [List.getElem?_eq_getElem (by omega)] at e0
      rw [Go.Deep.add_add] at e0
      have hbl := World.block_lt_of_cell? w _ e0
      rw [hadd] at hbl
      refine ⟨o, rfl, cs', hC, hbl, fun j u hj => ?_⟩
      have hjl := (List.getElem?_eq_some_iff.1 hj).1
      have ej := hcell j (by omega)
      rw [Go.Deep.add_add, hadd, hj] at ej
      rw [Nat.add_assoc]
      exact ej
    obtain ⟨f, hf⟩ := @Go.Deep.choose_lt α _ _ _ each
    have hlen : ((List.range len).map f).length = len := by simp
    refine ⟨(List.range len).map f, some ⟨b, off, spot⟩, cap, by rw [hlen], ⟨by rw [hlen]; omega, fun h => by cases h⟩, by rw [hlen]; exact hL, fun i o ho => ?_⟩
    have hi : i < len := by
      have := (List.getElem?_eq_some_iff.1 ho).1
      simpa using this
    simp [hi] at ho
    subst ho
    obtain ⟨rfl, cs, r1, r2, r3⟩ := hf i hi
    exact ⟨b, off, cs, rfl, r2, r1, r3⟩

instance : Inhabited (List OpD) := ⟨[]⟩
theorem open_dlZ {n : Nat} {cs : List Value} {y : DataW H × List MemPlace} (h : DataW.trod enc Tryd.prog w 0 spare held n 33 cs = some y) (hz : Sz false 33 y.1) :
    ∃ l : List OpD, ∃ u, cs = [u] ∧ RdD w u l ∧ l.length ≤ 4398046511104 ∧ ∀ o ∈ l, o.In := by
  obtain ⟨a, m, c, rfl⟩ : ∃ a m c, cs = (Value.slice a m c).cells.toList := by
    rcases Go.Deep.open_slice Tryd.underlying33 h with ⟨hcs, _⟩ | ⟨a, l, c, m, n, D, Pl, hcs, _⟩
    · exact ⟨_, _, _, hcs⟩
    · exact ⟨_, _, _, hcs⟩
  obtain ⟨l, h1, h2, h3⟩ := open_dlz h hz
  exact ⟨l, _, rfl, h1, h2, fun o ho => (h3 o ho).1⟩
theorem open_dlsZ {fuel : Nat} {v : Value} {x : DataW H × List MemPlace} (h : DataW.trod enc Tryd.prog w 0 spare held fuel 23 [v] = some x) (hz : ∀ n ∈ x.1.weights Tryd.prog 23, n ≤ reachBytes) :
    ∃ L : List (List OpD), RdDs w v L ∧ L.length ≤ 6000000000000 ∧ ∀ l ∈ L, l.length ≤ 4398046511104 ∧ ∀ o ∈ l, o.In := by
  obtain ⟨L, ao, cp, rfl, hc, hl, hr⟩ := open_rowG (α := List OpD) (up := false) (by8 := 24) (fun l cs => ∃ u, cs = [u] ∧ RdD w u l ∧ l.length ≤ 4398046511104 ∧ ∀ o ∈ l, o.In) Tryd.underlying23 (show Tryd.prog.cellsOf 33 = 1 by kernel_rfl) (by decide) (by kernel_rfl) (by decide) open_dlZ h hz
  refine ⟨L, ⟨ao, cp, rfl, hc.1, fun i l hi => ?_⟩, by have := hl.1; omega, fun l hl2 => ?_⟩
  · obtain ⟨b, off, cs, e1, h1, ⟨u, rfl, hu, -⟩, h3⟩ := hr i l hi
    have := h3 0 u rfl
    rw [Nat.mul_one, Nat.add_zero] at this
    exact ⟨b, off, u, e1, h1, this, hu⟩
  · obtain ⟨i, hi⟩ := List.mem_iff_getElem?.1 hl2
    obtain ⟨-, -, -, -, -, ⟨-, -, -, h2⟩, -⟩ := hr i l hi
    exact h2
end

theorem own : ownKnob Tryd.prog.godebug = none := by kernel_rfl
theorem laidOut : laidOutB Tryd.prog = true := by kernel_rfl

set_option maxRecDepth 20000 in
theorem contract (H : Type) (enc : TypeId × Value → H) (W : World) (base : Nat) (args : Array Value) (ds gs : List (DataW H)) (before : List MemPlace)
    (hval : ∀ (j : Nat) t v, Tryd.f3.params[j]? = some t → args[j]? = some v → Value.okWide Tryd.prog W .any base t v)
    (hW : DataW.Whole enc Tryd.prog Tryd.f3.params.toList Rows.traceEditsSpec.vars false W args.toList ds gs before) (hsz0 : (DataW.weightsEach Tryd.prog (Tryd.f3.params.toList ++ Rows.traceEditsSpec.plain.varTypes Tryd.prog) (ds ++ gs)).all (· ≤ reachBytes) = true) (hL : laidMetH Tryd.prog Rows.traceEditsRow.laid W) :
    Calls Tryd.prog 3 args W fun e W' => ∃ v, e = .returned v ∧ Rows.traceEditsSpec.post enc Tryd.prog Tryd.f3 false true false false W args v W' := by
  have hW' := hW
  obtain ⟨p, q, hA0, hV, rfl, hfz, hnd⟩ := hW
  have hA : DataW.TrodAll enc Tryd.prog W 0 (fun _ => true) true Tryd.f3.params.toList args.toList ds p := hA0
  rw [Tryd.params3] at hA hval hsz0
  obtain ⟨v0, vs0, d0, ds0, p0, q0, hargs, rfl, rfl, h0, r0⟩ := trodAll_cons hA
  obtain ⟨v1, vs1, d1, ds1, p1, q1, rfl, rfl, rfl, h1, r1⟩ := trodAll_cons r0
  obtain ⟨rfl, rfl, rfl⟩ := trodAll_nil r1
  obtain rfl : args = #[v0, v1] := by cases args; simp_all
  obtain ⟨rfl, rfl⟩ := trodVars_none hV
  have k0 := h0
  have lt0 : ∀ x ∈ p0, x.block < W.heap.size := by obtain ⟨m, hm⟩ := k0; exact DataW.trod_lt m _ _ _ hm
  have k1 := h1
  have lt1 : ∀ x ∈ p1, x.block < W.heap.size := by obtain ⟨m, hm⟩ := k1; exact DataW.trod_lt m _ _ _ hm
  obtain ⟨a0, len0, cap0, rfl⟩ := okWide_slice Tryd.underlying22 (hval 0 22 v0 rfl rfl)
  obtain ⟨fuel0, hf0⟩ := h0
  have z0 : ∀ n ∈ d0.weights Tryd.prog 22, n ≤ reachBytes := fun n hn => by simpa using List.all_eq_true.1 hsz0 n (DataW.weights_mem_each (j := 0) (t := 22) (d := d0) rfl rfl n hn)
  obtain ⟨l0, rd0, ln0, ok0⟩ := open_rnz hf0 z0
  obtain ⟨a1, len1, cap1, rfl⟩ := okWide_slice Tryd.underlying23 (hval 1 23 v1 rfl rfl)
  obtain ⟨fuel1, hf1⟩ := h1
  have z1 : ∀ n ∈ d1.weights Tryd.prog 23, n ≤ reachBytes := fun n hn => by simpa using List.all_eq_true.1 hsz0 n (DataW.weights_mem_each (j := 1) (t := 23) (d := d1) rfl rfl n hn)
  obtain ⟨l1, rd1, ln1, ok1⟩ := open_dlsZ (v := .slice a1 len1 cap1) hf1 z1
  clear hA0
  simp only [List.append_nil] at hW'
  refine (walk _ _ l0 l1 W (vs_of (tabs_of hL)) rd0 (by omega) (fun r hr => (ok0 r hr).2) rd1 ln1 ok1).mono fun e W' ⟨he, bel⟩ => ?_
  subst he
  exact ⟨_, rfl, _, _, _, [], _, [], hW', trodAll_mk1 (shut_bool Tryd.underlying4 _), (trodAll_cons_mk (Below.trod laidOut (by kernel_rfl) (of_decide_eq_true (by kernel_rfl)) k0 bel lt0) (trodAll_cons_mk (Below.trod laidOut (by kernel_rfl) (of_decide_eq_true (by kernel_rfl)) k1 bel lt1) trodAll_mk0)), rfl, bel.frame _, fun h => by cases h⟩

set_option maxRecDepth 100000 in
theorem laid_met (os : Os) : laidMet Tryd.prog Rows.traceEditsRow.laid ((laidWorld os).forCall (fun _ _ => 0) ⟨#[], #[.slice none 0 0, .slice none 0 0], []⟩).memory :=
  (LaidIn.of_run (l := Rows.traceEditsRow.laid) [1, 0] 8 (by kernel_rfl) (by kernel_rfl) (by kernel_rfl) (by kernel_rfl)).met
theorem reads (os : Os) {H : Type} (enc : TypeId × Value → H) : ∃ places, DataW.whole enc Tryd.prog ((laidWorld os).forCall (fun _ _ => 0) ⟨#[], #[.slice none 0 0, .slice none 0 0], []⟩).memory Tryd.f3.params.toList Rows.traceEditsSpec.vars false (#[.slice none 0 0, .slice none 0 0] : Array Value).toList 8 = some ([.nil, .nil], [], places) :=
  ⟨[], by kernel_rfl⟩
set_option maxRecDepth 100000 in
theorem lifted (os : Os) (started : os.Started) (H : Type) (enc : TypeId × Value → H) (F : Stop.Interp) :
    ReturnsInHanded {} Tryd.checked os 3 .any ((OpenSpec.ofChange Rows.traceEditsSpec).preRow enc Tryd.prog Tryd.f3 Rows.traceEditsRow.domain false Rows.traceEditsRow.laid) (((OpenSpec.ofChange Rows.traceEditsSpec).at F).post enc Tryd.prog Tryd.f3 false true false false) := by
  obtain ⟨places, hx⟩ := reads os enc
  refine returnsInHanded_of_row (C := Tryd.checked) (s := OpenSpec.ofChange Rows.traceEditsSpec) own started (by kernel_rfl) Tryd.func3
    (witness_row_atRef (enc := enc) (C := Tryd.checked) false (laidWorld os) #[.slice none 0 0, .slice none 0 0] rfl (by kernel_rfl) (by kernel_rfl) (by kernel_rfl)
      (OpenSpec.preRow_of_cond 8 hx (by kernel_rfl) (fun k hk => by cases hk) (by kernel_rfl) (laid_met os))) ?_
  intro W base args ds gs before hval hW _ _ hsz hL _ _
  exact contract H enc W base args ds gs before hval hW hsz hL

theorem holds : Rows.TraceEditsSaid :=
  OpenClaim.holds_of_cond 3 Tryd.f3 rfl rfl rfl rfl rfl rfl rfl ⟨rfl, rfl, rfl, rfl, rfl⟩ rfl rfl rfl rfl rfl (by kernel_rfl) Tryd.func3 (by kernel_rfl)
    (of_decide_eq_true (by kernel_rfl)) (by unfold Func.isWrapper; first | (rw [if_pos (by decide +kernel)]; kernel_rfl) | (rw [if_neg (by decide +kernel)]; exact ⟨rfl, rfl⟩))
    (fun os started H enc _ F => by rw [OpenClaim.pre_eq_preRow]; exact lifted os started H enc F)
theorem plain (f : FuncId) (fn : Func) (hf : Tryd.pinned.checked.prog.funcNamed "oxbow/oxbowlaw24.TraceEdits" = some f) (hfn : Tryd.pinned.checked.prog.funcs[f]? = some fn) :
    true = Tryd.pinned.checked.prog.looks [] ∧ ∀ (j : Nat) t, fn.params[j]? = some t → Tryd.pinned.checked.prog.wantsStandIn t = false := by
  obtain rfl : f = 3 := Option.some.inj ((show Tryd.prog.funcNamed "oxbow/oxbowlaw24.TraceEdits" = some 3 by kernel_rfl).symm.trans hf) |>.symm
  obtain rfl : fn = Tryd.f3 := (Option.some.inj (Tryd.func3.symm.trans hfn)).symm
  refine ⟨by kernel_rfl, fun j t ht => ?_⟩
  rw [Tryd.params3] at ht
  have hm := Array.mem_of_getElem? ht
  have h2 : t = 22 ∨ t = 23 := by simpa using hm
  rcases h2 with rfl | rfl
  · exact (show Tryd.prog.wantsStandIn 22 = false by kernel_rfl)
  · exact (show Tryd.prog.wantsStandIn 23 = false by kernel_rfl)
theorem card : Rows.TraceEditsCardSaid :=
  Claim7.holds_tied_plain_at .later [] _ _ _ _ holds (fun _ h => by cases h) (by kernel_rfl) (fun _ h => by cases h) traceEdits_row_tie rfl ⟨rfl, rfl⟩ (by kernel_rfl) rfl plain (by kernel_rfl)
end Go.Proofs.YtjimolafoihnpaaDoor.traceEdits
namespace Go.Proofs.YtjimolafoihnpaaDoor
theorem traceEdits_holds : Rows.TraceEditsCardSaid := traceEdits.card
#print axioms traceEdits_holds
end Go.Proofs.YtjimolafoihnpaaDoor
