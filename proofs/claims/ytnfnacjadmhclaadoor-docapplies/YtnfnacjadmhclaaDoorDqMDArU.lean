/-
  The reference's Apply.
-/
import Derived.Test.YtnfnacjadmhclaaDoorDqJ
import Derived.Test.YtnfnacjadmhclaaDoorDlXDrADrE
import Derived.Deep.DeepCutAuto
import Derived.Test.YtnfnacjadmhclaaDoorDArg
import Derived.Test.YtnfnacjadmhclaaDoorDqH
import Derived.Deep.CondSized
namespace Go.Proofs.YtnfnacjadmhclaaDoor
open Go.ChangeShapes Go.WideShapes Go.ChangeAt Go.RowKit Go.PlainAid

/-- How many atoms a step keeps. -/
def St.kp : St → Nat
  | .keep k => k
  | _ => 0
theorem cpl_empty : cpl ⟨#[]⟩ = 0 := by kernel_rfl
theorem pts_empty : pts ⟨#[]⟩ = [] := by unfold pts; rw [cpl_empty]; rfl
theorem op_pts {s : St} (h : s.Ok) : 0 ≤ cpl s.op.t := by
  cases s with
  | keep k => show 0 ≤ cpl ⟨#[]⟩; rw [cpl_empty]; omega
  | rem k => show 0 ≤ cpl ⟨#[]⟩; rw [cpl_empty]; omega
  | ins t => have := h.1; show 0 ≤ cpl t; omega
theorem apA_step (c q : Int) (A : List Atm) (n : Int) (s : St) (l : List St) (h : s.Ok) : apA c q A n (s :: l) = A.take s.kp ++ (atG c q n (pts s.op.t) ++ apA c q (A.drop s.b) (n + ((pts s.op.t).length : Int)) l) := by
  cases s with
  | keep k => show _ = A.take k ++ (atG c q n (pts ⟨#[]⟩) ++ apA c q (A.drop k) (n + ((pts ⟨#[]⟩).length : Int)) l); rw [pts_empty]; simp [apA, atG]
  | rem k => show _ = A.take 0 ++ (atG c q n (pts ⟨#[]⟩) ++ apA c q (A.drop k) (n + ((pts ⟨#[]⟩).length : Int)) l); rw [pts_empty]; simp [apA, atG]
  | ins t =>
    show _ = A.take 0 ++ (atG c q n (pts t) ++ apA c q (A.drop 0) (n + ((pts t).length : Int)) l)
    rw [pts_len (t := t) (by have := h.1; omega)]
    simp [apA]
theorem kp_le (s : St) : s.kp ≤ s.b := by cases s <;> simp [St.kp, St.b]
theorem kp_op (s : St) : (s.op.k = 1 ∧ s.kp = s.b) ∨ ((s.op.k == 1) = false ∧ s.kp = 0) := by cases s <;> simp [St.op, St.kp, St.b]
theorem any_of {l : List RunD} {c q : Int} (hok : ∀ r ∈ l, r.Ok) (h : ∀ x ∈ ats l, ¬ (x.c = c ∧ x.q = q)) : l.any (orQ c q) = false := by
  rw [List.any_eq_false]
  intro r hr hq
  have hp := pts_pos (hok r hr)
  obtain ⟨x, hx, e1, e2, e3⟩ := atG_has r.c r.q (pts r.t) r.f 0 hp
  have hxm : x ∈ ats l := by
    simp only [ats, List.mem_flatten, List.mem_map]
    exact ⟨_, ⟨r, hr, rfl⟩, hx⟩
  have := h x hxm
  simp [orQ] at hq
  rw [e1, e2] at this
  exact this hq
theorem any_has {l : List RunD} {c q : Int} {x : Atm} (hx : x ∈ ats l) (h : x.c = c ∧ x.q = q) : ¬ l.any (orQ c q) = false := fun h0 => any_ats h0 x hx h
theorem rdd_cell {W : World} {ao : Option Addr} {N cp : Nat} {l : List OpD} (h : RdD W (.slice ao N cp) l) {i : Nat} {o : OpD} (hx : l[i]? = some o) : ∃ b off, ao = some ⟨b, off, none⟩ ∧ b < W.heap.size ∧
    W.cell? ⟨b, off + i * 3, none⟩ = some (.int .i64 o.k) ∧ W.cell? ⟨b, off + i * 3 + 1, none⟩ = some (.int .i64 o.n) ∧ W.cell? ⟨b, off + i * 3 + 2, none⟩ = some (.string o.t) := by
  obtain ⟨a, c, e, -, h⟩ := h
  injection e with e1 _ _
  subst e1
  exact h i o hx
/-- Apply on its way. -/
structure RI (c q : Int) (A : List Atm) (S : List St) (R : List Atm) (k T F : Nat) (O : List Atm) : Prop where
  sum : T + bsum (S.drop k) = A.length
  all : O ++ apA c q (A.drop T) (F : Int) (S.drop k) = R
  fr : F ≤ O.length
theorem RI.start {c q : Int} {A : List Atm} {S : List St} {R : List Atm} (h : bsum S = A.length) (hR : R = apA c q A 0 S) : RI c q A S R 0 0 0 [] := ⟨by simpa using h, by simpa using hR.symm, by simp⟩
theorem RI.len {c q : Int} {A : List Atm} {S : List St} {R O : List Atm} {k T F : Nat} (h : RI c q A S R k T F O) : O.length ≤ R.length := by
  rw [← h.all, List.length_append]
  omega
theorem RI.next {c q : Int} {A : List Atm} {S : List St} {R O : List Atm} {k T F : Nat} (h : RI c q A S R k T F O) (hk : k < S.length) (hok : ∀ s ∈ S, s.Ok) :
    RI c q A S R (k + 1) (T + S[k].b) (F + (pts S[k].op.t).length) (O ++ (A.drop T).take S[k].kp ++ atG c q (F : Int) (pts S[k].op.t)) ∧ T + S[k].b ≤ A.length := by
  have h1 := h.sum
  have h2 := h.all
  rw [List.drop_eq_getElem_cons hk] at h1 h2
  have e : bsum (S[k] :: S.drop (k + 1)) = S[k].b + bsum (S.drop (k + 1)) := by unfold bsum; rw [List.map_cons, List.sum_cons]
  rw [e] at h1
  rw [apA_step _ _ _ _ _ _ (hok S[k] (by simp))] at h2
  refine ⟨⟨by omega, ?_, ?_⟩, by omega⟩
  · rw [← h2, List.drop_drop]
    simp only [List.append_assoc, Int.natCast_add]
  · have := h.fr
    simp only [List.length_append, atG_len]
    omega

set_option maxRecDepth 20000 in
set_option maxHeartbeats 2000000 in
theorem rapply_any (v vd : Value) (l : List RunD) (ds : List OpD) (c q : Int) (w : World) (hr : RdN w v l) (hm : l.length ≤ 1125899906842624) (hi : ∀ r ∈ l, r.Bd) (hsz : ∀ r ∈ l, r.t.size ≤ 1048576) (hd : RdD w vd ds) (hm2 : ds.length ≤ maxLen) (hi2 : ∀ o ∈ ds, o.Sm) :
    Calls Tryd.prog 22 #[v, vd, .agg #[.int .i64 c, .int .i64 q]] w fun e w' => ∃ u, e = .returned (.tuple #[u, .int .i64 (dcE l ds c q)]) ∧ w'.ownsRow w.heap.size 41 4 u (dcL l ds c q).length (rcs (dcL l ds c q)) ∧ Below w.heap.size w w' := by
  have hA0 : Below w.heap.size w (w.alloc (.cells #[.int .i64 c, .int .i64 q] 29)) := (Below.refl _ w).alloc (Nat.le_refl _) _
  have hO0 : OB (w.alloc (.cells #[.int .i64 c, .int .i64 q] 29)) w.heap.size c q := heap_alloc_new w _
  have hck := rcheck_any v l _ (hr.below hA0) hm hi hsz
  have hin : ∀ o ∈ ds, o.In := fun o ho => sm_in (hi2 o ho)
  obtain ⟨i0, hi0, hz0, hz1, hz2⟩ := info_parts Tryd.infoAtm
  have hbs : ∀ W, Below w.heap.size w W → _ := fun W hb => refBase_any vd ds W (hd.below hb) hm2 hi2
  obtain ⟨ao, cp, hv, -⟩ := id hr
  subst hv
  obtain ⟨aod, cpd, hvd, -⟩ := id hd
  subst hvd
  have none_ : ∀ (x : Int) (w' : World), dcE l ds c q = x → x ≠ 0 → Below w.heap.size w w' → ∃ u, (Ending.returned (.tuple #[.slice none 0 0, .int .i64 x])) = .returned (.tuple #[u, .int .i64 (dcE l ds c q)]) ∧ w'.ownsRow w.heap.size 41 4 u (dcL l ds c q).length (rcs (dcL l ds c q)) ∧ Below w.heap.size w w' := fun x w' h h0 hb => by
    rw [dc_no (by rw [h]; exact h0), h]
    exact ⟨_, rfl, World.ownsRow_nil _ _ _ _, hb⟩
  by_cases hg : ckG [] none l = true
  · have hG := (good_iff l).1 hg
    rw [ckR_zero.2 hG] at hck
    by_cases hch : chk ds = 0
    · have hok : ∀ r ∈ l, r.Ok := fun r hr => (hG.fit r hr).ok
      have hnu : num l = (ats l).length := num_ats hok
      have hlA : (ats l).length ≤ 1000 := by rw [← hnu]; exact hG.len
      have hbd := hG.bound
      have cA : ∀ W, Below w.heap.size w W → _ := fun W hb => atoms_any (.slice ao l.length cp) l W (hr.below hb) hok hsz (fun r hr => by obtain ⟨-, m2, m3, m4⟩ := mayR_iff.1 (hG.may r hr); omega) (by omega) (by omega)
      rw [hch] at hbs
      have cO := fun W => rorigin_any c q W
      by_cases hb : bsum (stR ds) = (ats l).length
      · have hbn : (((bsum (stR ds) : Nat) : Int) != ((ats l).length : Int)) = false := by simp [hb]
        cases ho : orM c q
        · have HE : Hid (dcE l ds c q = 1) := by show _ = _; unfold dcE; rw [if_pos hg, if_pos hch, if_pos (by rw [hnu]; exact hb), if_neg (by simp [ho])]
          rw [ho] at cO
          clear hr hi hsz hd hi2 hin hg hG hok hnu hbd hb hch ho
          generalize ats l = A at *
          generalize bsum (stR ds) = N at *
          go_enter Tryd.func22, Tryd.ntmps22
          go_wp2_with fail
          refine hck.mono ?_
          rintro e w1 ⟨rfl, q1⟩
          have hB := chain hA0 q1
          have hO := hO0.below q1
          clear hck hO0 hA0 q1
          go_wp2_with fail
          refine (hbs _ hB).mono ?_
          rintro e w2 ⟨rfl, q2⟩
          replace hB := chain hB q2
          replace hO := hO.below q2
          clear hbs q2
          go_wp2_with fail
          refine (cA _ hB).mono ?_
          rintro e w3 ⟨u3, rfl, ho3, q3⟩
          replace hB := chain hB q3
          replace hO := hO.below q3
          obtain ⟨a3, k3, rfl⟩ := own_form ho3
          obtain ⟨d0, d1, -, -⟩ := hO.facts
          clear cA q3 ho3
          go_wp2_with fail
          refine (cO _).mono ?_
          rintro e w4 ⟨rfl, q4⟩
          replace hB := chain hB q4
          go_wp2_with fail
          go_ret2
          exact none_ 1 _ HE.out (by decide) hB
        · have HEb : Hid (∀ x ∈ ats l, x.c = c ∧ x.q = q → dcE l ds c q = 1) := fun x hx h => by
            unfold dcE
            rw [if_pos hg, if_pos hch, if_pos (by rw [hnu]; exact hb), if_neg (fun h2 => any_has hx h h2.2)]
          have HEg : Hid ((∀ x ∈ ats l, ¬ (x.c = c ∧ x.q = q)) → dcE l ds c q = 0) := fun h => by
            unfold dcE
            rw [if_pos hg, if_pos hch, if_pos (by rw [hnu]; exact hb), if_pos ⟨ho, any_of hok h⟩]
          have HF : Hid (dcE l ds c q = 0 → ats (dcL l ds c q) = apA c q (ats l) 0 (stR ds) ∧ Good (dcL l ds c q)) := fun h => by
            have := dc_facts hin h
            exact ⟨this.1, this.2.1⟩
          have hds := stR_op hch
          have hsk := stR_ok hin
          have hsl := stR_len ds
          have hsm : ∀ s ∈ stR ds, s.op.t.size ≤ 1048576 := fun s hs => hi2 s.op (by rw [← hds]; exact List.mem_map.2 ⟨s, hs, rfl⟩)
          rw [ho] at cO
          rw [← hds] at hd
          have hdl : ds.length = (stR ds).length := by
            have := congrArg List.length hds
            rw [List.length_map] at this
            exact this.symm
          rw [List.length_map] at hd
          rw [hdl] at hbs ⊢
          clear hr hi hsz hi2 hin hg hG hok hnu hbd hch ho hds
          generalize hA : ats l = A at *
          generalize stR ds = S at *
          go_enter Tryd.func22, Tryd.ntmps22
          go_wp2_with fail
          refine hck.mono ?_
          rintro e w1 ⟨rfl, q1⟩
          have hB := chain hA0 q1
          have hO := hO0.below q1
          clear hck hO0 hA0 q1
          go_wp2_with fail
          refine (hbs _ hB).mono ?_
          rintro e w2 ⟨rfl, q2⟩
          replace hB := chain hB q2
          replace hO := hO.below q2
          clear hbs q2
          go_wp2_with fail
          refine (cA _ hB).mono ?_
          rintro e w3 ⟨u3, rfl, ho3, q3⟩
          replace hB := chain hB q3
          replace hO := hO.below q3
          have rA := rda_own ho3
          obtain ⟨a3, k3, rfl⟩ := own_form ho3
          obtain ⟨d0, d1, -, -⟩ := hO.facts
          clear cA q3 ho3
          go_wp2_with fail
          refine (cO _).mono ?_
          rintro e w4 ⟨rfl, q4⟩
          replace hB := chain hB q4
          replace hO := hO.below q4
          replace rA := rA.below q4
          replace hd := hd.below hB
          clear cO q4 d0 d1 hbn
          go_wp2_with fail
          go_loopw [12] (fun i wr => ∃ (j : Nat), j ≤ A.length ∧ i = .int .i64 (j : Int) ∧ Hid (∀ (i : Nat) (x : Atm), i < j → A[i]? = some x → ¬ (x.c = c ∧ x.q = q)) ∧ Below w4.heap.size w4 wr) (fun i _ => A.length - (Go.RowKit.intOf i).toNat)
          case atStart => exact ⟨0, Nat.zero_le _, rfl, fun i x h => by omega, Below.refl _ _⟩
          case round =>
            obtain ⟨j, hj, rfl, hno, hbj⟩ := hrel
            by_cases hjA : j < A.length
            · have hjA' : (j : Int) < (A.length : Int) := by omega
              obtain ⟨x, hx⟩ : ∃ x, A[j]? = some x := ⟨A[j], by simp [hjA]⟩
              obtain ⟨ba, oa, rfl, -⟩ := rda_at rA hx
              have hBc := fun s : Beh wr => rda_at ((rA.below hbj).below s.h) hx
              have x0 : ∀ s : Beh wr, s.it.cell? ⟨ba, oa + j * 4, none⟩ = some (.int .i64 x.c) := fun s => by obtain ⟨_, _, e, -, g, -⟩ := hBc s; cases e; exact g
              have x1 : ∀ s : Beh wr, s.it.cell? ⟨ba, oa + j * 4 + 1, none⟩ = some (.int .i64 x.q) := fun s => by obtain ⟨_, _, e, -, -, g, -⟩ := hBc s; cases e; exact g
              have y0 : ∀ s : Beh wr, s.it.cell? ⟨w.heap.size, 0, none⟩ = some (.int .i64 c) := fun s => ((hO.below hbj).below s.h).facts.1
              have y1 : ∀ s : Beh wr, s.it.cell? ⟨w.heap.size, 1, none⟩ = some (.int .i64 q) := fun s => ((hO.below hbj).below s.h).facts.2.1
              clear hBc
              have HX : Hid (x ∈ A) := List.mem_of_getElem? hx
              have HN : Hid (¬ (x.c = c ∧ x.q = q) → ∀ (i : Nat) (y : Atm), i < j + 1 → A[i]? = some y → ¬ (y.c = c ∧ y.q = q)) := fun h i y hi hy => by
                by_cases e : i < j
                · exact hno.out i y e hy
                · obtain rfl : i = j := by omega
                  rw [hx] at hy
                  injection hy with hy
                  rw [← hy]
                  exact h
              clear hx hno
              by_cases t1 : x.c = c
              · by_cases t2 : x.q = q
                · have HR : Hid (dcE l ds c q = 1) := HEb.out x HX.out ⟨t1, t2⟩
                  have t1' : (x.c == c) = true := by simp [t1]
                  have t2' : (x.q == q) = true := by simp [t2]
                  clear t1 t2 HN
                  go_upto_region 15 with fail
                  refine wp_region_beh (by kernel_rfl) (by kernel_rfl) ?_
                  repeat (go_big_quiet_step (fail))
                  refine wpQuiet_nil ?_
                  intro wq hw'
                  have hwq := Beh.out hw'
                  clear hw' x0 x1 y0 y1
                  go_wp2_with fail
                  go_ret2
                  exact none_ 1 _ HR.out (by decide) (chain hB (chain hbj hwq))
                · have HR := HN.out (fun h => t2 h.2)
                  have HR' : Hid (∀ (i : Nat) (y : Atm), i < j + 1 → A[i]? = some y → ¬ (y.c = c ∧ y.q = q)) := HR
                  have t1' : (x.c == c) = true := by simp [t1]
                  have t2' : (x.q == q) = false := by simp [t2]
                  clear t1 t2 HN HR
                  go_upto_region 15 with fail
                  refine wp_region_beh (by kernel_rfl) (by kernel_rfl) ?_
                  repeat (go_big_quiet_step (fail))
                  refine wpQuiet_nil ?_
                  intro wq hw'
                  have hwq := Beh.out hw'
                  clear hw' x0 x1 y0 y1
                  go_wp2_with fail
                  exact ⟨⟨j + 1, by omega, by go_num, HR'.out, chain hbj hwq⟩, by simp [Go.RowKit.intOf]; omega⟩
              · have HR' : Hid (∀ (i : Nat) (y : Atm), i < j + 1 → A[i]? = some y → ¬ (y.c = c ∧ y.q = q)) := HN.out (fun h => t1 h.1)
                have t1' : (x.c == c) = false := by simp [t1]
                clear t1 HN
                go_upto_region 15 with fail
                refine wp_region_beh (by kernel_rfl) (by kernel_rfl) ?_
                repeat (go_big_quiet_step (fail))
                refine wpQuiet_nil ?_
                intro wq hw'
                have hwq := Beh.out hw'
                clear hw' x0 x1 y0 y1
                go_wp2_with fail
                exact ⟨⟨j + 1, by omega, by go_num, HR'.out, chain hbj hwq⟩, by simp [Go.RowKit.intOf]; omega⟩
            · obtain rfl : j = A.length := by omega
              have hE := HEg.out (fun x hx => by
                obtain ⟨i, hi⟩ := List.getElem?_of_mem hx
                exact hno.out i x (by
                  rcases Nat.lt_or_ge i A.length with g | g
                  · exact g
                  · rw [List.getElem?_eq_none g] at hi; cases hi) hi)
              obtain ⟨f1, f2⟩ := HF.out hE
              have HD : Hid (dcE l ds c q = 0 ∧ dcL l ds c q = rnA (apA c q A 0 S)) := ⟨hE, by rw [← f1, rnA_of (good_ats.1 f2).1]⟩
              have hz : ∀ x ∈ apA c q A 0 S, szI x.z ≠ 0 := by rw [← f1]; exact ats_sz (good_ats.1 f2).1.all
              have hn : ∀ x ∈ apA c q A 0 S, 0 ≤ x.n ∧ x.n ≤ 100000 := fun x hx => by rw [← f1] at hx; have := (good_ats.1 f2).2.1 x hx; unfold Atm.May at this; omega
              have hRl : (apA c q A 0 S).length ≤ 1000 := by rw [← f1]; exact (good_ats.1 f2).2.2.2
              have cR := fun v W (h : RdA W v (apA c q A 0 S)) => runs_any v (apA c q A 0 S) W h hz hn (by omega)
              have hI0 : RI c q A S (apA c q A 0 S) 0 0 0 [] := RI.start hb rfl
              replace rA := rA.below hbj
              replace hO := hO.below hbj
              replace hd := hd.below hbj
              replace hB := chain hB hbj
              clear hno hE f1 f2 HEb HEg HF hz hn hbj
              generalize apA c q A 0 S = R at *
              go_wp2_with fail
              obtain ⟨w5, rfl⟩ : ∃ y, y = wr := ⟨_, rfl⟩
              go_loopw [13, 14, 15, 16] (fun u t f i wr => ∃ (k T F : Nat) (O : List Atm), k ≤ S.length ∧ i = .int .i64 (k : Int) ∧ t = .int .i64 (T : Int) ∧ f = .int .i64 (F : Int) ∧ Hid (RI c q A S R k T F O) ∧ wr.ownsRow w5.heap.size 53 4 u O.length (acs O) ∧ Below w5.heap.size w5 wr) (fun _ _ _ i _ => S.length - (Go.RowKit.intOf i).toNat)
              case atStart => exact ⟨0, 0, 0, [], Nat.zero_le _, rfl, rfl, rfl, hI0, World.ownsRow_nil _ _ _ _, Below.refl _ _⟩
              case round =>
                obtain ⟨k, T, F, O, hk, rfl, rfl, rfl, hRI, ho, hbk⟩ := hrel
                clear hI0
                by_cases hlt : k < S.length
                · have hlt' : (k : Int) < (S.length : Int) := by omega
                  have hkx : (S.map St.op)[k]? = some S[k].op := by simp [hlt]
                  obtain ⟨bd, od, rfl, -⟩ := rdd_cell hd hkx
                  have hcell : ∀ W, Below w5.heap.size w5 W → W.cell? ⟨bd, od + k * 3, none⟩ = some (.int .i64 S[k].op.k) ∧ W.cell? ⟨bd, od + k * 3 + 1, none⟩ = some (.int .i64 (S[k].b : Int)) ∧ W.cell? ⟨bd, od + k * 3 + 2, none⟩ = some (.string S[k].op.t) := fun W hW => by
                    obtain ⟨_, _, e, -, g0, g1, g2⟩ := rdd_cell (hd.below hW) hkx
                    cases e
                    rw [op_n] at g1
                    exact ⟨g0, g1, g2⟩
                  obtain ⟨hNx, hTb⟩ := hRI.out.next hlt hsk
                  have HNx : Hid (RI c q A S R (k + 1) (T + S[k].b) (F + (pts S[k].op.t).length) (O ++ (A.drop T).take S[k].kp ++ atG c q (F : Int) (pts S[k].op.t))) := hNx
                  have hOl := hRI.out.len
                  have hO2 := hNx.len
                  rw [List.length_append, atG_len] at hO2
                  have hFr := hRI.out.fr
                  have hkp := kp_op S[k]
                  have hpt := op_pts (hsk S[k] (by simp))
                  have cP := fun W => refPoints_ok S[k].op.t _ W (hsm S[k] (by simp)) (cpl_valid hpt)
                  have hpl : (cpl S[k].op.t).toNat = (pts S[k].op.t).length := by have := pts_len hpt; omega
                  have hpe : ptL S[k].op.t (cpl S[k].op.t).toNat = pts S[k].op.t := rfl
                  rw [hpe, hpl] at cP
                  clear hRI hkx hpt hpe hpl hNx hsk hsm hd cR
                  generalize pts S[k].op.t = P at *
                  generalize S[k].op.t = tx at *
                  generalize S[k].op.k = kd at *
                  generalize S[k].b = n at *
                  generalize S[k].kp = m at *
                  obtain ⟨a6, k6, rfl⟩ := own_form ho
                  obtain ⟨d0, d1, d2⟩ := hcell _ hbk
                  go_upto_if 66 with fail
                  go_cut [13] (fun u wx => wx.ownsRow w5.heap.size 53 4 u (O ++ (A.drop T).take m).length (acs (O ++ (A.drop T).take m)) ∧ Below w5.heap.size w5 wx)
                  case first =>
                    have hbs := hbk.size
                    rcases hkp with ⟨h1, h2⟩ | ⟨h1, h2⟩
                    · subst h1
                      have e := h2.symm
                      clear h2
                      subst e
                      obtain ⟨v7, hsl7, rM⟩ := rda_mid (rA.below hbk) T n hTb
                      clear HNx hcell hO2 cP
                      go_wp2_with (at_builtin; refine wpList_app_atoms _ rfl (.tmp 67) (.tmp 77) rfl w5.heap.size (.slice a6 O.length k6) v7 O ((A.drop T).take n) rfl rfl ho hbs rM (by simp; omega) ?_; intro v8 w8 ho8 hg8)
                      go_meet
                      exact ⟨ho8, hbk.grown hg8 hbs (fun k hk => (ho.lt k hk).1)⟩
                    · subst h2
                      clear HNx hcell hO2 cP
                      go_wp2_with fail
                      go_meet
                      exact ⟨by simpa using ho, hbk⟩
                  case rest =>
                    obtain ⟨ho6, hb6⟩ := hcut
                    obtain ⟨a7, k7, rfl⟩ := own_form ho6
                    clear ho hbk d0 d1 d2 hkp
                    obtain ⟨d0, d1, d2⟩ := hcell _ hb6
                    generalize O ++ (A.drop T).take m = O1 at *
                    go_wp2_with fail
                    refine (cP _).mono ?_
                    rintro e w9 ⟨v9, rfl, ho9, q9⟩
                    have hs9 := hb6.size
                    replace hb6 := chain hb6 q9
                    replace ho6 := own_belowG ho6 q9
                    replace ho9 := own_lower ho9 hs9
                    obtain ⟨a9, k9, rfl⟩ := own_form ho9
                    clear cP q9 hs9 d0 d1 d2 hcell
                    go_wp2_with fail
                    obtain ⟨wz, rfl⟩ : ∃ y, y = wr := ⟨_, rfl⟩
                    go_loopw [13, 15, 19] (fun u f i wr => ∃ j : Nat, j ≤ P.length ∧ i = .int .i64 (j : Int) ∧ f = .int .i64 ((F : Int) + (j : Int)) ∧ wr.ownsRow w5.heap.size 53 4 u (O1 ++ atG c q (F : Int) (P.take j)).length (acs (O1 ++ atG c q (F : Int) (P.take j))) ∧ wr.ownsRow w5.heap.size 3 1 (.slice a9 P.length k9) P.length (iv P) ∧ Below w5.heap.size w5 wr) (fun _ _ i _ => P.length - (Go.RowKit.intOf i).toNat)
                    case atStart => exact ⟨0, Nat.zero_le _, rfl, by simp, by simpa [atG] using ho6, ho9, hb6⟩
                    case round =>
                      obtain ⟨j, hj, rfl, rfl, hoj, hpj, hbj⟩ := hrel
                      clear ho6 ho9 hb6
                      obtain ⟨a8, k8, hu8⟩ := own_form hoj
                      by_cases hlj : j < P.length
                      · have hlj' : (j : Int) < (P.length : Int) := by omega
                        obtain ⟨z, hz⟩ : ∃ z, P[j]? = some z := ⟨P[j], by simp [hlj]⟩
                        obtain ⟨g5, c5, e5, -, -⟩ := hpj.form (by omega)
                        injection e5 with e51 _ e53
                        subst e51
                        subst e53
                        have hzc := hpj.cells (g := g5) rfl j (.int .i64 z) (iv_get hz)
                        rw [addr4, Nat.zero_add] at hzc
                        have HA : Hid (O1 ++ atG c q (F : Int) (P.take (j + 1)) = (O1 ++ atG c q (F : Int) (P.take j)) ++ [⟨c, q, (F : Int) + (j : Int), z⟩]) := by show _ = _; rw [atG_take1 _ _ _ _ _ _ hz, List.append_assoc]
                        have hYl : (O1 ++ atG c q (F : Int) (P.take j)).length ≤ 1000 := by rw [List.length_append, atG_len, List.length_take]; omega
                        generalize O1 ++ atG c q (F : Int) (P.take j) = Y at *
                        subst hu8
                        obtain ⟨d0, d1, -, -⟩ := (hO.below hbj).facts
                        have hap : (Value.slice (some ⟨g5, 0, none⟩) P.length k9).ownBlock = none ∨ (Value.slice (some ⟨g5, 0, none⟩) P.length k9).ownBlock ≠ (Value.slice a8 Y.length k8).ownBlock := own_apart hpj hoj (by decide)
                        clear hz
                        have hwr : IntKind.i64.wrap ((F : Int) + (j : Int) + 1) = (F : Int) + (j : Int) + 1 := by rw [IntKind.wrap_i64]; omega
                        go_upto_region 30 with fail
                        go_region_law (refine step_append_lies _ (by rfl) (.tmp 101) (.tmp 109) 48 (by rfl) w5.heap.size 53 i0 (.agg #[.int .i64 0, .int .i64 0, .int .i64 0, .int .i64 0]) 4 32 Tryd.underlying48 hi0 hz0 hz1 hz2 rfl (by decide) (.slice a8 Y.length k8) Y.length (acs Y) (by simp [Act.eval]) (World.ownsRow.alloc (w := wr.drew) hoj _) ⟨wr.heap.size, 0, none⟩ 1 1 [.int .i64 c, .int .i64 q, .int .i64 ((F : Int) + (j : Int)), .int .i64 z] (by simp [Act.eval]) rfl (World.news_of_block (heap_alloc_new wr.drew _)) (by simp [Value.oneCell']) (by decide) (by unfold maxLen; omega) (by omega) (by have := hbj.size; simp; omega) (wr.heap.size + 1) (by simp) ?_; intro g cap w7 hown hgr hg hlt7)
                        all_goals (go_wp2_with fail)
                        all_goals exact ⟨⟨j + 1, by omega, by go_num, by go_num, by rw [HA.out, acs_append, acs_one, List.length_append]; exact hown, World.ownsRow.kept (w := (wr.alloc _).drew) (World.ownsRow.alloc hpj _) hgr hap, (Below.drew (hbj.alloc hbj.size _)).grown hgr (by have := hbj.size; simp; omega) (fun k hk => (hoj.lt k hk).1)⟩, by simp [Go.RowKit.intOf]; omega⟩
                      · obtain rfl : j = P.length := by omega
                        rw [List.take_length] at hoj
                        rw [List.take_length] at hu8
                        subst hu8
                        go_wp2_with fail
                        exact ⟨⟨k + 1, T + n, F + P.length, O1 ++ atG c q (F : Int) P, by omega, by go_num, by go_num, by go_num, HNx.out, hoj, hbj⟩, by simp [Go.RowKit.intOf]; omega⟩
                · obtain rfl : k = S.length := by omega
                  have hOR : O = R := by
                    have := hRI.out.all
                    rw [List.drop_length] at this
                    simpa [apA] using this
                  subst hOR
                  clear hRI
                  obtain ⟨a6, k6, rfl⟩ := own_form ho
                  have hBk := chain hB hbk
                  go_wp2_with fail
                  refine (cR _ _ (rda_own ho)).mono ?_
                  rintro e w9 ⟨u9, rfl, ho9, q9⟩
                  go_wp2_with fail
                  go_ret2
                  rw [HD.out.1, HD.out.2]
                  exact ⟨_, rfl, own_lower ho9 hBk.size, chain hBk q9⟩
      · have hbn : (((bsum (stR ds) : Nat) : Int) != ((ats l).length : Int)) = true := by simp; omega
        have HE : Hid (dcE l ds c q = 91) := by show _ = _; unfold dcE; rw [if_pos hg, if_pos hch, if_neg (by rw [hnu]; exact hb)]
        clear hr hi hsz hd hi2 hin hg hG hok hnu hbd hb hch cO
        generalize ats l = A at *
        generalize bsum (stR ds) = N at *
        go_enter Tryd.func22, Tryd.ntmps22
        go_wp2_with fail
        refine hck.mono ?_
        rintro e w1 ⟨rfl, q1⟩
        have hB := chain hA0 q1
        clear hck hO0 hA0 q1
        go_wp2_with fail
        refine (hbs _ hB).mono ?_
        rintro e w2 ⟨rfl, q2⟩
        replace hB := chain hB q2
        clear hbs q2
        go_wp2_with fail
        refine (cA _ hB).mono ?_
        rintro e w3 ⟨u3, rfl, ho3, q3⟩
        replace hB := chain hB q3
        obtain ⟨a3, k3, rfl⟩ := own_form ho3
        clear cA q3 ho3
        go_wp2_with fail
        go_ret2
        exact none_ 91 _ HE.out (by decide) hB
    · have HE : Hid (dcE l ds c q = chk ds) := by show _ = _; unfold dcE; rw [if_pos hg, if_neg hch]
      have hne : (chk ds != 0) = true := by simpa using hch
      have H0 : Hid (chk ds ≠ 0) := hch
      clear hr hi hsz hd hi2 hin hg hG hch
      generalize chk ds = X at *
      generalize bsum (stR ds) = N at *
      go_enter Tryd.func22, Tryd.ntmps22
      go_wp2_with fail
      refine hck.mono ?_
      rintro e w1 ⟨rfl, q1⟩
      have hB := chain hA0 q1
      clear hck hO0 hA0 q1
      go_wp2_with fail
      refine (hbs _ hB).mono ?_
      rintro e w2 ⟨rfl, q2⟩
      replace hB := chain hB q2
      clear hbs q2
      go_wp2_with fail
      go_ret2
      exact none_ _ _ HE.out H0.out hB
  · have HE : Hid (dcE l ds c q = 120) := by show _ = _; unfold dcE; rw [if_neg hg]
    have e1 : ckR l = 120 := by unfold ckR; rw [if_neg hg]
    rw [e1] at hck
    clear hr hg e1 hi hsz hd hi2 hin hbs
    go_enter Tryd.func22, Tryd.ntmps22
    go_wp2_with fail
    refine hck.mono ?_
    rintro e w1 ⟨rfl, q1⟩
    have hB := chain hA0 q1
    clear hck hO0 hA0 q1
    go_wp2_with fail
    go_ret2
    exact none_ 120 _ HE.out (by decide) hB
end Go.Proofs.YtnfnacjadmhclaaDoor

/-
  Deltas that came in, of bulk at most 1048576, opened; Copied.
-/
namespace Go.Proofs.YtnfnacjadmhclaaDoor
open Go.ChangeShapes Go.WideShapes Go.ChangeAt Go.RowKit Go.PlainAid

theorem bulk_len {H : Type} : ∀ (l : List (DataW H)), l.length ≤ Rows.uptoBulkAll l
  | [] => by simp
  | x :: r => by
    have := bulk_pos x
    have := bulk_len r
    simp only [Rows.uptoBulkAll, List.length_cons]; omega
theorem up_str {H : Type} {s : ByteArray} (h : Rows.uptoBulk (DataW.lit (.string s.data.toList) : DataW H) ≤ 1048576) : s.size ≤ 1048576 := by
  simp only [Rows.uptoBulk] at h
  rw [← data_len]; omega

set_option maxRecDepth 20000 in
theorem open_du {H : Type} {enc : TypeId × Value → H} {w : World} {spare : Nat → Bool} {held : Bool} {n : Nat} {cs : List Value} {x : DataW H × List MemPlace} (h : DataW.trod enc Tryd.prog w 0 spare held n 51 cs = some x) (hz : Rows.uptoBulk x.1 ≤ 1048576) :
    ∃ o : OpD, cs = [.int .i64 o.k, .int .i64 o.n, .string o.t] ∧ o.Sm := by
  obtain ⟨xs, m, _, hx, hl, _, hf⟩ := DataW.trod_struct Tryd.underlying51 h
  have h4 : Tryd.prog.cellsOf 51 = 3 := by kernel_rfl
  have c3 : Tryd.prog.cellsOf 3 = 1 := by kernel_rfl
  have c9 : Tryd.prog.cellsOf 9 = 1 := by kernel_rfl
  rw [h4] at hl
  have hxl : xs.length = 3 := by assumption
  match xs, hxl, cs, hl with
  | [y0, y1, y2], _, [v0, v1, v2], _ =>
    have g0 := hf 0 _ rfl
    have g1 := hf 1 _ rfl
    have g2 := hf 2 _ rfl
    simp [c3, c9] at g0 g1 g2
    obtain ⟨a0, e0, _, w0⟩ := DataW.trod_int Tryd.underlying3 g0
    obtain ⟨a1, e1, _, w1⟩ := DataW.trod_int Tryd.underlying3 g1
    obtain ⟨a2, e2, f2, w2⟩ := DataW.trod_string Tryd.underlying9 g2
    simp at e0 e1 e2
    have hb : a2.size ≤ 1048576 := by
      rw [hx] at hz
      simp only [List.map, Rows.uptoBulk, Rows.uptoBulkAll] at hz
      rw [f2] at hz
      simp only [Rows.uptoBulk] at hz
      rw [← data_len]
      omega
    exact ⟨⟨a0, a1, a2⟩, by rw [e0, e1, e2], hb⟩

set_option maxRecDepth 20000 in
/-- A delta, out of its value. -/
theorem open_dlu {H : Type} {enc : TypeId × Value → H} {w : World} {spare : Nat → Bool} {held : Bool} {fuel : Nat} {ao : Option Addr} {len cap : Nat} {x : DataW H × List MemPlace}
    (h : DataW.trod enc Tryd.prog w 0 spare held fuel 35 (Value.slice ao len cap).cells.toList = some x) (hz : Rows.uptoBulk x.1 ≤ 1048576) :
    ∃ l : List OpD, RdD w (.slice ao len cap) l ∧ l.length ≤ 1048576 ∧ ∀ o ∈ l, o.Sm := by
  rcases Go.Deep.open_slice Tryd.underlying35 h with ⟨hcs, _⟩ | ⟨a, l, c, m, n, D, Pl, hcs, _, hl, hmx, hmm, hx, hall⟩
  · simp [Value.cells] at hcs
    obtain ⟨rfl, rfl, rfl⟩ := hcs
    exact ⟨[], RdD.nil w, Nat.zero_le _, by simp⟩
  · simp [Value.cells] at hcs
    obtain ⟨rfl, rfl, rfl⟩ := hcs
    have hlm : len ≤ m := by rw [hmm]; split <;> omega
    have h4 : Tryd.prog.cellsOf 51 = 3 := by kernel_rfl
    rw [hx] at hz
    simp only [Rows.uptoBulk] at hz
    have hln : len ≤ 1048576 := by
      have := bulk_len ((List.range len).map D)
      simp only [List.length_map, List.length_range] at this
      omega
    have hzD : ∀ i, i < len → Rows.uptoBulk (D i) ≤ 1048576 := fun i hi => by
      have := bulk_mem (l := (List.range len).map D) (d := D i) (List.mem_map.2 ⟨i, List.mem_range.2 hi, rfl⟩)
      omega
    rw [h4] at hall
    obtain ⟨b, off, spot⟩ := a
    have hsp : ∀ i, i < len → spot = none := by
      intro i hi
      obtain ⟨cs', h1, h2⟩ := hall 0 (by omega)
      obtain ⟨o, rfl, ho⟩ := open_du h2 (hzD 0 (by omega))
      obtain ⟨_, _, hcell⟩ := World.cells?_some h1
      have e0 := hcell 0 (by omega)
      simp at e0
      have := World.cell?_spot e0
      simpa [Addr.add] using this
    have each : ∀ i, i < len → ∃ o : OpD, o.Sm ∧ spot = none ∧ b < w.heap.size ∧ w.cell? ⟨b, off + i * 3, none⟩ = some (.int .i64 o.k) ∧ w.cell? ⟨b, off + i * 3 + 1, none⟩ = some (.int .i64 o.n) ∧ w.cell? ⟨b, off + i * 3 + 2, none⟩ = some (.string o.t) := by
      intro i hi
      obtain ⟨cs', h1, h2⟩ := hall i (by omega)
      obtain ⟨o, rfl, ho⟩ := open_du h2 (hzD i hi)
      obtain ⟨_, _, hcell⟩ := World.cells?_some h1
      have e0 := hcell 0 (by omega)
      have e1 := hcell 1 (by omega)
      have e2 := hcell 2 (by omega)
      rw [Go.Deep.add_add] at e0 e1 e2
      simp at e0 e1 e2
      obtain rfl := hsp i hi
      have hadd : ∀ k, (⟨b, off, none⟩ : Addr).add k = ⟨b, off + k, none⟩ := fun k => by unfold Addr.add; split <;> simp_all
      rw [hadd] at e0 e1 e2
      exact ⟨o, ho, rfl, World.block_lt_of_cell? w _ e0, e0, by rw [Nat.add_assoc]; exact e1, by rw [Nat.add_assoc]; exact e2⟩
    obtain ⟨f, hf⟩ := @Go.Deep.choose_lt OpD ⟨⟨0, 0, ⟨#[]⟩⟩⟩ _ _ each
    have hlen : ((List.range len).map f).length = len := by simp
    refine ⟨(List.range len).map f, ⟨some ⟨b, off, spot⟩, cap, by rw [hlen], ⟨by rw [hlen]; omega, fun h => by cases h⟩, fun i o ho => ?_⟩, by rw [hlen]; omega, fun o ho => ?_⟩
    · have hi : i < len := by
        have := (List.getElem?_eq_some_iff.1 ho).1
        simpa using this
      simp [hi] at ho
      subst ho
      obtain ⟨_, rfl, r⟩ := hf i hi
      exact ⟨b, off, rfl, r⟩
    · obtain ⟨i, hi, rfl⟩ := List.mem_map.1 ho
      exact (hf i (List.mem_range.1 hi)).1

/-! ### Copied -/

theorem rdd_cells {w : World} {b off cp : Nat} {l : List OpD} (h : RdD w (.slice (some ⟨b, off, none⟩) l.length cp) l) : ∀ j u, (ocs l)[j]? = some u → w.cell? ((⟨b, off, none⟩ : Addr).add j) = some u := by
  intro j u hj
  have hj' : j < l.length * 3 := by have := (List.getElem?_eq_some_iff.1 hj).1; rwa [ocs_length] at this
  obtain ⟨ao, cp', e, _, hc⟩ := h
  obtain ⟨b', o', e1, _, c0, c1, c2⟩ := hc (j / 3) l[j / 3] (by simp [show j / 3 < l.length by omega])
  cases e
  cases e1
  obtain ⟨q0, q1, q2⟩ := ocs_at l (j / 3) l[j / 3] (by simp [show j / 3 < l.length by omega])
  rw [addr_add]
  rcases (show j = j / 3 * 3 ∨ j = j / 3 * 3 + 1 ∨ j = j / 3 * 3 + 2 by omega) with h | h | h
  · rw [h] at hj ⊢
    rw [c0, ← q0, hj]
  · rw [h] at hj ⊢
    rw [← Nat.add_assoc, c1, ← q1, hj]
  · rw [h] at hj ⊢
    rw [← Nat.add_assoc, c2, ← q2, hj]
theorem ocs_one' (l : List OpD) : ∀ u ∈ ocs l, u.oneCell' = true := by
  intro u hu
  simp only [ocs, List.mem_flatten, List.mem_map] at hu
  obtain ⟨_, ⟨o, _, rfl⟩, hu⟩ := hu
  exact three_one _ _ _ u hu

theorem app_ops (v : Value) (l : List OpD) (wr : World) (hw : RdD wr v l) (hx : l.length ≤ 4398046511104) (ty : TypeId) :
    ∃ v' w', (Builtin.append_ #[35, 35] ty #[.slice none 0 0, v]).run Tryd.prog wr = .ok v' w' ∧ w'.ownsRow wr.heap.size 51 3 v' l.length (ocs l) ∧ Below wr.heap.size wr w' := by
  obtain ⟨i0, hin, hz0, hz1, hz2⟩ := info_parts Tryd.infoOp
  by_cases h0 : l.length = 0
  · have : l = [] := List.eq_nil_of_length_eq_zero h0
    subst this
    obtain ⟨ao, cp, rfl, _, _⟩ := hw
    refine ⟨.slice none 0 0, wr, ?_, World.ownsRow_nil _ _ _ _, Below.refl _ _⟩
    cases ao with
    | none => simp [Builtin.append_, run_underlying Tryd.underlying35, sizeOf, typeInfo, hin, Builtin.lenOf, Builtin.firstCells]
    | some a => simp [Builtin.append_, run_underlying Tryd.underlying35, sizeOf, typeInfo, hin, Builtin.lenOf, Builtin.firstCells, loadCells, loadCellsFrom]
  · have hw' := hw
    obtain ⟨ao, cp, rfl, _, hc⟩ := hw
    obtain ⟨b, off, rfl, _⟩ := hc 0 l[0] (by simp [show 0 < l.length by omega])
    obtain ⟨v', w', h1, h2, h3, h4⟩ := run_append_own (P := Tryd.prog) wr wr.heap.size 35 ty 51 i0 (.agg #[.int .i64 0, .int .i64 0, .string ⟨#[]⟩]) 3 32 Tryd.underlying35 hin hz0 hz1 hz2 rfl (by decide) (.slice none 0 0) 0 [] (World.ownsRow_nil _ _ _ _) ⟨b, off, none⟩ l.length cp (ocs l) (by rw [ocs_length]) (rdd_cells hw') (ocs_one' l)
      (by unfold maxLen; omega) (by omega) (Nat.le_refl _)
    refine ⟨v', w', h1, ?_, ⟨h3.os, h3.tape, h3.output, h3.size, fun k hk => h3.block k hk (by simp [Value.ownBlock])⟩⟩
    simpa using h2
theorem wpList_app_ops {ops : Array Oper} {rest : List Oper} {o : Oper} {a : Act} {Q : Exit → Act → World → Prop} (wr : World) (hgd : o.guard = none) (sl x : Operand)
    (ho : o.op = .call { callee := .builtin .append, args := #[sl, x], argTypes := #[35, 35] }) (v : Value) (l : List OpD) (hs : a.eval sl = .slice none 0 0) (hx : a.eval x = v)
    (hw : RdD wr v l) (hl : l.length ≤ 4398046511104)
    (h : ∀ v' w', w'.ownsRow wr.heap.size 51 3 v' l.length (ocs l) → Below wr.heap.size wr w' → wpList Tryd.prog ops Q rest (a.put o.dst v') w') : wpList Tryd.prog ops Q (o :: rest) a wr := by
  refine wpList_plain hgd fun K hK => ?_
  obtain ⟨v', w', hr, h2, h3⟩ := app_ops v l wr hw hl o.type
  unfold Oper.wp execOp
  simp only [ho, resolve, invoke, builtin, Sem.run_bind, Sem.run_pure, Result.andThen_ok, List.map_toArray, List.map_cons, List.map_nil, hs, hx, hr]
  exact hK _ _ (h v' w' h2 h3)
theorem copied_any (v : Value) (l : List OpD) (w : World) (hr : RdD w v l) (hl : l.length ≤ 4398046511104) :
    Calls Tryd.prog 20 #[v] w fun e w' => ∃ u, e = .returned u ∧ w'.ownsRow w.heap.size 51 3 u l.length (ocs l) ∧ Below w.heap.size w w' := by
  go_enter Tryd.func20, Tryd.ntmps20
  go_wp2_with (at_builtin; refine wpList_app_ops _ rfl (.tmp 4) (.tmp 5) rfl v l rfl rfl hr hl ?_; intro v5 w5 ho5 hb5)
  go_ret
  exact ⟨_, rfl, ho5, hb5⟩
end Go.Proofs.YtnfnacjadmhclaaDoor
