/-
  The contract of Apply.
-/
import Derived.Test.YtnfnacjadmhclaaDoorDoY
namespace Go.Proofs.YtnfnacjadmhclaaDoor
open Go.WideShapes Go.RowKit Go.ChangeShapes Go.ChangeAt Go.PlainAid

theorem size_nil {t : ByteArray} (h : t.size = 0) : t = ⟨#[]⟩ := by
  apply ByteArray.ext
  exact Array.eq_empty_of_size_eq_zero h
theorem st_back {o : OpD} {s : St} (h : stOf o = some s) : s.op = o := by
  obtain ⟨k, n, t⟩ := o
  unfold stOf at h
  simp only at h
  split at h
  · rename_i h1
    obtain ⟨h1, h2, h3⟩ := h1
    have ht := size_nil h3
    split at h
    · rename_i h4
      injection h with h
      subst h
      subst h4
      subst ht
      show (⟨1, _, _⟩ : OpD) = _
      congr 1
      omega
    · split at h
      · rename_i h4
        injection h with h
        subst h
        subst h4
        subst ht
        show (⟨3, _, _⟩ : OpD) = _
        congr 1
        omega
      · cases h
  · split at h
    · rename_i h4
      injection h with h
      subst h
      obtain ⟨rfl, rfl, -⟩ := h4
      rfl
    · cases h
theorem stl_back : ∀ {ds : List OpD}, ds.any (fun o => (stOf o).isNone) = false → (stl ds).map St.op = ds
  | [], _ => rfl
  | o :: ds, h => by
    simp only [List.any_cons, Bool.or_eq_false_iff] at h
    obtain ⟨h1, h2⟩ := h
    cases hs : stOf o with
    | none => rw [hs] at h1; cases h1
    | some s =>
      have : stl (o :: ds) = s :: stl ds := by simp [stl, hs]
      rw [this, List.map_cons, st_back hs, stl_back h2]
theorem stR_back {ds : List OpD} (h : chk ds = 0) : (stR ds).map St.op = ds := by
  rw [chk_yes ds h]
  apply stl_back
  unfold chk at h
  split at h
  · cases h
  · split at h
    · cases h
    · rename_i h2
      simpa using h2
theorem isum_le : ∀ (ds : List St), (∀ s ∈ ds, s.Ok) → isum ds ≤ tsum ds
  | [], _ => by simp [isum, tsum]
  | s :: ds, h => by
    have ih := isum_le ds (fun x hx => h x (by simp [hx]))
    have e : tsum (s :: ds) = s.c + tsum ds := by simp [tsum]
    rw [e]
    cases s with
    | keep k => simp only [isum]; omega
    | rem k => simp only [isum]; omega
    | ins t =>
      have := (h (.ins t) (by simp)).1
      simp only [isum, St.c]
      omega
end Go.Proofs.YtnfnacjadmhclaaDoor

/-
  The contract of Apply.
-/
namespace Go.Proofs.YtnfnacjadmhclaaDoor
open Go.WideShapes Go.RowKit Go.ChangeShapes Go.ChangeAt Go.PlainAid

/-- What Apply answers: the error. -/
def dcE (l : List RunD) (ds : List OpD) (c q : Int) : Int :=
  if ckG [] none l = true then (if chk ds = 0 then (if bsum (stR ds) = num l then (if orM c q = true ∧ l.any (orQ c q) = false then 0 else 1) else 91) else chk ds) else 120
/-- .. and the document. -/
def dcL (l : List RunD) (ds : List OpD) (c q : Int) : List RunD :=
  if ckG [] none l = true then (if chk ds = 0 then (if bsum (stR ds) = num l then (if orM c q = true ∧ l.any (orQ c q) = false then adR c q [] l 0 (stR ds) else []) else []) else []) else []

set_option maxRecDepth 20000 in
set_option maxHeartbeats 1000000 in
theorem docApply_any (v vd : Value) (l : List RunD) (ds : List OpD) (c q : Int) (w : World) (hV : VS w) (hr : RdN w v l) (hm : l.length ≤ 1125899906842624) (hi : ∀ r ∈ l, r.In) (hd : RdD w vd ds) (hm2 : ds.length ≤ maxLen) (hi2 : ∀ o ∈ ds, o.In) :
    Calls Tryd.prog 21 #[v, vd, .agg #[.int .i64 c, .int .i64 q]] w fun e w' => ∃ u, e = .returned (.tuple #[u, .int .i64 (dcE l ds c q)]) ∧ w'.ownsRow w.heap.size 41 4 u (dcL l ds c q).length (rcs (dcL l ds c q)) ∧ Below w.heap.size w w' := by
  have hA0 : Below w.heap.size w (w.alloc (.cells #[.int .i64 c, .int .i64 q] 29)) := (Below.refl _ w).alloc (Nat.le_refl _) _
  have hO0 : OB (w.alloc (.cells #[.int .i64 c, .int .i64 q] 29)) w.heap.size c q := heap_alloc_new w _
  have hck := check_any v l _ (hV.below hA0) (hr.below hA0) hm hi
  have hbs : ∀ w1, Below w.heap.size w w1 → _ := fun w1 hb => base_any vd ds w1 (hd.below hb) hm2 hi2
  obtain ⟨ao, cp, hv, -⟩ := id hr
  subst hv
  obtain ⟨ao2, cp2, hv2, -⟩ := id hd
  subst hv2
  cases hg : ckG [] none l with
  | false =>
    have e1 : ckR l = 120 := by unfold ckR; rw [hg]; rfl
    have e2 : Hid (dcE l ds c q = 120 ∧ dcL l ds c q = []) := ⟨by unfold dcE; rw [hg]; rfl, by unfold dcL; rw [hg]; rfl⟩
    rw [e1] at hck
    clear e1 hg hr hd
    go_enter Tryd.func21, Tryd.ntmps21
    go_wp2_with (go_at_call 10; refine hck.mono ?_; rintro e w1 ⟨rfl, hb1⟩)
    go_ret2
    rw [e2.out.1, e2.out.2]
    exact ⟨_, rfl, World.ownsRow_nil _ _ _ _, chain hA0 hb1⟩
  | true =>
    have hG := (good_iff l).1 hg
    rw [ckR_zero.2 hG] at hck
    by_cases hc : chk ds = 0
    · have hbd := hG.bound
      have hlen := docLen_any (.slice ao l.length cp) l
      rw [txt_cpl l (fun r hr => (hG.fit r hr).ok)] at hlen
      have hln : ∀ w1, Below w.heap.size w w1 → Calls Tryd.prog 12 #[.slice ao l.length cp] w1 fun e w' => e = .returned (.int .i64 (num l : Int)) ∧ Below w1.heap.size w1 w' := fun w1 hb => hlen w1 (hV.below hb) (hr.below hb) hm (by omega)
      rw [hc] at hbs
      clear hlen
      have hio := isOrigin_any c q
      have hct : ∀ w1, Below w.heap.size w w1 → OB w1 w.heap.size c q → _ := fun w1 hb hO => contains_any (.slice ao l.length cp) l w.heap.size c q w1 (hr.below hb) hm hO
      have hmf : ∀ (fn : Fn) (first cap : Array Value) (w : World), (Instr.makeFunc fn first cap).run Tryd.prog w = .ok (.func fn first cap) w := fun _ _ _ _ => rfl
      by_cases hb : bsum (stR ds) = num l
      · rw [hb] at hbs
        cases ho : orM c q
        · have e2 : Hid (dcE l ds c q = 1 ∧ dcL l ds c q = []) := ⟨by unfold dcE; rw [hg, if_pos rfl, if_pos hc, if_pos hb, ho]; rfl, by unfold dcL; rw [hg, if_pos rfl, if_pos hc, if_pos hb, ho]; rfl⟩
          rw [ho] at hio
          clear hr hd
          go_enter Tryd.func21, Tryd.ntmps21
          go_wp2_with (first | (go_at_call 10; refine hck.mono ?_; rintro e w1 ⟨rfl, hb1⟩; have hB1 := chain hA0 hb1; have hO1 := hO0.below hb1) | (go_at_call 40; refine (hbs _ hB1).mono ?_; rintro e w2 ⟨rfl, hb2⟩; have hB2 := chain hB1 hb2; have hO2 := hO1.below hb2) | (go_at_call 12; refine (hln _ hB2).mono ?_; rintro e w3 ⟨rfl, hb3⟩; have hB3 := chain hB2 hb3; have hO3 := hO2.below hb3; obtain ⟨d0, d1, -, -⟩ := hO3.facts) | (go_at_call 41; refine (hio w3).mono ?_; rintro e w4 ⟨rfl, hb4⟩; have hB4 := chain hB3 hb4; have hO4 := hO3.below hb4))
          go_ret2
          rw [e2.out.1, e2.out.2]
          exact ⟨_, rfl, World.ownsRow_nil _ _ _ _, hB4⟩
        · rw [ho] at hio
          cases ha : l.any (orQ c q)
          · have e2 : Hid (dcE l ds c q = 0 ∧ dcL l ds c q = adR c q [] l 0 (stR ds)) := ⟨by unfold dcE; rw [hg, if_pos rfl, if_pos hc, if_pos hb, ho, ha]; rfl, by unfold dcL; rw [hg, if_pos rfl, if_pos hc, if_pos hb, ho, ha]; rfl⟩
            rw [ha] at hct
            have hap : ∀ w1, Below w.heap.size w w1 → _ := fun w1 hb => docApplied_any (.slice ao l.length cp) (.slice ao2 ds.length cp2) l (stR ds) c q w1 (hV.below hb) (hr.below hb) (by rw [stR_back hc]; exact hd.below hb) hG.fit hbd.2 hbd.1 (stR_len ds) (stR_ok hi2) (by have h1 := isum_le (stR ds) (stR_ok hi2); have h2 := (stR_bd ds).2; omega)
            clear hr hd
            go_enter Tryd.func21, Tryd.ntmps21
            go_wp2_with (first | (go_at_call 10; refine hck.mono ?_; rintro e w1 ⟨rfl, hb1⟩; have hB1 := chain hA0 hb1; have hO1 := hO0.below hb1) | (go_at_call 40; refine (hbs _ hB1).mono ?_; rintro e w2 ⟨rfl, hb2⟩; have hB2 := chain hB1 hb2; have hO2 := hO1.below hb2) | (go_at_call 12; refine (hln _ hB2).mono ?_; rintro e w3 ⟨rfl, hb3⟩; have hB3 := chain hB2 hb3; have hO3 := hO2.below hb3; obtain ⟨d0, d1, -, -⟩ := hO3.facts) | (go_at_call 41; refine (hio w3).mono ?_; rintro e w4 ⟨rfl, hb4⟩; have hB4 := chain hB3 hb4; have hO4 := hO3.below hb4) | (go_at_call 42; refine (hct _ hB4 hO4).mono ?_; rintro e w5 ⟨rfl, hb5⟩; have hB5 := chain hB4 hb5; have hO5 := hO4.below hb5; obtain ⟨g0, g1, -, -⟩ := hO5.facts) | (go_at_call 44; refine (hap _ hB5).mono ?_; rintro e w6 ⟨u6, rfl, ho6, hb6⟩; obtain ⟨a6, c6, rfl⟩ := own_form ho6))
            go_ret2
            rw [e2.out.1, e2.out.2]
            exact ⟨_, rfl, own_lower ho6 hB5.size, chain hB5 hb6⟩
          · have e2 : Hid (dcE l ds c q = 1 ∧ dcL l ds c q = []) := ⟨by unfold dcE; rw [hg, if_pos rfl, if_pos hc, if_pos hb, ho, ha]; rfl, by unfold dcL; rw [hg, if_pos rfl, if_pos hc, if_pos hb, ho, ha]; rfl⟩
            rw [ha] at hct
            clear hr hd
            go_enter Tryd.func21, Tryd.ntmps21
            go_wp2_with (first | (go_at_call 10; refine hck.mono ?_; rintro e w1 ⟨rfl, hb1⟩; have hB1 := chain hA0 hb1; have hO1 := hO0.below hb1) | (go_at_call 40; refine (hbs _ hB1).mono ?_; rintro e w2 ⟨rfl, hb2⟩; have hB2 := chain hB1 hb2; have hO2 := hO1.below hb2) | (go_at_call 12; refine (hln _ hB2).mono ?_; rintro e w3 ⟨rfl, hb3⟩; have hB3 := chain hB2 hb3; have hO3 := hO2.below hb3; obtain ⟨d0, d1, -, -⟩ := hO3.facts) | (go_at_call 41; refine (hio w3).mono ?_; rintro e w4 ⟨rfl, hb4⟩; have hB4 := chain hB3 hb4; have hO4 := hO3.below hb4) | (go_at_call 42; refine (hct _ hB4 hO4).mono ?_; rintro e w5 ⟨rfl, hb5⟩; have hB5 := chain hB4 hb5; have hO5 := hO4.below hb5; obtain ⟨g0, g1, -, -⟩ := hO5.facts))
            go_ret2
            rw [e2.out.1, e2.out.2]
            exact ⟨_, rfl, World.ownsRow_nil _ _ _ _, hB5⟩
      · have e2 : Hid (dcE l ds c q = 91 ∧ dcL l ds c q = []) := ⟨by unfold dcE; rw [hg, if_pos rfl, if_pos hc, if_neg hb], by unfold dcL; rw [hg, if_pos rfl, if_pos hc, if_neg hb]⟩
        have hbn : ((bsum (stR ds) : Int) != (num l : Int)) = true := by rw [bne_iff_ne]; omega
        clear hr hd
        go_enter Tryd.func21, Tryd.ntmps21
        go_wp2_with (first | (go_at_call 10; refine hck.mono ?_; rintro e w1 ⟨rfl, hb1⟩; have hB1 := chain hA0 hb1; have hO1 := hO0.below hb1) | (go_at_call 40; refine (hbs _ hB1).mono ?_; rintro e w2 ⟨rfl, hb2⟩; have hB2 := chain hB1 hb2; have hO2 := hO1.below hb2) | (go_at_call 12; refine (hln _ hB2).mono ?_; rintro e w3 ⟨rfl, hb3⟩; have hB3 := chain hB2 hb3; have hO3 := hO2.below hb3; obtain ⟨d0, d1, -, -⟩ := hO3.facts))
        go_ret2
        rw [e2.out.1, e2.out.2]
        exact ⟨_, rfl, World.ownsRow_nil _ _ _ _, hB3⟩
    · have e2 : Hid (dcE l ds c q = chk ds ∧ dcL l ds c q = []) := ⟨by unfold dcE; rw [hg, if_pos rfl, if_neg hc], by unfold dcL; rw [hg, if_pos rfl, if_neg hc]⟩
      have hc' : (chk ds != 0) = true := by simpa using hc
      rw [chk_no ds hc] at hbs
      clear hr hd
      go_enter Tryd.func21, Tryd.ntmps21
      go_wp2_with (first | (go_at_call 10; refine hck.mono ?_; rintro e w1 ⟨rfl, hb1⟩; have hB1 := chain hA0 hb1) | (go_at_call 40; refine (hbs _ hB1).mono ?_; rintro e w2 ⟨rfl, hb2⟩))
      go_ret2
      rw [e2.out.1, e2.out.2]
      exact ⟨_, rfl, World.ownsRow_nil _ _ _ _, chain hB1 hb2⟩
end Go.Proofs.YtnfnacjadmhclaaDoor

/-
  The contract of the reference's Same, of a document and itself.
-/
namespace Go.Proofs.YtnfnacjadmhclaaDoor
open Go.WideShapes Go.RowKit Go.ChangeShapes Go.ChangeAt Go.PlainAid

set_option maxRecDepth 20000 in
set_option maxHeartbeats 2000000 in
theorem docSame_true (va vb : Value) (l : List RunD) (w : World) (hm : l.length ≤ 1125899906842624) (ha : RdN w va l) (hb : RdN w vb l) :
    Calls Tryd.prog 18 #[va, vb] w fun e w' => e = .returned (.bool true) ∧ Below w.heap.size w w' := by
  obtain ⟨ao, ac, rfl, _, hac⟩ := ha
  obtain ⟨bo, bc, rfl, _, hbc⟩ := hb
  go_enter Tryd.func18, Tryd.ntmps18
  go_wp2
  go_loopw [5] (fun i wr => ∃ k : Nat, k ≤ l.length ∧ i = .int .i64 (k : Int) ∧ Below w.heap.size w wr) (fun i _ => l.length - (intOf i).toNat)
  case atStart => exact ⟨0, by omega, rfl, Below.refl _ _⟩
  case round =>
    obtain ⟨k, hk, rfl, hbl⟩ := hrel
    by_cases hlt : k < l.length
    · have hlt' : (k : Int) < (l.length : Int) := by omega
      obtain ⟨b1, o1, rfl, hb1, c0, c1, c2, c3⟩ := hac k l[k] (by simp [hlt])
      obtain ⟨b2, o2, rfl, hb2, d0, d1, d2, d3⟩ := hbc k l[k] (by simp [hlt])
      have hB1 : ∀ o, wr.cell? ⟨b1, o, none⟩ = w.cell? ⟨b1, o, none⟩ := fun o => hbl.cell (p := ⟨b1, o, none⟩) hb1
      have hB2 : ∀ o, wr.cell? ⟨b2, o, none⟩ = w.cell? ⟨b2, o, none⟩ := fun o => hbl.cell (p := ⟨b2, o, none⟩) hb2
      rw [← hB1] at c0 c1 c2 c3
      rw [← hB2] at d0 d1 d2 d3
      clear hB1 hB2 hac hbc
      generalize l[k] = o at *
      go_wp2
      go_quiet (fail)
      go_wp2
      go_roundw
      case rel => exact ⟨k + 1, by omega, by go_num, below_drewN hbl _⟩
      case measure => simp [intOf]; omega
    · clear hac hbc
      go_wp2
      go_ret
      exact ⟨rfl, hbl⟩
end Go.Proofs.YtnfnacjadmhclaaDoor

/-
  A document that may be, told by its atoms.
-/
namespace Go.Proofs.YtnfnacjadmhclaaDoor
open Go.WideShapes Go.RowKit Go.ChangeShapes Go.ChangeAt Go.PlainAid

/-- What tells an atom from others. -/
def Atm.key (x : Atm) : AtK := (x.c, x.q, x.n)
theorem atG_key (c q : Int) : ∀ (zs : List Int) (n : Int), (atG c q n zs).map Atm.key = (List.range zs.length).map (fun i : Nat => (c, q, n + (i : Int)))
  | [], _ => rfl
  | z :: zs, n => by
    rw [atG, List.map_cons, atG_key c q zs (n + 1), List.length_cons, List.range_succ_eq_map, List.map_cons, List.map_map]
    congr 1
    · simp [Atm.key]
    · apply List.map_congr_left
      intro i _
      simp only [Function.comp, Nat.succ_eq_add_one, Prod.mk.injEq, true_and]
      omega
theorem kys_ats {r : RunD} (h : r.Ok) : r.kys = r.ats.map Atm.key := by
  have h0 := pts_len (t := r.t) (by unfold RunD.Ok at h; omega)
  unfold RunD.ats
  rw [atG_key]
  unfold RunD.kys
  congr 2
  omega
theorem kysL_ats : ∀ {l : List RunD}, (∀ r ∈ l, r.Ok) → kysL l = (ats l).map Atm.key
  | [], _ => rfl
  | r :: l, h => by rw [kysL_cons, ats_cons, List.map_append, kys_ats (h r (by simp)), kysL_ats (fun x hx => h x (by simp [hx]))]
theorem sg_nodup : ∀ (ks S : List AtK), (sg S ks).isSome = true ↔ (∀ k ∈ ks, k ∉ S) ∧ ks.Nodup
  | [], S => by simp [sg]
  | k :: ks, S => by
    rw [sg]
    by_cases h : k ∈ S
    · rw [if_pos h]
      simp [h]
    · rw [if_neg h, sg_nodup ks (S ++ [k])]
      simp only [List.mem_append, List.nodup_cons, List.mem_cons, forall_eq_or_imp, List.not_mem_nil, or_false]
      constructor
      · rintro ⟨h1, h2⟩
        exact ⟨⟨h, fun x hx hs => h1 x hx (.inl hs)⟩, fun hk => h1 k hk (.inr rfl), h2⟩
      · rintro ⟨⟨_, h1⟩, h2, h3⟩
        exact ⟨fun x hx hs => hs.elim (h1 x hx) (fun e => h2 (e ▸ hx)), h3⟩
/-- May an atom be? -/
def Atm.May (x : Atm) : Prop := orM x.c x.q = true ∧ 0 ≤ x.n ∧ x.n ≤ 999
theorem atG_mem (c q : Int) : ∀ (zs : List Int) (n : Int) (x : Atm), x ∈ atG c q n zs → x.c = c ∧ x.q = q ∧ n ≤ x.n ∧ x.n < n + zs.length
  | [], _, x, h => by simp [atG] at h
  | z :: zs, n, x, h => by
    rw [atG] at h
    simp only [List.length_cons]
    rcases List.mem_cons.1 h with rfl | h
    · exact ⟨rfl, rfl, Int.le_refl _, by show n < _; omega⟩
    · obtain ⟨h1, h2, h3, h4⟩ := atG_mem c q zs (n + 1) x h
      exact ⟨h1, h2, by omega, by omega⟩
theorem atG_has (c q : Int) : ∀ (zs : List Int) (n : Int) (i : Nat), i < zs.length → ∃ x ∈ atG c q n zs, x.c = c ∧ x.q = q ∧ x.n = n + i
  | [], _, i, h => by simp at h
  | z :: zs, n, 0, _ => ⟨⟨c, q, n, z⟩, by simp [atG], rfl, rfl, by simp⟩
  | z :: zs, n, i + 1, h => by
    obtain ⟨x, h1, h2, h3, h4⟩ := atG_has c q zs (n + 1) i (by simpa using h)
    exact ⟨x, by simp [atG, h1], h2, h3, by rw [h4]; simp; omega⟩
theorem may_ats {r : RunD} (h : r.Ok) : mayR r = true ↔ ∀ x ∈ r.ats, x.May := by
  have h0 := pts_len (t := r.t) (by unfold RunD.Ok at h; omega)
  unfold RunD.Ok at h
  constructor
  · intro hm x hx
    obtain ⟨m1, m2, m3, m4⟩ := mayR_iff.1 hm
    obtain ⟨a1, a2, a3, a4⟩ := atG_mem _ _ _ _ _ hx
    exact ⟨by rw [a1, a2]; exact m1, by omega, by omega⟩
  · intro hx
    obtain ⟨x, x1, x2, x3, x4⟩ := atG_has r.c r.q (pts r.t) r.f 0 (by omega)
    obtain ⟨y, y1, y2, y3, y4⟩ := atG_has r.c r.q (pts r.t) r.f ((pts r.t).length - 1) (by omega)
    have mx := hx x x1
    have my := hx y y1
    refine mayR_iff.2 ⟨by have := mx.1; rwa [x2, x3] at this, h, by have := mx.2.1; rw [x4] at this; simpa using this, ?_⟩
    have := my.2.2
    rw [y4] at this
    omega
/-- THE MEASURE OF A DOCUMENT: it stands as it must, and its atoms may be. -/
theorem good_ats {l : List RunD} : Good l ↔ Can l ∧ (∀ x ∈ ats l, x.May) ∧ ((ats l).map Atm.key).Nodup ∧ (ats l).length ≤ 1000 := by
  constructor
  · intro h
    have ho : ∀ r ∈ l, r.Ok := fun r hr => (h.fit r hr).ok
    have e := kysL_ats ho
    refine ⟨h.can, fun x hx => ?_, ?_, ?_⟩
    · simp only [ats, List.mem_flatten, List.mem_map] at hx
      obtain ⟨_, ⟨r, hr, rfl⟩, hx⟩ := hx
      exact (may_ats (ho r hr)).1 (h.may r hr) x hx
    · rw [← e]
      exact ((sg_nodup _ _).1 h.one).2
    · have := h.len
      rw [e, List.length_map] at this
      exact this
  · rintro ⟨h1, h2, h3, h4⟩
    have ho := h1.all
    have e := kysL_ats ho
    refine ⟨fun r hr => (may_ats (ho r hr)).2 (fun x hx => h2 x ?_), h1, ?_, by rw [e, List.length_map]; exact h4⟩
    · simp only [ats, List.mem_flatten, List.mem_map]
      exact ⟨_, ⟨r, hr, rfl⟩, hx⟩
    · rw [sg_nodup, e]
      exact ⟨by simp, h3⟩
theorem num_ats {l : List RunD} (h : ∀ r ∈ l, r.Ok) : num l = (ats l).length := by unfold num; rw [kysL_ats h, List.length_map]
end Go.Proofs.YtnfnacjadmhclaaDoor

/-
  A document cut in two and joined again.
-/
namespace Go.Proofs.YtnfnacjadmhclaaDoor
open Go.WideShapes Go.RowKit Go.ChangeShapes Go.ChangeAt Go.PlainAid

theorem sl_is {l : List RunD} (h : Good l) {f t : Nat} (hf : f ≤ t) (ht : t ≤ num l) : slE l f t = 0 ∧ slL l f t = wtL [] (tkG (t - f) (tkG f l).2).1 := by
  have hg := (good_iff l).2 h
  have hc : (0 : Int) ≤ (f : Int) ∧ (f : Int) ≤ (t : Int) ∧ (t : Int) ≤ (num l : Int) := ⟨by omega, by omega, by omega⟩
  have e : ((t : Int) - (f : Int)).toNat = t - f := by omega
  refine ⟨by unfold slE; rw [hg, if_pos rfl, if_pos hc], ?_⟩
  unfold slL
  rw [hg, if_pos rfl, if_pos hc, e, Int.toNat_natCast]
theorem sl_ats {l : List RunD} (h : Good l) {f t : Nat} (hf : f ≤ t) (ht : t ≤ num l) : Can (slL l f t) ∧ ats (slL l f t) = ((ats l).drop f).take (t - f) := by
  rw [(sl_is h hf ht).2]
  obtain ⟨_, a2, _, a4⟩ := tkG_ats l f (fun r hr => (h.fit r hr).ok)
  obtain ⟨b1, _, b3, _⟩ := tkG_ats (tkG f l).2 (t - f) a4
  obtain ⟨c1, c2⟩ := wtL_can (l := []) (more := (tkG (t - f) (tkG f l).2).1) trivial b3
  exact ⟨c1, by rw [c2, b1, a2, ats_nil, List.nil_append]⟩
theorem good_sub {l m : List RunD} (h : Good l) (hc : Can m) (hs : (ats m).Sublist (ats l)) : Good m := by
  obtain ⟨_, h2, h3, h4⟩ := good_ats.1 h
  exact good_ats.2 ⟨hc, fun x hx => h2 x (hs.subset hx), h3.sublist (hs.map _), Nat.le_trans hs.length_le h4⟩
theorem sl_good {l : List RunD} (h : Good l) {f t : Nat} (hf : f ≤ t) (ht : t ≤ num l) : Good (slL l f t) := by
  obtain ⟨h1, h2⟩ := sl_ats h hf ht
  exact good_sub h h1 (by rw [h2]; exact (List.take_sublist _ _).trans (List.drop_sublist _ _))
theorem jn_ats {a b : List RunD} (ha : Good a) (hb : Good b) : Can (jn2 a b) ∧ ats (jn2 a b) = ats a ++ ats b := by
  obtain ⟨c1, c2⟩ := wtL_can (l := []) (more := a) trivial (fun r hr => (ha.fit r hr).ok)
  obtain ⟨d1, d2⟩ := wtL_can (l := wtL [] a) (more := b) c1 (fun r hr => (hb.fit r hr).ok)
  exact ⟨d1, by unfold jn2; rw [d2, c2, ats_nil, List.nil_append]⟩
/-- Cut anywhere and joined, it is itself. -/
theorem back_eq {l : List RunD} (h : Good l) {k : Nat} (hk : k ≤ num l) : jnE (slL l 0 k) (slL l k (num l)) = 0 ∧ jnL (slL l 0 k) (slL l k (num l)) = l := by
  have z : ((0 : Nat) : Int) = 0 := rfl
  have ha := sl_good h (f := 0) (t := k) (by omega) hk
  have hb := sl_good h (f := k) (t := num l) hk (Nat.le_refl _)
  obtain ⟨_, a2⟩ := sl_ats h (f := 0) (t := k) (by omega) hk
  obtain ⟨_, b2⟩ := sl_ats h (f := k) (t := num l) hk (Nat.le_refl _)
  rw [z] at ha a2
  obtain ⟨c1, c2⟩ := jn_ats ha hb
  have hn := num_ats (fun r hr => (h.fit r hr).ok)
  have e : jn2 (slL l 0 k) (slL l k (num l)) = l := by
    apply can_inj c1 h.can
    rw [c2, a2, b2, List.drop_zero, Nat.sub_zero, List.take_of_length_le (l := (ats l).drop k) (by rw [List.length_drop, hn]; omega), List.take_append_drop]
  have hB : jnB (slL l 0 k) (slL l k (num l)) = true := by
    unfold jnB
    rw [e, (good_iff _).2 ha, (good_iff _).2 hb, (good_iff _).2 h]
    rfl
  exact ⟨by unfold jnE; rw [hB]; rfl, by unfold jnL; rw [hB, if_pos rfl, e]⟩
end Go.Proofs.YtnfnacjadmhclaaDoor
