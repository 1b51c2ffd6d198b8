/-
  The reference's At.
-/
import Derived.Test.YtnfnacjadmhclaaDoorDqG
import Derived.Test.YtnfnacjadmhclaaDoorDpG
import Derived.Deep.CondSized
namespace Go.Proofs.YtnfnacjadmhclaaDoor
open Go.ChangeShapes Go.WideShapes Go.ChangeAt Go.RowKit Go.PlainAid

/-- The atom's answer. -/
def atX : Option Atm → Int × Int × Int × Bool
  | some x => (x.c, x.q, x.n, true)
  | none => (0, 0, 0, false)
theorem atF_ats : ∀ (l : List RunD), (∀ r ∈ l, r.Ok) → ∀ i : Nat, atF l (i : Int) = atX (ats l)[i]?
  | [], _, i => by simp [atF, ats, atX]
  | r :: l, h, i => by
    have ho : r.Ok := h r (by simp)
    unfold RunD.Ok at ho
    have hpl := pts_len (t := r.t) (by omega)
    have hrl : r.ats.length = (pts r.t).length := by unfold RunD.ats; rw [atG_len]
    rw [atF, ats_cons]
    by_cases hi : (i : Int) < cpl r.t
    · rw [if_pos hi, List.getElem?_append_left (by omega)]
      unfold RunD.ats
      rw [atG_at r.c r.q (pts r.t) r.f i ((pts r.t)[i]'(by omega)) (by simp [show i < (pts r.t).length by omega])]
      rfl
    · rw [if_neg hi, List.getElem?_append_right (by omega), hrl, show (i : Int) - cpl r.t = ((i - (pts r.t).length : Nat) : Int) by omega]
      exact atF_ats l (fun x hx => h x (by simp [hx])) _

set_option maxRecDepth 20000 in
set_option maxHeartbeats 1000000 in
theorem rat_any (v : Value) (l : List RunD) (i : Int) (w : World) (hr : RdN w v l) (hm : l.length ≤ 1125899906842624) (hi : ∀ r ∈ l, r.Bd) (hsz : ∀ r ∈ l, r.t.size ≤ 1048576) (hir : i ≤ 9223372036854775807) :
    Calls Tryd.prog 14 #[v, .int .i64 i] w fun e w' => e = .returned (atA (atR l i)) ∧ Below w.heap.size w w' := by
  have hA0 : Below w.heap.size w (w.alloc (.cells #[.int .i64 0, .int .i64 0] 29)) := (Below.refl _ w).alloc (Nat.le_refl _) _
  have hO0 : OB (w.alloc (.cells #[.int .i64 0, .int .i64 0] 29)) w.heap.size 0 0 := heap_alloc_new w _
  have hck := rcheck_any v l _ (hr.below hA0) hm hi hsz
  obtain ⟨ao, cp, hv, -⟩ := id hr
  subst hv
  by_cases hg : ckG [] none l = true
  · have hG := (good_iff l).1 hg
    rw [ckR_zero.2 hG] at hck
    have hok : ∀ r ∈ l, r.Ok := fun r hr => (hG.fit r hr).ok
    have hlA : (ats l).length ≤ 1000 := by rw [← num_ats hok]; exact hG.len
    have hbd := hG.bound
    have cA : ∀ W, Below w.heap.size w W → _ := fun W hb => atoms_any (.slice ao l.length cp) l W (hr.below hb) hok hsz (fun r hr => by obtain ⟨-, m2, m3, m4⟩ := mayR_iff.1 (hG.may r hr); omega) (by omega) (by omega)
    have HR : Hid (0 ≤ i → atR l i = atX (ats l)[i.toNat]?) := fun h0 => by unfold atR; rw [if_pos ⟨hg, h0⟩, ← atF_ats l hok, Int.toNat_of_nonneg h0]
    have HZ : Hid (¬ 0 ≤ i → atR l i = (0, 0, 0, false)) := fun h0 => by unfold atR; rw [if_neg (fun h => h0 h.2)]
    clear hg hG hok hbd hi hsz hr
    generalize ats l = A at *
    by_cases h0 : 0 ≤ i
    · by_cases h1 : i < (A.length : Int)
      · obtain ⟨k, rfl⟩ : ∃ k : Nat, i = (k : Int) := ⟨i.toNat, by omega⟩
        have hkA : k < A.length := by omega
        obtain ⟨x, hx⟩ : ∃ x, A[k]? = some x := ⟨A[k], by simp [hkA]⟩
        have HF : Hid (atR l (k : Int) = (x.c, x.q, x.n, true)) := by show _ = _; rw [HR.out h0, Int.toNat_natCast, hx]; rfl
        clear HR HZ
        go_enter Tryd.func14, Tryd.ntmps14
        go_upto_region 6 with (first | (go_at_call 15; refine hck.mono ?_; rintro e w1 ⟨rfl, hb1⟩; have hO1 := hO0.below hb1; have hB1 := chain hA0 hb1) | (go_at_call 29; refine (cA _ hB1).mono ?_; rintro e w2 ⟨u2, rfl, ho2, hb2⟩; have hO2 := hO1.below hb2; have hB2 := chain hB1 hb2; have rA := rda_own ho2; obtain ⟨a2, k2, rfl⟩ := own_form ho2))
        obtain ⟨ba, oa, rfl, hba, x0, x1, x2, -⟩ := rda_at rA hx
        obtain ⟨d0, d1, f0, f1⟩ := hO2.facts
        have hne : ¬ ba = w.heap.size := by
          obtain ⟨g, c, e, hg1, -⟩ := ho2.form (by omega)
          injection e with e _ _
          cases e
          have := hB1.size
          have := heap_lt hO1
          omega
        have hFin : OB ((w2.setCell ⟨w.heap.size, 0, none⟩ (.int .i64 x.c)).setCell ⟨w.heap.size, 1, none⟩ (.int .i64 x.q)).drew w.heap.size x.c x.q := hO2.set x.c x.q
        have hBF := (bl_set2 hB2 (Nat.le_refl _) (.int .i64 x.c) (.int .i64 x.q)).drew
        clear rA ho2 hx hO0 hO1 hO2 hA0 hB1 hB2 hck cA hb1 hb2
        go_region
        all_goals
          go_wp2_with fail
        all_goals
          refine bodyPost_ret (results_c3 rfl _ _ w.heap.size 29 _ (0, 0) _ rfl hFin Tryd.underlying29 rfl Tryd.sizeOr _ _ rfl rfl) rfl ?_
          rw [HF.out]
          exact ⟨rfl, hBF⟩
      · have HF : Hid (atR l i = (0, 0, 0, false)) := by show _ = _; rw [HR.out h0, List.getElem?_eq_none (by omega)]; rfl
        clear HR HZ
        go_enter Tryd.func14, Tryd.ntmps14
        go_wp2_with (first | (go_at_call 15; refine hck.mono ?_; rintro e w1 ⟨rfl, hb1⟩; have hO1 := hO0.below hb1; have hB1 := chain hA0 hb1) | (go_at_call 29; refine (cA _ hB1).mono ?_; rintro e w2 ⟨u2, rfl, ho2, hb2⟩; have hO2 := hO1.below hb2; have hB2 := chain hB1 hb2; obtain ⟨a2, k2, rfl⟩ := own_form ho2; obtain ⟨d0, d1, f0, f1⟩ := hO2.facts))
        refine bodyPost_ret (results_c3 rfl _ _ w.heap.size 29 _ (0, 0) _ rfl (hO2.set 0 0) Tryd.underlying29 rfl Tryd.sizeOr _ _ rfl rfl) rfl ?_
        rw [HF.out]
        exact ⟨rfl, bl_set2 hB2 (Nat.le_refl _) (.int .i64 0) (.int .i64 0)⟩
    · have HF : Hid (atR l i = (0, 0, 0, false)) := HZ.out h0
      clear HR HZ
      go_enter Tryd.func14, Tryd.ntmps14
      go_wp2_with (first | (go_at_call 15; refine hck.mono ?_; rintro e w1 ⟨rfl, hb1⟩; have hO1 := hO0.below hb1; have hB1 := chain hA0 hb1) | (go_at_call 29; refine (cA _ hB1).mono ?_; rintro e w2 ⟨u2, rfl, ho2, hb2⟩; have hO2 := hO1.below hb2; have hB2 := chain hB1 hb2; obtain ⟨a2, k2, rfl⟩ := own_form ho2; obtain ⟨d0, d1, f0, f1⟩ := hO2.facts))
      refine bodyPost_ret (results_c3 rfl _ _ w.heap.size 29 _ (0, 0) _ rfl (hO2.set 0 0) Tryd.underlying29 rfl Tryd.sizeOr _ _ rfl rfl) rfl ?_
      rw [HF.out]
      exact ⟨rfl, bl_set2 hB2 (Nat.le_refl _) (.int .i64 0) (.int .i64 0)⟩
  · have HF : Hid (atR l i = (0, 0, 0, false)) := by show _ = _; unfold atR; rw [if_neg (fun h => hg h.1)]
    have e1 : ckR l = 120 := by unfold ckR; rw [if_neg hg]
    rw [e1] at hck
    clear hr hg e1 hi hsz
    go_enter Tryd.func14, Tryd.ntmps14
    go_wp2_with (go_at_call 15; refine hck.mono ?_; rintro e w1 ⟨rfl, hb1⟩; have hO1 := hO0.below hb1; have hB1 := chain hA0 hb1; obtain ⟨d0, d1, f0, f1⟩ := hO1.facts)
    refine bodyPost_ret (results_c3 rfl _ _ w.heap.size 29 _ (0, 0) _ rfl (hO1.set 0 0) Tryd.underlying29 rfl Tryd.sizeOr _ _ rfl rfl) rfl ?_
    rw [HF.out]
    exact ⟨rfl, bl_set2 hB1 (Nat.le_refl _) (.int .i64 0) (.int .i64 0)⟩
end Go.Proofs.YtnfnacjadmhclaaDoor

/-
  Documents that came in, of bulk at most 1048576, opened.
-/
namespace Go.Proofs.YtnfnacjadmhclaaDoor
open Go.RowKit Go.ChangeShapes Go.WideShapes Go.ChangeAt Go.PlainAid

theorem bulk_pos {H : Type} (d : DataW H) : 1 ≤ Rows.uptoBulk d := by
  cases d with
  | lit l => cases l <;> simp [Rows.uptoBulk]
  | _ => simp [Rows.uptoBulk]
theorem bulk_mem {H : Type} : ∀ {l : List (DataW H)} {d : DataW H}, d ∈ l → Rows.uptoBulk d ≤ Rows.uptoBulkAll l
  | x :: r, d, hd => by
    simp only [Rows.uptoBulkAll]
    rcases List.mem_cons.1 hd with rfl | h
    · omega
    · have := bulk_mem h; omega
theorem up_mem {H : Type} {ds : List (DataW H)} {d : DataW H} (hk : Rows.uptoSmall H ds = true) (h : d ∈ ds) : Rows.uptoBulk d ≤ 1048576 := by
  have h1 : Rows.uptoBulkAll ds ≤ 1048576 := by simpa [Rows.uptoSmall] using hk
  have := bulk_mem h
  omega
theorem bulk_runs {H : Type} : ∀ (l : List RunD) (ds : List (DataW H)), ds.length = l.length → (∀ (i : Nat) r d, l[i]? = some r → ds[i]? = some d → ∃ d0 d1 : DataW H, d = .agg [d0, d1, .lit (.string r.t.data.toList)]) → l.length + (txB l).length ≤ Rows.uptoBulkAll ds
  | [], _, _, _ => by simp [txB]
  | r :: l, [], h, _ => by simp at h
  | r :: l, d :: ds, h, hd => by
    have h1 := bulk_runs l ds (by simpa using h) (fun i r d a b => hd (i + 1) r d (by simpa using a) (by simpa using b))
    obtain ⟨d0, d1, rfl⟩ := hd 0 r d (by simp) (by simp)
    have e : txB (r :: l) = r.t.data.toList ++ txB l := by simp [txB]
    rw [e, List.length_append, List.length_cons]
    simp only [Rows.uptoBulkAll, Rows.uptoBulk]
    omega

set_option maxRecDepth 20000 in
/-- Runs, out of their value, with their data. -/
theorem open_rni {H : Type} {enc : TypeId × Value → H} {w : World} {spare : Nat → Bool} {held : Bool} {fuel : Nat} {ao : Option Addr} {len cap : Nat} {x : DataW H × List MemPlace}
    (h : DataW.trod enc Tryd.prog w 0 spare held fuel 22 (Value.slice ao len cap).cells.toList = some x) :
    ∃ l : List RunD, RdN w (.slice ao len cap) l ∧ (∀ r ∈ l, r.Bd) ∧ (l = [] ∨ ∃ (D : Nat → DataW H) (sp : List (DataW H)), x.1 = .slice ((List.range l.length).map D) sp ∧ ∀ i r, l[i]? = some r → ∃ d0 d1 : DataW H, D i = .agg [d0, d1, .lit (.string r.t.data.toList)]) := by
  rcases Go.Deep.open_slice Tryd.underlying22 h with ⟨hcs, _⟩ | ⟨a, l, c, m, n, D, Pl, hcs, _, hl, hmx, hmm, hx, hall⟩
  · simp [Value.cells] at hcs
    obtain ⟨rfl, rfl, rfl⟩ := hcs
    exact ⟨[], RdN.nil w, by simp, .inl rfl⟩
  · simp [Value.cells] at hcs
    obtain ⟨rfl, rfl, rfl⟩ := hcs
    have hlm : len ≤ m := by rw [hmm]; split <;> omega
    have h4 : Tryd.prog.cellsOf 41 = 4 := by kernel_rfl
    rw [h4] at hall
    obtain ⟨b, off, spot⟩ := a
    have hsp : ∀ i, i < len → spot = none := by
      intro i hi
      obtain ⟨cs', h1, h2⟩ := hall 0 (by omega)
      obtain ⟨o, _, _, rfl, _⟩ := open_rn h2
      obtain ⟨_, _, hcell⟩ := World.cells?_some h1
      have e0 := hcell 0 (by omega)
      simp at e0
      have := World.cell?_spot e0
      simpa [Addr.add] using this
    have each : ∀ i, i < len → ∃ o : RunD, (o.Bd ∧ ∃ d0 d1 : DataW H, D i = .agg [d0, d1, .lit (.string o.t.data.toList)]) ∧ spot = none ∧ b < w.heap.size ∧ w.cell? ⟨b, off + i * 4, none⟩ = some (.int .i64 o.c) ∧ w.cell? ⟨b, off + i * 4 + 1, none⟩ = some (.int .i64 o.q) ∧ w.cell? ⟨b, off + i * 4 + 2, none⟩ = some (.int .i64 o.f) ∧ w.cell? ⟨b, off + i * 4 + 3, none⟩ = some (.string o.t) := by
      intro i hi
      obtain ⟨cs', h1, h2⟩ := hall i (by omega)
      obtain ⟨o, d0, d1, rfl, ho, hd⟩ := open_rn h2
      obtain ⟨_, _, hcell⟩ := World.cells?_some h1
      have e0 := hcell 0 (by omega)
      have e1 := hcell 1 (by omega)
      have e2 := hcell 2 (by omega)
      have e3 := hcell 3 (by omega)
      rw [Go.Deep.add_add] at e0 e1 e2 e3
      simp at e0 e1 e2 e3
      obtain rfl := hsp i hi
      have hadd : ∀ k, (⟨b, off, none⟩ : Addr).add k = ⟨b, off + k, none⟩ := fun k => by unfold Addr.add; split <;> simp_all
      rw [hadd] at e0 e1 e2 e3
      simp only at hd
      exact ⟨o, ⟨ho, d0, d1, hd⟩, rfl, World.block_lt_of_cell? w _ e0, e0, by rw [Nat.add_assoc]; exact e1, by rw [Nat.add_assoc]; exact e2, by rw [Nat.add_assoc]; exact e3⟩
    obtain ⟨f, hf⟩ := @Go.Deep.choose_lt RunD ⟨⟨0, 0, 0, ⟨#[]⟩⟩⟩ _ _ each
    have hlen : ((List.range len).map f).length = len := by simp
    refine ⟨(List.range len).map f, ⟨some ⟨b, off, spot⟩, cap, by rw [hlen], by rw [hlen]; omega, fun i o ho => ?_⟩, fun o ho => ?_, .inr ⟨D, _, by rw [hlen, hx], fun i r hr => ?_⟩⟩
    · have hi : i < len := by
        have := (List.getElem?_eq_some_iff.1 ho).1
        simpa using this
      simp [hi] at ho
      subst ho
      obtain ⟨_, rfl, r⟩ := hf i hi
      exact ⟨b, off, rfl, r⟩
    · obtain ⟨i, hi, rfl⟩ := List.mem_map.1 ho
      exact (hf i (List.mem_range.1 hi)).1.1
    · have hi : i < len := by
        have := (List.getElem?_eq_some_iff.1 hr).1
        simpa using this
      simp [hi] at hr
      subst hr
      exact (hf i hi).1.2


theorem open_rnu {H : Type} {enc : TypeId × Value → H} {w : World} {spare : Nat → Bool} {held : Bool} {fuel : Nat} {ao : Option Addr} {len cap : Nat} {x : DataW H × List MemPlace}
    (h : DataW.trod enc Tryd.prog w 0 spare held fuel 22 (Value.slice ao len cap).cells.toList = some x) (hz : Rows.uptoBulk x.1 ≤ 1048576) :
    ∃ l : List RunD, RdN w (.slice ao len cap) l ∧ (l.length ≤ 1048576 ∧ (txB l).length ≤ 1048576) ∧ ∀ r ∈ l, r.Bd := by
  obtain ⟨l, h1, h2, h3⟩ := open_rni h
  refine ⟨l, h1, ?_, h2⟩
  rcases h3 with rfl | ⟨D, sp, hx, hD⟩
  · simp [txB]
  · rw [hx] at hz
    simp only [Rows.uptoBulk] at hz
    have := bulk_runs l ((List.range l.length).map D) (by simp) (fun i r d a b => by
      have hi : i < l.length := (List.getElem?_eq_some_iff.1 a).1
      simp [hi] at b
      rw [← b]
      exact hD i r a)
    omega
end Go.Proofs.YtnfnacjadmhclaaDoor
