/-
  Mono's rule where the last operations of a region wait for all the others: they go one by one, and may do what they like.
-/
import Derived.Test.YthhdpabelcgfjaaMono
import Derived.StillTail
namespace Go.Proofs.Ythhdpabelcgfjaa.mono
open Go.RowKit

section
variable {P : Program} {ops : Array Oper} {Q : Exit → Act → World → Prop}
/-- The first m are listed, the others not. -/
def heads (k m : Nat) : Array Bool := ((List.range k).map fun i => decide (i < m)).toArray
theorem heads_eq {k m : Nat} {listed : Array Bool} (hs : listed.size = k) (h1 : ∀ i, i < m → i < k → listed.getD i false = true) (h2 : ∀ i, m ≤ i → i < k → listed.getD i true = false) : listed = heads k m := by
  apply Array.ext
  · simp [heads, hs]
  · intro i hi hi'
    have hik : i < k := by omega
    simp only [heads, List.getElem_toArray, List.getElem_map, List.getElem_range]
    by_cases h : i < m
    · have := h1 i h hik
      simp only [Array.getD, hi, dite_true] at this
      rw [decide_eq_true h]
      simpa using this
    · have := h2 i (by omega) hik
      simp only [Array.getD, hi, dite_true] at this
      rw [decide_eq_false h]
      simpa using this
/-- None of the first m operations gives this slot. -/
def outT (ops : Array Oper) (m d : Nat) : Bool := (List.range m).all fun i => dst ops i != some d
def DutyT (P : Program) (ops : Array Oper) (Q : Exit → Act → World → Prop) (m n : Nat) (T : Nat → Value) (ds : List Deferred) (W : World) (φ : Nat → Value → World → Prop) (i : Nat) : Prop :=
  ∀ (o : Oper), ops[i]? = some o → ∀ (f : Nat → Value) (w : World), Below W.heap.size W w → (∀ d, outT ops m d = true → f d = T d) →
    (∀ j d, (o.after.any fun e => Region.binds .any e && e.on == j) = true → dst ops j = some d → φ j (f d) w) →
    ∀ K : Act → World → Prop, (∀ v w', Below w.heap.size w w' → φ i v w' → K ((lit n f ds).put o.dst v) w') → o.wp P (lit n f ds) w K Q
theorem dutyT_of {m n : Nat} {T : Nat → Value} {ds : List Deferred} {W : World} {φ : Nat → Value → World → Prop} {i : Nat} {o : Oper} (ho : ops[i]? = some o)
    (h : ∀ (f : Nat → Value) (w : World), Below W.heap.size W w → (∀ d, outT ops m d = true → f d = T d) →
      (∀ j d, (o.after.any fun e => Region.binds .any e && e.on == j) = true → dst ops j = some d → φ j (f d) w) →
      ∀ K : Act → World → Prop, (∀ v w', Below w.heap.size w w' → φ i v w' → K ((lit n f ds).put o.dst v) w') → o.wp P (lit n f ds) w K Q) : DutyT P ops Q m n T ds W φ i := by
  intro o' ho'
  rw [ho] at ho'
  obtain rfl := Option.some.inj ho'
  exact h
theorem wpAny_monoT {m n : Nat} {T : Nat → Value} {ds : List Deferred} {W : World} (φ : Nat → Value → World → Prop)
    (hst : ∀ i v w w', φ i v w → Below w.heap.size w w' → φ i v w') (ht : tidyS n [] ops = true) (hs : Region.sinkB .any ops m = true) (hc : Region.chainB .any ops m = true) (hm : m < ops.size) (hq : Region.seqB .any ops (ops.size - m) m (heads ops.size m) = true)
    (hd : ∀ i, i < m → DutyT P ops Q m n T ds W φ i)
    (hend : ∀ f w, Below W.heap.size W w → (∀ d, outT ops m d = true → f d = T d) → (∀ i d, i < m → dst ops i = some d → φ i (f d) w) → wpList P ops Q (ops.toList.drop m) (lit n f ds) w) :
    wpAny P .any ops Q ops.size (Array.replicate ops.size false) (lit n T ds) W := by
  have ht' : ∀ i, i < ops.size → (∀ o, ops[i]? = some o → o.guard = none ∧ ∀ e ∈ o.after, Region.binds .any e = true → e.on < i) ∧ ∀ j, j < ops.size → i ≠ j → ∀ d, dst ops i = some d → dst ops j ≠ some d := by
    intro i hi
    have h := List.all_eq_true.1 ht i (List.mem_range.2 hi)
    rw [Bool.and_eq_true] at h
    refine ⟨fun o ho => ?_, fun j hj hne d hd hd' => ?_⟩
    · have h1 := h.1
      rw [ho] at h1
      simp only [Option.map_some, Option.getD_some, Bool.and_eq_true] at h1
      refine ⟨?_, fun e he hbe => ?_⟩
      · rcases grd_of h1.1 with hg | ⟨j, b, d, -, hgm, -⟩
        · exact hg
        · cases hgm
      · have := (Array.all_eq_true_iff_forall_mem.1 h1.2) e he
        rw [hbe] at this
        simpa using this
    · have h2 := List.all_eq_true.1 h.2 j (List.mem_range.2 hj)
      rw [hd, hd'] at h2
      simp [hne] at h2
  have key : ∀ (f : Nat) (listed : Array Bool) (a : Act) (w : World), HeadInv .any ops m listed → left m listed = f →
      (∃ F, a = lit n F ds ∧ Below W.heap.size W w ∧ (∀ d, outT ops m d = true → F d = T d) ∧ ∀ j, listed.getD j false = true → ∀ d, dst ops j = some d → φ j (F d) w) → wpAny P .any ops Q (f + (ops.size - m)) listed a w := by
    intro f
    induction f with
    | zero =>
      rintro listed a w inv hl ⟨F, rfl, hB, hO, hL⟩
      have hall : ∀ i, i < m → i < ops.size → listed.getD i false = true := by
        intro i him hik
        cases hb : listed.getD i false with
        | true => rfl
        | false =>
          exfalso
          have hb' := getD_in (by rw [inv.size]; exact hik) hb
          have : i ∈ (List.range m).filter fun j => !listed.getD j true := by
            rw [List.mem_filter, List.mem_range]
            exact ⟨him, by simp [hb']⟩
          unfold left at hl
          rw [List.eq_nil_of_length_eq_zero hl] at this
          cases this
      have hh := heads_eq inv.size hall inv.tail
      have hlen : (ops.toList.drop m).length = ops.size - m := by simp
      rw [Nat.zero_add, ← hlen]
      refine wpAny_of_seq (md := .any) (Q' := Q) (ops.toList.drop m) m listed _ w (fun j => by simp [List.getElem?_drop]) (by rw [hlen, hh]; exact hq) (hend F w hB hO (fun i d him hid => hL i (hall i him (by omega)) d hid))
    | succ f ih =>
      rintro listed a w inv hl ⟨F, rfl, hB, hO, hL⟩
      have hex : ∃ i, i < m ∧ listed.getD i true = false := by
        apply Classical.byContradiction
        intro hn
        have : (List.range m).filter (fun j => !listed.getD j true) = [] := by
          apply List.filter_eq_nil_iff.2
          intro j hj hjt
          exact hn ⟨j, List.mem_range.1 hj, by simpa using hjt⟩
        unfold left at hl
        rw [this] at hl
        cases hl
      obtain ⟨i0, hi0, hu0⟩ := hex
      have hready : Region.ready .any ops listed ≠ [] := by
        have : ∀ i, i < m → listed.getD i true = false → ∃ j, j ∈ Region.ready .any ops listed := by
          intro i
          induction i using Nat.strongRecOn with
          | ind i ihi =>
            intro him hun
            by_cases hdep : ∀ e ∈ (ops[i]'(by omega)).after, Region.binds .any e = true → listed.getD e.on false = true
            · refine ⟨i, ?_⟩
              unfold Region.ready
              rw [List.mem_filter, List.mem_range, Bool.and_eq_true]
              refine ⟨by omega, by rw [hun]; rfl, ?_⟩
              rw [Array.getElem?_eq_getElem (by omega)]
              simp only [Option.map_some, Option.getD_some]
              apply Array.all_eq_true_iff_forall_mem.2
              intro e he
              by_cases hbe : Region.binds .any e = true
              · rw [hdep e he hbe]; simp
              · simp [hbe]
            · have : ∃ e, e ∈ (ops[i]'(by omega)).after ∧ Region.binds .any e = true ∧ listed.getD e.on false = false := by
                apply Classical.byContradiction
                intro hn
                refine hdep (fun e he hb => ?_)
                cases hx : listed.getD e.on false with
                | true => rfl
                | false => exact absurd ⟨e, he, hb, hx⟩ hn
              obtain ⟨e, he, hb, hx⟩ := this
              have hlt := ((ht' i (by omega)).1 _ (Array.getElem?_eq_getElem (by omega))).2 e he hb
              exact ihi e.on hlt (by omega) (getD_in (by rw [inv.size]; omega) hx)
        obtain ⟨j, hj⟩ := this i0 hi0 hu0
        intro h
        rw [h] at hj
        cases hj
      rw [show f + 1 + (ops.size - m) = (f + (ops.size - m)) + 1 by omega]
      refine ⟨fun h => absurd h hready, fun i hi => ?_⟩
      have him : i < m := by
        rcases Nat.lt_or_ge i m with h | h
        · exact h
        · exact absurd hi (tail_waits hs hc hm inv _ i0 rfl hi0 hu0 i h)
      obtain ⟨h1, h2, o, ho, hdep⟩ := ready_mem hi
      have hg := (ht' i h1).1 o ho
      have hleft := left_set him h2
      unfold wpOp
      rw [ho]
      have hw : Region.wanted o (yielded ops (lit n F ds).tmps) = true := by simp [Region.wanted, hg.1]
      simp only [hw, if_true]
      refine Or.inl (hd i him o ho F w hB hO ?_ _ ?_)
      · intro j d hj hjd
        obtain ⟨q, hq, hb⟩ := Array.any_eq_true.1 hj
        rw [Bool.and_eq_true, beq_iff_eq] at hb
        obtain ⟨hb, rfl⟩ := hb
        exact hL _ (hdep _ (Array.getElem_mem hq) hb) d hjd
      · intro v w' hb' hv
        have hdo : dst ops i = o.dst := by unfold dst; rw [ho]; rfl
        refine ih _ _ w' (inv.set hi him) (by omega) ⟨_, lit_put _ _ _ _ _, ⟨hb'.os.trans hB.os, hb'.tape.trans hB.tape, hb'.output.trans hB.output, Nat.le_trans hB.size hb'.size, fun k hk => (hb'.block k (Nat.lt_of_lt_of_le hk hB.size)).trans (hB.block k hk)⟩, fun d hod => ?_, fun j hj d hjd => ?_⟩
        · have : o.dst ≠ some d := by
            have := List.all_eq_true.1 hod i (List.mem_range.2 him)
            rw [hdo] at this
            simpa using this
          simp only [this, if_false]
          exact hO d hod
        · by_cases hji : j = i
          · subst hji
            rw [hdo] at hjd
            simp only [hjd, if_true]
            exact hv
          · have hjs : j < ops.size := by
              rcases Nat.lt_or_ge j ops.size with h | h
              · exact h
              · unfold dst at hjd
                rw [Array.getElem?_eq_none h] at hjd
                cases hjd
            have hne : o.dst ≠ some d := by
              rw [← hdo]
              exact fun e => (ht' j hjs).2 i h1 hji d hjd e
            simp only [hne, if_false]
            refine hst _ _ _ _ (hL j ?_ d hjd) hb'
            have hjl : j < listed.size := by rw [inv.size]; exact hjs
            have : (listed.setIfInBounds i true).getD j false = listed.getD j false := by
              simp only [Array.getD, Array.size_setIfInBounds, hjl, dite_true]
              rw [Array.getInternal_eq_getElem, Array.getInternal_eq_getElem, Array.getElem_setIfInBounds_ne _ (fun e => hji e.symm)]
            rw [this] at hj
            exact hj
  have inv0 : HeadInv .any ops m (Array.replicate ops.size false) :=
    ⟨by simp, fun j oj _ hl => (by rw [getD_replicate_false] at hl; cases hl), fun t _ ht => getD_in (by simpa using ht) (getD_replicate_false _ _)⟩
  have hl0 : left m (Array.replicate ops.size false) = m := by
    unfold left
    rw [List.filter_eq_self.2, List.length_range]
    intro j hj
    rw [getD_in (by simp; have := List.mem_range.1 hj; omega) (getD_replicate_false _ _)]
    rfl
  have := key m _ (lit n T ds) W inv0 hl0 ⟨T, rfl, Below.refl _ _, fun _ _ => rfl, fun j hj => by rw [getD_replicate_false] at hj; cases hj⟩
  rwa [show m + (ops.size - m) = ops.size by omega] at this
/-- A region that draws its order, whose last operations wait for all the others. -/
theorem region_monoT {id : Nat} {a : Act} {w : World} (φ : Nat → Value → World → Prop) (m n : Nat) (ds : List Deferred) (rs : List Nat) (hm : P.follows .mixedOrders = true) (hn : a.tmps.size = n) (hds : a.defers = ds) (hrs : List.range m = rs) (ht : tidyS n [] ops = true) (hs : Region.sinkB .any ops m = true) (hc : Region.chainB .any ops m = true) (hmk : decide (m < ops.size) = true) (hq : Region.seqB .any ops (ops.size - m) m (heads ops.size m) = true)
    (hst : ∀ i v w w', φ i v w → Below w.heap.size w w' → φ i v w')
    (hd : Each (DutyT P ops Q m n (fun d => a.tmps.getD d undef) ds w.drew φ) rs)
    (hend : ∀ f w', Below w.drew.heap.size w.drew w' → (∀ d, outT ops m d = true → f d = a.tmps.getD d undef) → (∀ i d, i < m → dst ops i = some d → φ i (f d) w') → wpList P ops Q (ops.toList.drop m) (lit n f ds) w') :
    (Code.region id ops true).wp P Q a w := by
  subst hds
  refine wp_region_any hm ?_
  show wpAny P .any ops Q ops.size (Array.replicate ops.size false) a w.drew
  have e := lit_of a
  rw [hn] at e
  have := wpAny_monoT (P := P) (Q := Q) (T := fun d => a.tmps.getD d undef) (ds := a.defers) φ hst ht hs hc (of_decide_eq_true hmk) hq (fun i hi => hd.at i (hrs ▸ List.mem_range.2 hi)) hend
  rw [← e] at this
  exact this
end
end Go.Proofs.Ythhdpabelcgfjaa.mono
