/-
  A region that draws its order, none of whose operations takes back what another one has done: each gives a value of which something holds from then on, whatever memory is made later.
-/
import Derived.Test.YtjimolafoihnpaaDoorProg
import Derived.WalkKit
import Derived.Orders
import Derived.Deep.AppendLies
namespace Go.Proofs.YtjimolafoihnpaaDoor.mono
open Go.RowKit

/-- How many are still to come. -/
def left (n : Nat) (listed : Array Bool) : Nat := ((List.range n).filter fun i => !listed.getD i true).length

theorem left_set {n : Nat} {listed : Array Bool} {i : Nat} (hi : i < n) (h : listed.getD i true = false) : left n (listed.setIfInBounds i true) + 1 = left n listed := by
  have key : ∀ (l : List Nat), l.Nodup → i ∈ l → (l.filter fun j => !(listed.setIfInBounds i true).getD j true).length + 1 = (l.filter fun j => !listed.getD j true).length := by
    intro l
    induction l with
    | nil => intro _ h; cases h
    | cons x l ih =>
      intro hd hm
      rw [List.nodup_cons] at hd
      by_cases hx : x = i
      · subst hx
        have e1 : (listed.setIfInBounds x true).getD x true = true := by simp [Array.getD]
        have e2 : l.filter (fun j => !(listed.setIfInBounds x true).getD j true) = l.filter (fun j => !listed.getD j true) := by
          apply List.filter_congr
          intro j hj
          have hne : x ≠ j := fun e => hd.1 (e ▸ hj)
          simp only [Array.getD]
          congr 1
          simp only [Array.size_setIfInBounds]
          split
          · rw [Array.getInternal_eq_getElem, Array.getInternal_eq_getElem, Array.getElem_setIfInBounds_ne _ hne]
          · rfl
        simp only [List.filter_cons, e1, h, e2]
        simp
      · have hm' : i ∈ l := by
          rcases List.mem_cons.1 hm with e | e
          · exact absurd e.symm hx
          · exact e
        have e1 : (listed.setIfInBounds i true).getD x true = listed.getD x true := by
          simp only [Array.getD, Array.size_setIfInBounds]
          split
          · rw [Array.getInternal_eq_getElem, Array.getInternal_eq_getElem, Array.getElem_setIfInBounds_ne _ (fun e => hx e.symm)]
          · rfl
        have := ih hd.2 hm'
        simp only [List.filter_cons, e1]
        split
        · simp only [List.length_cons]; omega
        · exact this
  exact key (List.range n) List.nodup_range (List.mem_range.2 hi)
theorem ready_mem {md : Region.Mode} {ops : Array Oper} {listed : Array Bool} {i : Nat} (h : i ∈ Region.ready md ops listed) : i < ops.size ∧ listed.getD i true = false ∧ ∃ o, ops[i]? = some o ∧ ∀ e ∈ o.after, Region.binds md e = true → listed.getD e.on false = true := by
  unfold Region.ready at h
  rw [List.mem_filter, List.mem_range, Bool.and_eq_true] at h
  obtain ⟨h1, h2, h3⟩ := h
  refine ⟨h1, by simpa using h2, ops[i], by simp [h1], fun e he hb => ?_⟩
  rw [Array.getElem?_eq_getElem h1] at h3
  simp only [Option.map_some, Option.getD_some] at h3
  have := (Array.all_eq_true_iff_forall_mem.1 h3) e he
  rw [hb] at this
  simpa using this
theorem ready_nil {md : Region.Mode} {ops : Array Oper} {listed : Array Bool} (h : left ops.size listed = 0) : Region.ready md ops listed = [] := by
  apply List.eq_nil_iff_forall_not_mem.2
  intro i hi
  obtain ⟨h1, h2, _⟩ := ready_mem hi
  have : i ∈ (List.range ops.size).filter fun j => !listed.getD j true := by
    rw [List.mem_filter, List.mem_range]
    exact ⟨h1, by simp [h2]⟩
  unfold left at h
  rw [List.eq_nil_of_length_eq_zero h] at this
  cases this

section
variable {P : Program} {ops : Array Oper} {Q : Exit → Act → World → Prop}
/-- An invariant of a region's every order. -/
theorem wpAny_inv (I : Array Bool → Act → World → Prop)
    (hend : ∀ listed a w, I listed a w → Region.ready .any ops listed = [] → Q .normal a w)
    (hstep : ∀ listed a w i, I listed a w → listed.size = ops.size → i ∈ Region.ready .any ops listed → wpOp P ops Q i (fun a' w' => I (listed.setIfInBounds i true) a' w') a w) :
    ∀ (fuel : Nat) (listed : Array Bool) (a : Act) (w : World), listed.size = ops.size → left ops.size listed ≤ fuel → I listed a w → wpAny P .any ops Q fuel listed a w
  | 0, listed, a, w, hs, hf, hI => by
    have := ready_nil (md := .any) (ops := ops) (listed := listed) (by omega)
    exact ⟨this, hend listed a w hI this⟩
  | fuel + 1, listed, a, w, hs, hf, hI => by
    refine ⟨hend listed a w hI, fun i hi => ?_⟩
    obtain ⟨h1, h2, _⟩ := ready_mem hi
    have hl := left_set h1 h2
    exact wpOp_mono (fun a' w' h => wpAny_inv I hend hstep fuel _ a' w' (by simpa using hs) (by omega) h) (hstep listed a w i hI hs hi)
end


def dst (ops : Array Oper) (i : Nat) : Option Tmp := (ops[i]?).bind (·.dst)
/-- No operation is guarded, each hangs on earlier ones alone, no two give the same slot. -/
def tidyB (ops : Array Oper) : Bool :=
  (List.range ops.size).all fun i => (((ops[i]?).map fun o => o.guard.isNone && o.after.all fun e => decide (e.on < i)).getD true) &&
    (List.range ops.size).all fun j => i == j || (dst ops i).isNone || dst ops i != dst ops j
/-- No operation gives this slot. -/
def outer (ops : Array Oper) (d : Nat) : Bool := (List.range ops.size).all fun i => dst ops i != some d
/-- A frame whose slots are given by number. -/
def lit (n : Nat) (f : Nat → Value) (ds : List Deferred) : Act := ⟨((List.range n).map f).toArray, ds⟩

theorem lit_of (a : Act) : a = lit a.tmps.size (fun d => a.tmps.getD d undef) a.defers := by
  obtain ⟨t, ds⟩ := a
  show (⟨t, ds⟩ : Act) = ⟨_, ds⟩
  congr 1
  apply Array.ext
  · simp
  · intro i h1 h2
    simp [h1]
theorem lit_put (n : Nat) (f : Nat → Value) (ds : List Deferred) (d : Option Tmp) (v : Value) : (lit n f ds).put d v = lit n (fun x => if d = some x then v else f x) ds := by
  cases d with
  | none => simp [Act.put, lit]
  | some d =>
    show (⟨_, ds⟩ : Act) = ⟨_, ds⟩
    congr 1
    apply Array.ext
    · simp [lit]
    · intro i h1 h2
      simp only [lit]
      rw [Array.getElem_setIfInBounds (by simpa [lit] using h1)]
      simp only [List.getElem_toArray, List.getElem_map, List.getElem_range, Option.some.injEq]

section
variable {P : Program} {ops : Array Oper} {Q : Exit → Act → World → Prop}
/-- What one operation owes: out of what those gave on which it hangs, in whatever world behind the first. -/
def Duty (P : Program) (ops : Array Oper) (Q : Exit → Act → World → Prop) (n : Nat) (T : Nat → Value) (ds : List Deferred) (W : World) (φ : Nat → Value → World → Prop) (i : Nat) : Prop :=
  ∀ (o : Oper), ops[i]? = some o → ∀ (f : Nat → Value) (w : World), Below W.heap.size W w → (∀ d, outer ops d = true → f d = T d) →
    (∀ j d, (o.after.any fun e => Region.binds .any e && e.on == j) = true → dst ops j = some d → φ j (f d) w) →
    ∀ K : Act → World → Prop, (∀ v w', Below w.heap.size w w' → φ i v w' → K ((lit n f ds).put o.dst v) w') → o.wp P (lit n f ds) w K Q

theorem wpAny_mono {n : Nat} {T : Nat → Value} {ds : List Deferred} {W : World} (φ : Nat → Value → World → Prop)
    (hst : ∀ i v w w', φ i v w → Below w.heap.size w w' → φ i v w') (ht : tidyB ops = true)
    (hd : ∀ i, i < ops.size → Duty P ops Q n T ds W φ i)
    (hend : ∀ f w, Below W.heap.size W w → (∀ d, outer ops d = true → f d = T d) → (∀ i d, dst ops i = some d → φ i (f d) w) → Q .normal (lit n f ds) w) :
    wpAny P .any ops Q ops.size (Array.replicate ops.size false) (lit n T ds) W := by
  have ht' : ∀ i, i < ops.size → (∀ o, ops[i]? = some o → o.guard = none ∧ ∀ e ∈ o.after, e.on < i) ∧ ∀ j, j < ops.size → i ≠ j → ∀ d, dst ops i = some d → dst ops j ≠ some d := by
    intro i hi
    have h := List.all_eq_true.1 ht i (List.mem_range.2 hi)
    rw [Bool.and_eq_true] at h
    refine ⟨fun o ho => ?_, fun j hj hne d hd hd' => ?_⟩
    · have h1 := h.1
      rw [ho] at h1
      simp only [Option.map_some, Option.getD_some, Bool.and_eq_true, Option.isNone_iff_eq_none] at h1
      refine ⟨h1.1, fun e he => ?_⟩
      have := (Array.all_eq_true_iff_forall_mem.1 h1.2) e he
      simpa using this
    · have h2 := List.all_eq_true.1 h.2 j (List.mem_range.2 hj)
      rw [hd, hd'] at h2
      simp [hne] at h2
  refine wpAny_inv (fun listed a w => listed.size = ops.size ∧ ∃ f, a = lit n f ds ∧ Below W.heap.size W w ∧ (∀ d, outer ops d = true → f d = T d) ∧ ∀ j, listed.getD j false = true → ∀ d, dst ops j = some d → φ j (f d) w) ?_ ?_ ops.size _ _ _ (by simp) ?_ ?_
  · rintro listed a w ⟨hs, f, rfl, hB, hO, hL⟩ hr
    have hall : ∀ i, i < ops.size → listed.getD i false = true := by
      intro i
      induction i using Nat.strongRecOn with
      | ind i ih =>
        intro hi
        by_cases hb : listed.getD i false = true
        · exact hb
        · exfalso
          have hm : i ∈ Region.ready .any ops listed := by
            unfold Region.ready
            rw [List.mem_filter, List.mem_range, Bool.and_eq_true]
            refine ⟨hi, ?_, ?_⟩
            · have hi' : i < listed.size := by omega
              simp only [Array.getD, hi', dite_true] at hb ⊢
              simpa using hb
            · rw [Array.getElem?_eq_getElem hi]
              simp only [Option.map_some, Option.getD_some]
              apply Array.all_eq_true_iff_forall_mem.2
              intro e he
              have hlt := ((ht' i hi).1 _ (Array.getElem?_eq_getElem hi)).2 e he
              rw [ih e.on hlt (by omega)]
              simp
          rw [hr] at hm
          cases hm
    refine hend f w hB hO fun i d hid => ?_
    have hi : i < ops.size := by
      rcases Nat.lt_or_ge i ops.size with h | h
      · exact h
      · unfold dst at hid
        rw [Array.getElem?_eq_none h] at hid
        cases hid
    exact hL i (hall i hi) d hid
  · rintro listed a w i ⟨hs, f, rfl, hB, hO, hL⟩ - hi
    obtain ⟨h1, -, o, ho, hdep⟩ := ready_mem hi
    have hg := (ht' i h1).1 o ho
    unfold wpOp
    rw [ho]
    have hw : Region.wanted o (yielded ops (lit n f ds).tmps) = true := by simp [Region.wanted, hg.1]
    simp only [hw, if_true]
    refine Or.inl (hd i h1 o ho f w hB hO ?_ _ ?_)
    · intro j d hj hjd
      obtain ⟨q, hq, hb⟩ := Array.any_eq_true.1 hj
      rw [Bool.and_eq_true, beq_iff_eq] at hb
      obtain ⟨hb, rfl⟩ := hb
      exact hL _ (hdep _ (Array.getElem_mem hq) hb) d hjd
    · intro v w' hb' hv
      have hdo : dst ops i = o.dst := by unfold dst; rw [ho]; rfl
      refine ⟨by simpa using hs, _, lit_put _ _ _ _ _, ⟨hb'.os.trans hB.os, hb'.tape.trans hB.tape, hb'.output.trans hB.output, Nat.le_trans hB.size hb'.size, fun k hk => (hb'.block k (Nat.lt_of_lt_of_le hk hB.size)).trans (hB.block k hk)⟩, fun d hod => ?_, fun j hj d hjd => ?_⟩
      · have : o.dst ≠ some d := by
          have := List.all_eq_true.1 hod i (List.mem_range.2 h1)
          rw [hdo] at this
          simpa using this
        simp only [this, if_false]
        exact hO d hod
      · by_cases hji : j = i
        · subst hji
          rw [hdo] at hjd
          simp only [hjd, if_true]
          exact hv
        · have hjs : j < ops.size := by
            rcases Nat.lt_or_ge j ops.size with h | h
            · exact h
            · unfold dst at hjd
              rw [Array.getElem?_eq_none h] at hjd
              cases hjd
          have hne : o.dst ≠ some d := by
            rw [← hdo]
            exact fun e => (ht' j hjs).2 i h1 hji d hjd e
          simp only [hne, if_false]
          refine hst _ _ _ _ (hL j ?_ d hjd) hb'
          have hjl : j < listed.size := by omega
          have : (listed.setIfInBounds i true).getD j false = listed.getD j false := by
            simp only [Array.getD, Array.size_setIfInBounds, hjl, dite_true]
            rw [Array.getInternal_eq_getElem, Array.getInternal_eq_getElem, Array.getElem_setIfInBounds_ne _ (fun e => hji e.symm)]
          rw [this] at hj
          exact hj
  · unfold left
    exact Nat.le_trans (List.length_filter_le _ _) (by simp)
  · refine ⟨by simp, T, rfl, Below.refl _ _, fun _ _ => rfl, fun j hj => ?_⟩
    rw [Array.getD_eq_getD_getElem?, Array.getElem?_replicate] at hj
    split at hj <;> simp at hj

inductive Each (p : Nat → Prop) : List Nat → Prop where
  | nil : Each p []
  | cons {i : Nat} {l : List Nat} : p i → Each p l → Each p (i :: l)
theorem Each.at {p : Nat → Prop} : ∀ {l : List Nat}, Each p l → ∀ i ∈ l, p i
  | _, .cons h t, i, hi => by
    rcases List.mem_cons.1 hi with e | e
    · exact e ▸ h
    · exact t.at i e
theorem duty_of {n : Nat} {T : Nat → Value} {ds : List Deferred} {W : World} {φ : Nat → Value → World → Prop} {i : Nat} {o : Oper} (ho : ops[i]? = some o)
    (h : ∀ (f : Nat → Value) (w : World), Below W.heap.size W w → (∀ d, outer ops d = true → f d = T d) →
      (∀ j d, (o.after.any fun e => Region.binds .any e && e.on == j) = true → dst ops j = some d → φ j (f d) w) →
      ∀ K : Act → World → Prop, (∀ v w', Below w.heap.size w w' → φ i v w' → K ((lit n f ds).put o.dst v) w') → o.wp P (lit n f ds) w K Q) : Duty P ops Q n T ds W φ i := by
  intro o' ho'
  rw [ho] at ho'
  obtain rfl := Option.some.inj ho'
  exact h
/-- A region that draws its order, none of whose operations takes back what another one has done. -/
theorem region_mono {id : Nat} {a : Act} {w : World} (φ : Nat → Value → World → Prop) (n : Nat) (ds : List Deferred) (rs : List Nat) (hm : P.follows .mixedOrders = true) (hn : a.tmps.size = n) (hds : a.defers = ds) (hrs : List.range ops.size = rs) (ht : tidyB ops = true)
    (hst : ∀ i v w w', φ i v w → Below w.heap.size w w' → φ i v w')
    (hd : Each (Duty P ops Q n (fun d => a.tmps.getD d undef) ds w.drew φ) rs)
    (hend : ∀ f w', Below w.drew.heap.size w.drew w' → (∀ d, outer ops d = true → f d = a.tmps.getD d undef) → (∀ i d, dst ops i = some d → φ i (f d) w') → Q .normal (lit n f ds) w') :
    (Code.region id ops true).wp P Q a w := by
  subst hds
  refine wp_region_any hm ?_
  show wpAny P .any ops Q ops.size (Array.replicate ops.size false) a w.drew
  have e := lit_of a
  rw [hn] at e
  have := wpAny_mono (P := P) (Q := Q) (T := fun d => a.tmps.getD d undef) (ds := a.defers) φ hst ht (fun i hi => hd.at i (hrs ▸ List.mem_range.2 hi)) hend
  rw [← e] at this
  exact this
end
end Go.Proofs.YtjimolafoihnpaaDoor.mono

/-
  Mono's rule where operations are guarded, each by a guard that always holds.
-/
namespace Go.Proofs.YtjimolafoihnpaaDoor.mono
open Go.RowKit

/-- This guard hangs on an operation that is listed, by an edge that binds. -/
def grdB (n : Nat) (gl : List (Nat × Bool)) (ops : Array Oper) (o : Oper) : Bool := match o.guard with
  | none => true
  | some (j, b) => gl.contains (j, b) && (o.after.any fun e => Region.binds .any e && e.on == j) && ((dst ops j).map fun d => decide (d < n)).getD false
def tidyG (n : Nat) (gl : List (Nat × Bool)) (ops : Array Oper) : Bool :=
  (List.range ops.size).all fun i => (((ops[i]?).map fun o => grdB n gl ops o && o.after.all fun e => decide (e.on < i)).getD true) &&
    (List.range ops.size).all fun j => i == j || (dst ops i).isNone || dst ops i != dst ops j
theorem grd_of {n : Nat} {gl : List (Nat × Bool)} {ops : Array Oper} {o : Oper} (h : grdB n gl ops o = true) : o.guard = none ∨ ∃ j b d, o.guard = some (j, b) ∧ (j, b) ∈ gl ∧ (o.after.any fun e => Region.binds .any e && e.on == j) = true ∧ dst ops j = some d ∧ d < n := by
  unfold grdB at h
  split at h
  · exact Or.inl (by assumption)
  · rename_i j b hg
    rw [Bool.and_eq_true, Bool.and_eq_true] at h
    obtain ⟨⟨h1, h2⟩, h3⟩ := h
    cases hd : dst ops j with
    | none => rw [hd] at h3; simp at h3
    | some d =>
      rw [hd] at h3
      exact Or.inr ⟨j, b, d, hg, by simpa using h1, h2, hd, by simpa using h3⟩

section
variable {P : Program} {ops : Array Oper} {Q : Exit → Act → World → Prop}
theorem wpAny_monoG {n : Nat} {T : Nat → Value} {ds : List Deferred} {W : World} (φ : Nat → Value → World → Prop)
    (hst : ∀ i v w w', φ i v w → Below w.heap.size w w' → φ i v w') (gl : List (Nat × Bool)) (ht : tidyG n gl ops = true) (hgl : ∀ j b, (j, b) ∈ gl → ∀ v w, φ j v w → v = .bool b)
    (hd : ∀ i, i < ops.size → Duty P ops Q n T ds W φ i)
    (hend : ∀ f w, Below W.heap.size W w → (∀ d, outer ops d = true → f d = T d) → (∀ i d, dst ops i = some d → φ i (f d) w) → Q .normal (lit n f ds) w) :
    wpAny P .any ops Q ops.size (Array.replicate ops.size false) (lit n T ds) W := by
  have ht' : ∀ i, i < ops.size → (∀ o, ops[i]? = some o → (o.guard = none ∨ ∃ j b d, o.guard = some (j, b) ∧ (j, b) ∈ gl ∧ (o.after.any fun e => Region.binds .any e && e.on == j) = true ∧ dst ops j = some d ∧ d < n) ∧ ∀ e ∈ o.after, e.on < i) ∧ ∀ j, j < ops.size → i ≠ j → ∀ d, dst ops i = some d → dst ops j ≠ some d := by
    intro i hi
    have h := List.all_eq_true.1 ht i (List.mem_range.2 hi)
    rw [Bool.and_eq_true] at h
    refine ⟨fun o ho => ?_, fun j hj hne d hd hd' => ?_⟩
    · have h1 := h.1
      rw [ho] at h1
      simp only [Option.map_some, Option.getD_some, Bool.and_eq_true] at h1
      refine ⟨grd_of h1.1, fun e he => ?_⟩
      have := (Array.all_eq_true_iff_forall_mem.1 h1.2) e he
      simpa using this
    · have h2 := List.all_eq_true.1 h.2 j (List.mem_range.2 hj)
      rw [hd, hd'] at h2
      simp [hne] at h2
  refine wpAny_inv (fun listed a w => listed.size = ops.size ∧ ∃ f, a = lit n f ds ∧ Below W.heap.size W w ∧ (∀ d, outer ops d = true → f d = T d) ∧ ∀ j, listed.getD j false = true → ∀ d, dst ops j = some d → φ j (f d) w) ?_ ?_ ops.size _ _ _ (by simp) ?_ ?_
  · rintro listed a w ⟨hs, f, rfl, hB, hO, hL⟩ hr
    have hall : ∀ i, i < ops.size → listed.getD i false = true := by
      intro i
      induction i using Nat.strongRecOn with
      | ind i ih =>
        intro hi
        by_cases hb : listed.getD i false = true
        · exact hb
        · exfalso
          have hm : i ∈ Region.ready .any ops listed := by
            unfold Region.ready
            rw [List.mem_filter, List.mem_range, Bool.and_eq_true]
            refine ⟨hi, ?_, ?_⟩
            · have hi' : i < listed.size := by omega
              simp only [Array.getD, hi', dite_true] at hb ⊢
              simpa using hb
            · rw [Array.getElem?_eq_getElem hi]
              simp only [Option.map_some, Option.getD_some]
              apply Array.all_eq_true_iff_forall_mem.2
              intro e he
              have hlt := ((ht' i hi).1 _ (Array.getElem?_eq_getElem hi)).2 e he
              rw [ih e.on hlt (by omega)]
              simp
          rw [hr] at hm
          cases hm
    refine hend f w hB hO fun i d hid => ?_
    have hi : i < ops.size := by
      rcases Nat.lt_or_ge i ops.size with h | h
      · exact h
      · unfold dst at hid
        rw [Array.getElem?_eq_none h] at hid
        cases hid
    exact hL i (hall i hi) d hid
  · rintro listed a w i ⟨hs, f, rfl, hB, hO, hL⟩ - hi
    obtain ⟨h1, -, o, ho, hdep⟩ := ready_mem hi
    have hg := (ht' i h1).1 o ho
    unfold wpOp
    rw [ho]
    have hw : Region.wanted o (yielded ops (lit n f ds).tmps) = true := by
      rcases hg.1 with hg | ⟨j, b, d, hg, hgm, hge, hgd, hgn⟩
      · simp [Region.wanted, hg]
      · obtain ⟨q, hq, hb⟩ := Array.any_eq_true.1 hge
        rw [Bool.and_eq_true, beq_iff_eq] at hb
        obtain ⟨hb, hqj⟩ := hb
        have hv := hgl j b hgm _ _ (hL j (hqj ▸ hdep _ (Array.getElem_mem hq) hb) d hgd)
        unfold dst at hgd
        have hd : (lit n f ds).tmps[d]? = some (f d) := by simp [lit, hgn]
        simp [Region.wanted, hg, yielded, hgd, hd, hv]
    simp only [hw, if_true]
    refine Or.inl (hd i h1 o ho f w hB hO ?_ _ ?_)
    · intro j d hj hjd
      obtain ⟨q, hq, hb⟩ := Array.any_eq_true.1 hj
      rw [Bool.and_eq_true, beq_iff_eq] at hb
      obtain ⟨hb, rfl⟩ := hb
      exact hL _ (hdep _ (Array.getElem_mem hq) hb) d hjd
    · intro v w' hb' hv
      have hdo : dst ops i = o.dst := by unfold dst; rw [ho]; rfl
      refine ⟨by simpa using hs, _, lit_put _ _ _ _ _, ⟨hb'.os.trans hB.os, hb'.tape.trans hB.tape, hb'.output.trans hB.output, Nat.le_trans hB.size hb'.size, fun k hk => (hb'.block k (Nat.lt_of_lt_of_le hk hB.size)).trans (hB.block k hk)⟩, fun d hod => ?_, fun j hj d hjd => ?_⟩
      · have : o.dst ≠ some d := by
          have := List.all_eq_true.1 hod i (List.mem_range.2 h1)
          rw [hdo] at this
          simpa using this
        simp only [this, if_false]
        exact hO d hod
      · by_cases hji : j = i
        · subst hji
          rw [hdo] at hjd
          simp only [hjd, if_true]
          exact hv
        · have hjs : j < ops.size := by
            rcases Nat.lt_or_ge j ops.size with h | h
            · exact h
            · unfold dst at hjd
              rw [Array.getElem?_eq_none h] at hjd
              cases hjd
          have hne : o.dst ≠ some d := by
            rw [← hdo]
            exact fun e => (ht' j hjs).2 i h1 hji d hjd e
          simp only [hne, if_false]
          refine hst _ _ _ _ (hL j ?_ d hjd) hb'
          have hjl : j < listed.size := by omega
          have : (listed.setIfInBounds i true).getD j false = listed.getD j false := by
            simp only [Array.getD, Array.size_setIfInBounds, hjl, dite_true]
            rw [Array.getInternal_eq_getElem, Array.getInternal_eq_getElem, Array.getElem_setIfInBounds_ne _ (fun e => hji e.symm)]
          rw [this] at hj
          exact hj
  · unfold left
    exact Nat.le_trans (List.length_filter_le _ _) (by simp)
  · refine ⟨by simp, T, rfl, Below.refl _ _, fun _ _ => rfl, fun j hj => ?_⟩
    rw [Array.getD_eq_getD_getElem?, Array.getElem?_replicate] at hj
    split at hj <;> simp at hj

/-- As region_mono, with guards that hold. -/
theorem region_monoG {id : Nat} {a : Act} {w : World} (φ : Nat → Value → World → Prop) (n : Nat) (ds : List Deferred) (rs : List Nat) (hm : P.follows .mixedOrders = true) (hn : a.tmps.size = n) (hds : a.defers = ds) (hrs : List.range ops.size = rs) (gl : List (Nat × Bool)) (ht : tidyG n gl ops = true) (hgl : ∀ j b, (j, b) ∈ gl → ∀ v w, φ j v w → v = .bool b)
    (hst : ∀ i v w w', φ i v w → Below w.heap.size w w' → φ i v w')
    (hd : Each (Duty P ops Q n (fun d => a.tmps.getD d undef) ds w.drew φ) rs)
    (hend : ∀ f w', Below w.drew.heap.size w.drew w' → (∀ d, outer ops d = true → f d = a.tmps.getD d undef) → (∀ i d, dst ops i = some d → φ i (f d) w') → Q .normal (lit n f ds) w') :
    (Code.region id ops true).wp P Q a w := by
  subst hds
  refine wp_region_any hm ?_
  show wpAny P .any ops Q ops.size (Array.replicate ops.size false) a w.drew
  have e := lit_of a
  rw [hn] at e
  have := wpAny_monoG (P := P) (Q := Q) (T := fun d => a.tmps.getD d undef) (ds := a.defers) φ hst gl ht hgl (fun i hi => hd.at i (hrs ▸ List.mem_range.2 hi)) hend
  rw [← e] at this
  exact this
end
end Go.Proofs.YtjimolafoihnpaaDoor.mono

/-
  Mono's rule where operations store: what is stored lies in boxes of which Bx tells, by what is done.
-/
namespace Go.Proofs.YtjimolafoihnpaaDoor.mono
open Go.RowKit

/-- As tidyG; edges that do not bind may point anywhere. -/
def tidyS (n : Nat) (gl : List (Nat × Bool)) (ops : Array Oper) : Bool :=
  (List.range ops.size).all fun i => (((ops[i]?).map fun o => grdB n gl ops o && o.after.all fun e => !Region.binds .any e || decide (e.on < i)).getD true) &&
    (List.range ops.size).all fun j => i == j || (dst ops i).isNone || dst ops i != dst ops j
section
variable {P : Program} {ops : Array Oper} {Q : Exit → Act → World → Prop}
/-- What one operation owes. -/
def DutyS (P : Program) (ops : Array Oper) (Q : Exit → Act → World → Prop) (n : Nat) (T : Nat → Value) (ds : List Deferred) (W : World) (R : World → World → Prop) (φ : Nat → Value → World → Prop) (Bx : (Nat → Bool) → World → Prop) (i : Nat) : Prop :=
  ∀ (o : Oper), ops[i]? = some o → ∀ (f : Nat → Value) (w : World) (L : Nat → Bool), R W w → (∀ d, outer ops d = true → f d = T d) →
    (∀ j d, (o.after.any fun e => Region.binds .any e && e.on == j) = true → dst ops j = some d → φ j (f d) w) →
    (∀ j, (o.after.any fun e => Region.binds .any e && e.on == j) = true → L j = true) → L i = false → Bx L w →
    ∀ K : Act → World → Prop, (∀ v w', R w w' → φ i v w' → Bx (fun j => if j = i then true else L j) w' → K ((lit n f ds).put o.dst v) w') → o.wp P (lit n f ds) w K Q
theorem dutyS_of {n : Nat} {T : Nat → Value} {ds : List Deferred} {W : World} {R : World → World → Prop} {φ : Nat → Value → World → Prop} {Bx : (Nat → Bool) → World → Prop} {i : Nat} {o : Oper} (ho : ops[i]? = some o)
    (h : ∀ (f : Nat → Value) (w : World) (L : Nat → Bool), R W w → (∀ d, outer ops d = true → f d = T d) →
      (∀ j d, (o.after.any fun e => Region.binds .any e && e.on == j) = true → dst ops j = some d → φ j (f d) w) →
      (∀ j, (o.after.any fun e => Region.binds .any e && e.on == j) = true → L j = true) → L i = false → Bx L w →
      ∀ K : Act → World → Prop, (∀ v w', R w w' → φ i v w' → Bx (fun j => if j = i then true else L j) w' → K ((lit n f ds).put o.dst v) w') → o.wp P (lit n f ds) w K Q) : DutyS P ops Q n T ds W R φ Bx i := by
  intro o' ho'
  rw [ho] at ho'
  obtain rfl := Option.some.inj ho'
  exact h

theorem wpAny_monoS {n : Nat} {T : Nat → Value} {ds : List Deferred} {W : World} (R : World → World → Prop) (hR0 : ∀ w, R w w) (hRt : ∀ a b c, R a b → R b c → R a c) (φ : Nat → Value → World → Prop) (Bx : (Nat → Bool) → World → Prop)
    (hst : ∀ i v w w', φ i v w → R w w' → φ i v w') (gl : List (Nat × Bool)) (ht : tidyS n gl ops = true) (hgl : ∀ j b, (j, b) ∈ gl → ∀ v w, φ j v w → v = .bool b)
    (hd : ∀ i, i < ops.size → DutyS P ops Q n T ds W R φ Bx i) (hbx : Bx (fun _ => false) W)
    (hend : ∀ f w L, R W w → (∀ d, outer ops d = true → f d = T d) → (∀ i d, dst ops i = some d → φ i (f d) w) → (∀ j, j < ops.size → L j = true) → Bx L w → Q .normal (lit n f ds) w) :
    wpAny P .any ops Q ops.size (Array.replicate ops.size false) (lit n T ds) W := by
  have ht' : ∀ i, i < ops.size → (∀ o, ops[i]? = some o → (o.guard = none ∨ ∃ j b d, o.guard = some (j, b) ∧ (j, b) ∈ gl ∧ (o.after.any fun e => Region.binds .any e && e.on == j) = true ∧ dst ops j = some d ∧ d < n) ∧ ∀ e ∈ o.after, Region.binds .any e = true → e.on < i) ∧ ∀ j, j < ops.size → i ≠ j → ∀ d, dst ops i = some d → dst ops j ≠ some d := by
    intro i hi
    have h := List.all_eq_true.1 ht i (List.mem_range.2 hi)
    rw [Bool.and_eq_true] at h
    refine ⟨fun o ho => ?_, fun j hj hne d hd hd' => ?_⟩
    · have h1 := h.1
      rw [ho] at h1
      simp only [Option.map_some, Option.getD_some, Bool.and_eq_true] at h1
      refine ⟨grd_of h1.1, fun e he hbe => ?_⟩
      have := (Array.all_eq_true_iff_forall_mem.1 h1.2) e he
      rw [hbe] at this
      simpa using this
    · have h2 := List.all_eq_true.1 h.2 j (List.mem_range.2 hj)
      rw [hd, hd'] at h2
      simp [hne] at h2
  refine wpAny_inv (fun listed a w => listed.size = ops.size ∧ ∃ f, a = lit n f ds ∧ R W w ∧ (∀ d, outer ops d = true → f d = T d) ∧ (∀ j, listed.getD j false = true → ∀ d, dst ops j = some d → φ j (f d) w) ∧ Bx (fun j => listed.getD j false) w) ?_ ?_ ops.size _ _ _ (by simp) ?_ ?_
  · rintro listed a w ⟨hs, f, rfl, hB, hO, hL, hX⟩ hr
    have hall : ∀ i, i < ops.size → listed.getD i false = true := by
      intro i
      induction i using Nat.strongRecOn with
      | ind i ih =>
        intro hi
        by_cases hb : listed.getD i false = true
        · exact hb
        · exfalso
          have hm : i ∈ Region.ready .any ops listed := by
            unfold Region.ready
            rw [List.mem_filter, List.mem_range, Bool.and_eq_true]
            refine ⟨hi, ?_, ?_⟩
            · have hi' : i < listed.size := by omega
              simp only [Array.getD, hi', dite_true] at hb ⊢
              simpa using hb
            · rw [Array.getElem?_eq_getElem hi]
              simp only [Option.map_some, Option.getD_some]
              apply Array.all_eq_true_iff_forall_mem.2
              intro e he
              by_cases hbe : Region.binds .any e = true
              · have hlt := ((ht' i hi).1 _ (Array.getElem?_eq_getElem hi)).2 e he hbe
                rw [ih e.on hlt (by omega)]
                simp
              · simp [hbe]
          rw [hr] at hm
          cases hm
    refine hend f w _ hB hO (fun i d hid => ?_) hall hX
    have hi : i < ops.size := by
      rcases Nat.lt_or_ge i ops.size with h | h
      · exact h
      · unfold dst at hid
        rw [Array.getElem?_eq_none h] at hid
        cases hid
    exact hL i (hall i hi) d hid
  · rintro listed a w i ⟨hs, f, rfl, hB, hO, hL, hX⟩ - hi
    obtain ⟨h1, hli, o, ho, hdep⟩ := ready_mem hi
    have hg := (ht' i h1).1 o ho
    unfold wpOp
    rw [ho]
    have hw : Region.wanted o (yielded ops (lit n f ds).tmps) = true := by
      rcases hg.1 with hg | ⟨j, b, d, hg, hgm, hge, hgd, hgn⟩
      · simp [Region.wanted, hg]
      · obtain ⟨q, hq, hb⟩ := Array.any_eq_true.1 hge
        rw [Bool.and_eq_true, beq_iff_eq] at hb
        obtain ⟨hb, hqj⟩ := hb
        have hv := hgl j b hgm _ _ (hL j (hqj ▸ hdep _ (Array.getElem_mem hq) hb) d hgd)
        unfold dst at hgd
        have hd : (lit n f ds).tmps[d]? = some (f d) := by simp [lit, hgn]
        simp [Region.wanted, hg, yielded, hgd, hd, hv]
    simp only [hw, if_true]
    refine Or.inl (hd i h1 o ho f w (fun j => listed.getD j false) hB hO ?_ ?_ ?_ hX _ ?_)
    · intro j d hj hjd
      obtain ⟨q, hq, hb⟩ := Array.any_eq_true.1 hj
      rw [Bool.and_eq_true, beq_iff_eq] at hb
      obtain ⟨hb, rfl⟩ := hb
      exact hL _ (hdep _ (Array.getElem_mem hq) hb) d hjd
    · intro j hj
      obtain ⟨q, hq, hb⟩ := Array.any_eq_true.1 hj
      rw [Bool.and_eq_true, beq_iff_eq] at hb
      obtain ⟨hb, rfl⟩ := hb
      exact hdep _ (Array.getElem_mem hq) hb
    · have h1' : i < listed.size := by omega
      simp only [Array.getD, h1', dite_true] at hli ⊢
      exact hli
    · intro v w' hb' hv hx'
      have hdo : dst ops i = o.dst := by unfold dst; rw [ho]; rfl
      refine ⟨by simpa using hs, _, lit_put _ _ _ _ _, hRt _ _ _ hB hb', fun d hod => ?_, fun j hj d hjd => ?_, ?_⟩
      · have : o.dst ≠ some d := by
          have := List.all_eq_true.1 hod i (List.mem_range.2 h1)
          rw [hdo] at this
          simpa using this
        simp only [this, if_false]
        exact hO d hod
      · by_cases hji : j = i
        · subst hji
          rw [hdo] at hjd
          simp only [hjd, if_true]
          exact hv
        · have hjs : j < ops.size := by
            rcases Nat.lt_or_ge j ops.size with h | h
            · exact h
            · unfold dst at hjd
              rw [Array.getElem?_eq_none h] at hjd
              cases hjd
          have hne : o.dst ≠ some d := by
            rw [← hdo]
            exact fun e => (ht' j hjs).2 i h1 hji d hjd e
          simp only [hne, if_false]
          refine hst _ _ _ _ (hL j ?_ d hjd) hb'
          have hjl : j < listed.size := by omega
          have : (listed.setIfInBounds i true).getD j false = listed.getD j false := by
            simp only [Array.getD, Array.size_setIfInBounds, hjl, dite_true]
            rw [Array.getInternal_eq_getElem, Array.getInternal_eq_getElem, Array.getElem_setIfInBounds_ne _ (fun e => hji e.symm)]
          rw [this] at hj
          exact hj
      · have e : (fun j => (listed.setIfInBounds i true).getD j false) = (fun j => if j = i then true else listed.getD j false) := by
          funext j
          have h1' : i < listed.size := by omega
          by_cases hji : j = i
          · subst hji
            simp [Array.getD, h1']
          · rw [if_neg hji]
            simp only [Array.getD, Array.size_setIfInBounds]
            split
            · rw [Array.getInternal_eq_getElem, Array.getInternal_eq_getElem, Array.getElem_setIfInBounds_ne _ (fun e => hji e.symm)]
            · rfl
        rw [e]
        exact hx'
  · unfold left
    exact Nat.le_trans (List.length_filter_le _ _) (by simp)
  · have e : ∀ j, (Array.replicate ops.size false).getD j false = false := fun j => by
      rw [Array.getD_eq_getD_getElem?, Array.getElem?_replicate]
      split <;> simp
    refine ⟨by simp, T, rfl, hR0 _, fun _ _ => rfl, fun j hj => ?_, ?_⟩
    · rw [e] at hj; cases hj
    · have e2 : (fun j => (Array.replicate ops.size false).getD j false) = (fun _ => false) := funext e
      rw [e2]
      exact hbx

/-- A region that draws its order and stores into boxes. -/
theorem region_monoS {id : Nat} {a : Act} {w : World} (R : World → World → Prop) (hR0 : ∀ w, R w w) (hRt : ∀ a b c, R a b → R b c → R a c) (φ : Nat → Value → World → Prop) (Bx : (Nat → Bool) → World → Prop) (n : Nat) (ds : List Deferred) (rs : List Nat) (hm : P.follows .mixedOrders = true) (hn : a.tmps.size = n) (hds : a.defers = ds) (hrs : List.range ops.size = rs) (gl : List (Nat × Bool)) (ht : tidyS n gl ops = true) (hgl : ∀ j b, (j, b) ∈ gl → ∀ v w, φ j v w → v = .bool b)
    (hst : ∀ i v w w', φ i v w → R w w' → φ i v w')
    (hbx : Bx (fun _ => false) w.drew)
    (hd : Each (DutyS P ops Q n (fun d => a.tmps.getD d undef) ds w.drew R φ Bx) rs)
    (hend : ∀ f w' L, R w.drew w' → (∀ d, outer ops d = true → f d = a.tmps.getD d undef) → (∀ i d, dst ops i = some d → φ i (f d) w') → (∀ j, j < ops.size → L j = true) → Bx L w' → Q .normal (lit n f ds) w') :
    (Code.region id ops true).wp P Q a w := by
  subst hds
  refine wp_region_any hm ?_
  show wpAny P .any ops Q ops.size (Array.replicate ops.size false) a w.drew
  have e := lit_of a
  rw [hn] at e
  have := wpAny_monoS (P := P) (Q := Q) (T := fun d => a.tmps.getD d undef) (ds := a.defers) R hR0 hRt φ Bx hst gl ht hgl (fun i hi => hd.at i (hrs ▸ List.mem_range.2 hi)) hbx hend
  rw [← e] at this
  exact this
end
end Go.Proofs.YtjimolafoihnpaaDoor.mono

/-
  Mono's rule where each world that there is hangs only on which of three operations are done (a row made, appended, stored): one duty an operation.
-/
namespace Go.Proofs.YtjimolafoihnpaaDoor.mono
open Go.RowKit

/-- e3 waits for all ahead of it, e2 for e1. -/
def OkL (e1 e2 e3 : Nat) (L : Nat → Bool) : Prop := (L e3 = true → ∀ j, j < e3 → L j = true) ∧ (L e2 = true → L e1 = true)
/-- The world that there is. -/
def BxW (e1 e2 e3 : Nat) (W0 W1 W2 W3 : World) (L : Nat → Bool) (W : World) : Prop :=
  OkL e1 e2 e3 L ∧ W = if L e3 = true then W3 else if L e2 = true then W2 else if L e1 = true then W1 else W0
section
variable {e1 e2 e3 : Nat} {W0 W1 W2 W3 W : World} {L : Nat → Bool}
theorem BxW.begin : BxW e1 e2 e3 W0 W1 W2 W3 (fun _ => false) W0 := ⟨⟨by simp, by simp⟩, by simp⟩
theorem BxW.pure (h : BxW e1 e2 e3 W0 W1 W2 W3 L W) (i : Nat) (hi : L i = false) (h3 : i < e3) (h1 : i ≠ e1) (h2 : i ≠ e2) :
    BxW e1 e2 e3 W0 W1 W2 W3 (fun j => if j = i then true else L j) W ∧ (W = W0 ∨ W = W1 ∨ W = W2) := by
  obtain ⟨⟨o1, o2⟩, hw⟩ := h
  have n3 : L e3 = false := by
    cases h : L e3 with
    | false => rfl
    | true => have := o1 h i h3; rw [hi] at this; cases this
  have d3 : ¬ e3 = i := by omega
  have d2 : ¬ e2 = i := fun q => h2 q.symm
  have d1 : ¬ e1 = i := fun q => h1 q.symm
  refine ⟨⟨⟨fun h => ?_, fun h => ?_⟩, ?_⟩, ?_⟩
  · simp only [if_neg d3, n3] at h; cases h
  · simp only [if_neg d2] at h
    simp only [if_neg d1]
    exact o2 h
  · simp only [if_neg d3, if_neg d2, if_neg d1]
    exact hw
  · rw [hw, n3]
    simp only [Bool.false_eq_true, if_false]
    split
    · exact .inr (.inr rfl)
    · split
      · exact .inr (.inl rfl)
      · exact .inl rfl
theorem BxW.one (h : BxW e1 e2 e3 W0 W1 W2 W3 L W) (hi : L e1 = false) (h12 : e1 < e2) (h23 : e2 < e3) : W = W0 ∧ BxW e1 e2 e3 W0 W1 W2 W3 (fun j => if j = e1 then true else L j) W1 := by
  obtain ⟨⟨o1, o2⟩, hw⟩ := h
  have n2 : L e2 = false := by
    cases h : L e2 with
    | false => rfl
    | true => have := o2 h; rw [hi] at this; cases this
  have n3 : L e3 = false := by
    cases h : L e3 with
    | false => rfl
    | true => have := o1 h e1 (by omega); rw [hi] at this; cases this
  have d3 : ¬ e3 = e1 := by omega
  have d2 : ¬ e2 = e1 := by omega
  refine ⟨by rw [hw, n3, n2, hi]; simp, ⟨fun h => ?_, fun h => ?_⟩, ?_⟩
  · simp only [if_neg d3, n3] at h; cases h
  · simp
  · simp [d3, d2, n3, n2]
theorem BxW.two (h : BxW e1 e2 e3 W0 W1 W2 W3 L W) (h1 : L e1 = true) (hi : L e2 = false) (h12 : e1 < e2) (h23 : e2 < e3) : W = W1 ∧ BxW e1 e2 e3 W0 W1 W2 W3 (fun j => if j = e2 then true else L j) W2 := by
  obtain ⟨⟨o1, o2⟩, hw⟩ := h
  have n3 : L e3 = false := by
    cases h : L e3 with
    | false => rfl
    | true => have := o1 h e2 h23; rw [hi] at this; cases this
  have d3 : ¬ e3 = e2 := by omega
  have d1 : ¬ e1 = e2 := by omega
  refine ⟨by rw [hw, n3, hi, h1]; simp, ⟨fun h => ?_, fun h => ?_⟩, ?_⟩
  · simp only [if_neg d3, n3] at h; cases h
  · simp only [if_neg d1]; exact h1
  · simp [d3, n3]
theorem BxW.three (h : BxW e1 e2 e3 W0 W1 W2 W3 L W) (hi : L e3 = false) (ha : ∀ j, j < e3 → L j = true) (h12 : e1 < e2) (h23 : e2 < e3) : W = W2 ∧ BxW e1 e2 e3 W0 W1 W2 W3 (fun j => if j = e3 then true else L j) W3 := by
  obtain ⟨⟨o1, o2⟩, hw⟩ := h
  refine ⟨by rw [hw, hi, ha e2 h23]; simp, ⟨fun _ j hj => ?_, fun _ => ?_⟩, by simp⟩
  · have : ¬ j = e3 := by omega
    simp only [if_neg this]
    exact ha j hj
  · have : ¬ e1 = e3 := by omega
    simp only [if_neg this]
    exact ha e1 (by omega)
theorem BxW.fin2 (h : BxW e1 e2 e3 W0 W1 W2 W2 L W) (h2 : L e2 = true) : W = W2 := by
  rw [h.2, h2]
  simp
theorem BxW.fin {n : Nat} (h : BxW e1 e2 e3 W0 W1 W2 W3 L W) (ha : ∀ j, j < n → L j = true) (h3 : e3 < n) : W = W3 := by
  rw [h.2, ha e3 h3]
  simp
end
/-- An append whose run is known. -/
theorem wp_append_run {P : Program} {w w' : World} {o : Oper} {a : Act} {K : Act → World → Prop} {Q : Exit → Act → World → Prop} (s x : Operand) (t : TypeId) (ho : o.op = .call { callee := .builtin .append, args := #[s, x], argTypes := #[t, t] }) {v u r : Value} (hs : a.eval s = v) (hx : a.eval x = u)
    (hr : (Builtin.append_ #[t, t] o.type #[v, u]).run P w = .ok r w') (h : K (a.put o.dst r) w') : o.wp P a w K Q := by
  unfold Oper.wp execOp
  simp only [ho, resolve, invoke, builtin, Sem.run_bind, Sem.run_pure, Result.andThen_ok, List.map_toArray, List.map_cons, List.map_nil, hs, hx, hr]
  exact h
end Go.Proofs.YtjimolafoihnpaaDoor.mono
