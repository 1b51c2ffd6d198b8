/-
  gc: the map of the parents and the set of marks, as data; parentsOf.
-/
import Derived.Test.YthhdpabelcgfjaaStE
import Derived.Maps.Own
import Derived.Maps.OwnSet
import Derived.Maps.OwnOps
import Derived.Maps.Ext
import Derived.Maps.RangeWalk
import Derived.Lib.SlMapMerge
import Derived.Lib.SlKeysI
namespace Go.Proofs.Ythhdpabelcgfjaa
open Go.Maps Go.ChangeShapes Go.WideShapes Go.ChangeAt Go.RowKit Go.PlainAid

theorem keyedZ : Keyed Try.prog 3 := int_keyed Try.underlying3
theorem wf_Z {k : Int} (h : InI k) : (Lit.int .i64 k).wf = true := by
  have e0 : IntKind.i64.min = -9223372036854775808 := by decide
  have e1 : IntKind.i64.max = 9223372036854775807 := by decide
  obtain ⟨h0, h1⟩ := h
  simp only [Lit.wf, e0, e1, h0, h1, decide_true, Bool.and_self]
theorem key_Z {k : Int} (h : InI k) : keyOf Try.prog 3 (.int .i64 k) = some (.int .i64 k) := keyOf_int_mk Try.underlying3 (wf_Z h)
theorem lit_Z (k : Int) : WideAt.IsKeyLit (.int .i64 k) := trivial
theorem Try.zeroUZ (u : World) : (zeroValue 56).run Try.prog u = .ok (.agg #[]) u := by kernel_rfl
theorem Try.zeroSl (u : World) : (zeroValue 28).run Try.prog u = .ok (.slice none 0 0) u := by kernel_rfl

/-! ### The marks -/

/-- The map in block b is the set of the numbers of M. -/
def MkZ (W : World) (b : Nat) (M : List Int) : Prop := ∃ D : DataW Unit, W.ownsMap Try.prog 3 unitElem b M.length D ∧ ∀ k : Int, has D (.int .i64 k) = decide (k ∈ M)
theorem mkz_new (w : World) : MkZ (w.alloc (.map #[] 0)) w.heap.size [] := ⟨.map [], World.ownsMap_made w _ _ _, fun k => by simp [Maps.has]⟩
theorem MkZ.kept {W W' : World} {b : Nat} {M : List Int} {o : Option Nat} (h : MkZ W b M) (hg : W.grownBy W' o) (hne : some b ≠ o) : MkZ W' b M := by
  obtain ⟨D, h1, h2⟩ := h
  exact ⟨D, h1.kept hg hne, h2⟩
theorem MkZ.below {W W' : World} {b : Nat} {M : List Int} (h : MkZ W b M) (hb : Below W.heap.size W W') : MkZ W' b M := h.kept (o := none) ⟨hb.os, hb.tape, hb.output, hb.size, fun k hk _ => hb.block k hk⟩ (by simp)
theorem MkZ.lt {W : World} {b : Nat} {M : List Int} (h : MkZ W b M) : b < W.heap.size := by
  obtain ⟨D, h1, _⟩ := h
  exact h1.lt
theorem MkZ.box {W : World} {b g : Nat} {M : List Int} {c : Array Value} {t : TypeId} {fr : Nat × Nat} (h : MkZ W b M) (hg : W.heap[g]? = some (.cells c t fr)) : g ≠ b := by
  rintro rfl
  obtain ⟨D, ⟨es, cl, hb, -⟩, -⟩ := h
  rw [hb] at hg
  cases hg
/-- Is a number marked? -/
theorem MkZ.look {W : World} {b : Nat} {M : List Int} (h : MkZ W b M) {k : Int} (hk : InI k) : (Instr.lookup 55 (.map (some b)) (.int .i64 k) true).run Try.prog W = .ok (.tuple #[.agg #[], .bool (decide (k ∈ M))]) W := by
  obtain ⟨D, h1, h2⟩ := h
  obtain ⟨v, ps, hr, hv⟩ := h1.look_ok keyedZ Try.underlying55 (Try.zeroUZ W) unitElem_mk (key_Z hk)
  obtain ⟨rfl, -⟩ := unitElem_inv hv
  rw [h2 k] at hr
  exact hr
/-- One more is marked. -/
theorem MkZ.put {W : World} {b : Nat} {M : List Int} (h : MkZ W b M) (hl : M.length < maxLen) {k : Int} (hk : InI k) :
    ∃ W', (Instr.mapUpdate 55 (.map (some b)) (.int .i64 k) (.agg #[])).run Try.prog W = .ok () W' ∧ MkZ W' b (M ++ [k]) ∧ W.grownBy W' (some b) := by
  obtain ⟨D, h1, h2⟩ := h
  obtain ⟨W', hr, h3, h4⟩ := h1.update keyedZ Try.underlying55 hl (key_Z hk) unitElem_mk
  refine ⟨W', hr, ⟨_, by simpa using h3, fun j => ?_⟩, h4⟩
  by_cases e : k = j
  · subst e
    rw [has_put_same h1.isMap (lit_Z _)]
    simp
  · rw [has_put_other (fun e2 => e (by cases e2; rfl)), h2]
    have e3 : ¬ j = k := fun h => e h.symm
    simp [e3]

/-! ### The parents -/

/-- How a slice reads in a map, by the place where it lies. -/
def slD : Value → Option (DataW Unit)
  | .slice (some ⟨b, o, none⟩) n c => some (.agg [.lit (.int .i64 b), .lit (.int .i64 o), .lit (.int .i64 n), .lit (.int .i64 c)])
  | .slice (some ⟨b, o, some s⟩) n c => some (.agg [.lit (.int .i64 b), .lit (.int .i64 o), .lit (.int .i64 n), .lit (.int .i64 c), .lit (.int .i64 s)])
  | .slice none n c => some (.agg [.lit (.int .i64 n), .lit (.int .i64 c)])
  | _ => none
def slR (v : Value) : Option (DataW Unit × List MemPlace) := (slD v).map fun d => (d, [])
theorem slD_inj {v u : Value} {d : DataW Unit} (hv : slD v = some d) (hu : slD u = some d) : v = u := by
  unfold slD at hv hu
  split at hv <;> split at hu <;> simp at hv hu <;> (rw [← hv] at hu; simp at hu)
  · simp only [Value.slice.injEq, Option.some.injEq, Addr.mk.injEq]
    exact ⟨⟨by omega, by omega, trivial⟩, by omega, by omega⟩
  · simp only [Value.slice.injEq, Option.some.injEq, Addr.mk.injEq]
    exact ⟨⟨by omega, by omega, by omega⟩, by omega, by omega⟩
  · simp only [Value.slice.injEq]
    exact ⟨trivial, by omega, by omega⟩
theorem slD_mk (a : Option Addr) (n c : Nat) : ∃ d, slD (.slice a n c) = some d := by
  cases a with
  | none => exact ⟨_, rfl⟩
  | some a =>
    obtain ⟨b, o, s⟩ := a
    cases s with
    | none => exact ⟨_, rfl⟩
    | some s => exact ⟨_, rfl⟩
theorem slR_mk {v : Value} {d : DataW Unit} (h : slD v = some d) : slR v = some (d, []) := by simp [slR, h]
theorem slR_inv {v : Value} {x : DataW Unit × List MemPlace} (h : slR v = some x) : slD v = some x.1 := by
  unfold slR at h
  cases hd : slD v with
  | none => rw [hd] at h; cases h
  | some d => rw [hd] at h; simp at h; rw [← h]
/-- The map in block b tells the value of each number's first commit. -/
def PaZ (W : World) (b n : Nat) (F : Int → Option Value) : Prop := ∃ D : DataW Unit, W.ownsMap Try.prog 3 slR b n D ∧ ∀ k : Int, has D (.int .i64 k) = (F k).isSome ∧ ∀ v, F k = some v → ∃ d, slD v = some d ∧ ∀ z, D.atKey (.int .i64 k) z = d
theorem paz_new (w : World) : PaZ (w.alloc (.map #[] 0)) w.heap.size 0 (fun _ => none) := ⟨.map [], World.ownsMap_made w _ _ _, fun k => ⟨by simp [Maps.has], fun v h => by cases h⟩⟩
theorem PaZ.kept {W W' : World} {b n : Nat} {F : Int → Option Value} {o : Option Nat} (h : PaZ W b n F) (hg : W.grownBy W' o) (hne : some b ≠ o) : PaZ W' b n F := by
  obtain ⟨D, h1, h2⟩ := h
  exact ⟨D, h1.kept hg hne, h2⟩
theorem PaZ.below {W W' : World} {b n : Nat} {F : Int → Option Value} (h : PaZ W b n F) (hb : Below W.heap.size W W') : PaZ W' b n F := h.kept (o := none) ⟨hb.os, hb.tape, hb.output, hb.size, fun k hk _ => hb.block k hk⟩ (by simp)
theorem PaZ.lt {W : World} {b n : Nat} {F : Int → Option Value} (h : PaZ W b n F) : b < W.heap.size := by
  obtain ⟨D, h1, _⟩ := h
  exact h1.lt
theorem PaZ.look {W : World} {b n : Nat} {F : Int → Option Value} (h : PaZ W b n F) {k : Int} (hk : InI k) : ∃ v, (Instr.lookup 75 (.map (some b)) (.int .i64 k) true).run Try.prog W = .ok (.tuple #[v, .bool (F k).isSome]) W := by
  obtain ⟨D, h1, h2⟩ := h
  obtain ⟨v, ps, hr, hv⟩ := h1.look_ok keyedZ Try.underlying75 (Try.zeroSl W) (slR_mk (v := .slice none 0 0) rfl) (key_Z hk)
  rw [(h2 k).1] at hr
  exact ⟨v, hr⟩
theorem PaZ.at_ {W : World} {b n : Nat} {F : Int → Option Value} (h : PaZ W b n F) {k : Int} (hk : InI k) {v : Value} (hF : F k = some v) : (Instr.lookup 75 (.map (some b)) (.int .i64 k) false).run Try.prog W = .ok v W := by
  obtain ⟨D, h1, h2⟩ := h
  obtain ⟨u, ps, hr, hv⟩ := h1.lookup keyedZ Try.underlying75 (Try.zeroSl W) (slR_mk (v := .slice none 0 0) rfl) (key_Z hk)
  obtain ⟨d, hd, ha⟩ := (h2 k).2 v hF
  have := slR_inv hv
  simp only [ha] at this
  rw [slD_inj hd this]
  exact hr
theorem PaZ.put {W : World} {b n : Nat} {F : Int → Option Value} (h : PaZ W b n F) (hl : n < maxLen) {k : Int} (hk : InI k) (a : Option Addr) (m c : Nat) :
    ∃ W', (Instr.mapUpdate 75 (.map (some b)) (.int .i64 k) (.slice a m c)).run Try.prog W = .ok () W' ∧ PaZ W' b (n + 1) (fun j => if j = k then some (.slice a m c) else F j) ∧ W.grownBy W' (some b) := by
  obtain ⟨D, h1, h2⟩ := h
  obtain ⟨d, hd⟩ := slD_mk a m c
  obtain ⟨W', hr, h3, h4⟩ := h1.update keyedZ Try.underlying75 hl (key_Z hk) (slR_mk hd)
  refine ⟨W', hr, ⟨_, h3, fun j => ?_⟩, h4⟩
  by_cases e : j = k
  · subst e
    refine ⟨by rw [has_put_same h1.isMap (lit_Z _)]; simp, fun v hv => ?_⟩
    simp at hv
    subst hv
    exact ⟨d, hd, fun z => by rw [atKey_put_same h1.isMap (lit_Z _)]⟩
  · have e2 : (Lit.int .i64 j) ≠ .int .i64 k := fun e2 => e (by cases e2; rfl)
    simp only [if_neg e]
    refine ⟨by rw [has_put_other e2, (h2 j).1], fun v hv => ?_⟩
    obtain ⟨d', hd', ha⟩ := (h2 j).2 v hv
    exact ⟨d', hd', fun z => by rw [atKey_put_other e2]; exact ha z⟩
theorem PaZ.mono {W : World} {b n m : Nat} {F : Int → Option Value} (h : PaZ W b n F) (hm : n ≤ m) : PaZ W b m F := by
  obtain ⟨D, h1, h2⟩ := h
  exact ⟨D, h1.mono hm, h2⟩

/-! ### parentsOf -/

/-- Where commits lie, with the values of their rows. -/
structure AtCo (w : World) (ao : Option Addr) (cs : List CoD) (us : List (Value × Value × Value)) : Prop where
  ul : us.length = cs.length
  at_ : ∀ (i : Nat) (x : CoD) (u : Value × Value × Value), cs[i]? = some x → us[i]? = some u → ∃ b off, ao = some ⟨b, off, none⟩ ∧ b < w.heap.size ∧ (w.cell? ⟨b, off + i * 6, none⟩ = some (.int .i64 x.n) ∧ w.cell? ⟨b, off + i * 6 + 1, none⟩ = some u.1 ∧ w.cell? ⟨b, off + i * 6 + 2, none⟩ = some u.2.1 ∧ w.cell? ⟨b, off + i * 6 + 3, none⟩ = some u.2.2 ∧ w.cell? ⟨b, off + i * 6 + 4, none⟩ = some (.int .i64 x.c) ∧ w.cell? ⟨b, off + i * 6 + 5, none⟩ = some (.int .i64 x.s)) ∧ RdI w u.1 x.ps ∧ RdD w u.2.1 x.d ∧ RdD w u.2.2 x.o
theorem at_co {W : World} {ao : Option Addr} {cp : Nat} {l : List CoD} (h : RdCo W (.slice ao l.length cp) l) : ∃ us, AtCo W ao l us := by
  obtain ⟨ao', cp', e, hc⟩ := h
  simp only [Value.slice.injEq] at e
  obtain ⟨rfl, -, rfl⟩ := e
  obtain ⟨us, hl, hP⟩ := pickL (l := l) (β := Value × Value × Value) (P := fun i x u => ∃ b off, ao = some ⟨b, off, none⟩ ∧ b < W.heap.size ∧ (W.cell? ⟨b, off + i * 6, none⟩ = some (.int .i64 x.n) ∧ W.cell? ⟨b, off + i * 6 + 1, none⟩ = some u.1 ∧ W.cell? ⟨b, off + i * 6 + 2, none⟩ = some u.2.1 ∧ W.cell? ⟨b, off + i * 6 + 3, none⟩ = some u.2.2 ∧ W.cell? ⟨b, off + i * 6 + 4, none⟩ = some (.int .i64 x.c) ∧ W.cell? ⟨b, off + i * 6 + 5, none⟩ = some (.int .i64 x.s)) ∧ RdI W u.1 x.ps ∧ RdD W u.2.1 x.d ∧ RdD W u.2.2 x.o) (fun i a hi => by
    obtain ⟨b, off, u1, u2, u3, e, hb, hcs, r1, r2, r3⟩ := hc i a hi
    exact ⟨(u1, u2, u3), b, off, e, hb, hcs, r1, r2, r3⟩)
  exact ⟨us, hl, hP⟩
theorem AtCo.below {W W' : World} {ao : Option Addr} {l : List CoD} {us : List (Value × Value × Value)} (h : AtCo W ao l us) (hb : Below W.heap.size W W') : AtCo W' ao l us := by
  refine ⟨h.ul, fun i x u hi hu => ?_⟩
  obtain ⟨b, off, e, hl, ⟨c0, c1, c2, c3, c4, c5⟩, r1, r2, r3⟩ := h.at_ i x u hi hu
  have q := fun o => hb.cell (p := ⟨b, o, none⟩) hl
  exact ⟨b, off, e, Nat.lt_of_lt_of_le hl hb.size, ⟨(q _).trans c0, (q _).trans c1, (q _).trans c2, (q _).trans c3, (q _).trans c4, (q _).trans c5⟩, r1.below hb, r2.below hb, r3.below hb⟩
/-- The value of the parents of a number's first commit. -/
def paF : List CoD → List (Value × Value × Value) → Int → Option Value
  | x :: l, u :: us, k => if k = x.n then some u.1 else paF l us k
  | _, _, _ => none
theorem paF_snoc : ∀ (l : List CoD) (us : List (Value × Value × Value)) (x : CoD) (u : Value × Value × Value) (k : Int), us.length = l.length → paF (l ++ [x]) (us ++ [u]) k = if (paF l us k).isSome then paF l us k else if k = x.n then some u.1 else none
  | [], us, x, u, k, h => by
    have : us = [] := List.eq_nil_of_length_eq_zero h
    subst this
    simp [paF]
  | y :: l, [], _, _, _, h => by simp at h
  | y :: l, v :: us, x, u, k, h => by
    have := paF_snoc l us x u k (by simpa using h)
    simp only [List.cons_append, paF]
    by_cases e : k = y.n
    · simp [e]
    · simp only [if_neg e]
      exact this
/-- The parents of a number's first commit. -/
def paL : List CoD → Int → Option (List Int)
  | [], _ => none
  | x :: l, k => if k = x.n then some x.ps else paL l k
theorem paF_some : ∀ (l : List CoD) (us : List (Value × Value × Value)) (k : Int), us.length = l.length → (paF l us k).isSome = (paL l k).isSome
  | [], us, k, h => by
    have : us = [] := List.eq_nil_of_length_eq_zero h
    subst this
    rfl
  | y :: l, [], _, h => by simp at h
  | y :: l, v :: us, k, h => by
    simp only [paF, paL]
    split
    · rfl
    · exact paF_some l us k (by simpa using h)
theorem paF_rd {W : World} : ∀ (l : List CoD) (us : List (Value × Value × Value)) (k : Int) (v : Value), (∀ (i : Nat) (x : CoD) (u : Value × Value × Value), l[i]? = some x → us[i]? = some u → RdI W u.1 x.ps) → paF l us k = some v → ∃ ps, paL l k = some ps ∧ RdI W v ps
  | [], _, _, _, _, h => by cases h
  | _ :: _, [], _, _, _, h => by cases h
  | y :: l, u :: us, k, v, hr, h => by
    simp only [paF] at h
    simp only [paL]
    split at h
    · rename_i e
      cases h
      exact ⟨y.ps, if_pos e, hr 0 y u rfl rfl⟩
    · rename_i e
      rw [if_neg e]
      exact paF_rd l us k v (fun i x u hi hu => hr (i + 1) x u (by simpa using hi) (by simpa using hu)) h
theorem make_pa (n : Int) (w : World) : (Instr.makeMap 75 (some (.int .i64 n))).run Try.prog w = .ok (.map (some w.heap.size)) (w.alloc (.map #[] 0)) := by
  simp [Instr.makeMap, run_underlying Try.underlying75, asInt, asIntOf, Result.andThen]
set_option maxRecDepth 20000 in
set_option maxHeartbeats 2000000 in
theorem parentsOf_any (ao : Option Addr) (cp : Nat) (cs : List CoD) (us : List (Value × Value × Value)) (w : World) (hA : AtCo w ao cs us) (hln : cs.length * 96 ≤ 140737488355328) (hI : ∀ x ∈ cs, InI x.n) :
    Calls Try.prog 36 #[.slice ao cs.length cp] w fun e w' => ∃ b, e = .returned (.map (some b)) ∧ PaZ w' b cs.length (paF cs us) ∧ w.heap.size ≤ b ∧ Below w.heap.size w w' := by
  have hmm := make_pa (cs.length : Int) w
  have h0 : PaZ (w.alloc (.map #[] 0)) w.heap.size 0 (paF (cs.take 0) (us.take 0)) := by
    have e : paF (cs.take 0) (us.take 0) = fun _ => none := by funext k; rfl
    rw [e]
    exact paz_new w
  have hb0 := alloc_bR w (.map #[] 0)
  go_enter Try.func36, Try.ntmps36
  go_wp2_with fail
  clear hmm
  go_loopw [13] (fun i wr => ∃ k : Nat, k ≤ cs.length ∧ i = .int .i64 (k : Int) ∧ PaZ wr w.heap.size k (paF (cs.take k) (us.take k)) ∧ Below w.heap.size w wr ∧ w.heap.size < wr.heap.size) (fun i _ => cs.length - (Go.RowKit.intOf i).toNat)
  case atStart => exact ⟨0, by omega, rfl, h0, hb0, by simp⟩
  case round =>
    clear h0 hb0
    obtain ⟨k, hk, rfl, hP, hb, hsz⟩ := hrel
    by_cases hlt : k < cs.length
    · have hlt' : (k : Int) < (cs.length : Int) := by omega
      obtain ⟨u, hu⟩ : ∃ u, us[k]? = some u := ⟨us[k]'(by rw [hA.ul]; exact hlt), by simp⟩
      have hxk : cs[k]? = some cs[k] := by simp [hlt]
      obtain ⟨g, off, rfl, hg, ⟨c0, c1, c2, c3, c4, c5⟩, r1, r2, r3⟩ := hA.at_ k _ u hxk hu
      have q := fun o => hb.cell (p := ⟨g, o, none⟩) hg
      rw [← q] at c0 c1 c2 c3 c4 c5
      have hIx := hI cs[k] (List.getElem_mem hlt)
      have eF : ∀ j, paF (cs.take (k + 1)) (us.take (k + 1)) j = if (paF (cs.take k) (us.take k) j).isSome then paF (cs.take k) (us.take k) j else if j = (cs[k]).n then some u.1 else none := by
        intro j
        have e1 : us.take (k + 1) = us.take k ++ [u] := by
          rw [List.take_add_one, hu]
          rfl
        rw [List.take_succ_eq_append_getElem hlt, e1]
        exact paF_snoc _ _ _ _ _ (by simp [hA.ul])
      obtain ⟨HF⟩ : Nonempty (Hid (∀ j, paF (cs.take (k + 1)) (us.take (k + 1)) j = if (paF (cs.take k) (us.take k) j).isSome then paF (cs.take k) (us.take k) j else if j = (cs[k]).n then some u.1 else none)) := ⟨eF⟩
      clear eF hxk q
      generalize paF (cs.take k) (us.take k) = F at *
      generalize cs[k] = x at *
      obtain ⟨p0, d0, o0⟩ := u
      simp only at c1 c2 c3 r1 r2 r3 HF
      obtain ⟨ap, kp, rfl⟩ := rdi_len r1
      obtain ⟨ad, kd, rfl⟩ := rdd_lenT r2
      obtain ⟨ae, ke, rfl⟩ := rdd_lenT r3
      have hal := alloc_bR wr (.cells #[.int .i64 x.n, .slice ap x.ps.length kp, .slice ad x.d.length kd, .slice ae x.o.length ke, .int .i64 x.c, .int .i64 x.s] 40)
      have hnw := heap_alloc_new wr (.cells #[.int .i64 x.n, .slice ap x.ps.length kp, .slice ad x.d.length kd, .slice ae x.o.length ke, .int .i64 x.c, .int .i64 x.s] 40)
      have hP1 := hP.below hal
      have hb1 := hb.trans (hal.mono hb.size)
      obtain ⟨lv, hlk⟩ := hP1.look hIx
      obtain ⟨W', hup, hP2, hg2⟩ := hP1.put (by unfold maxLen; omega) hIx ap x.ps.length kp
      have hb2 := hb1.grown hg2 (Nat.le_of_lt (by simp; omega)) (fun j hj => by cases hj; omega)
      have hne : wr.heap.size ≠ w.heap.size := by omega
      have hnw2 := (hg2.block _ (heap_lt hnw) (by simp; omega)).trans hnw
      clear hP hA hu r1 r2 r3
      cases hs : (F x.n).isSome with
      | true =>
        rw [hs] at hlk
        have hP3 : PaZ (wr.alloc (.cells #[.int .i64 x.n, .slice ap x.ps.length kp, .slice ad x.d.length kd, .slice ae x.o.length ke, .int .i64 x.c, .int .i64 x.s] 40)) w.heap.size (k + 1) (paF (cs.take (k + 1)) (us.take (k + 1))) := by
          have e : paF (cs.take (k + 1)) (us.take (k + 1)) = F := by
            funext j
            rw [HF.out j]
            split
            · rfl
            · rename_i hn
              rw [if_neg (fun e => hn (by rw [e]; exact hs))]
              cases hj : F j with
              | none => rfl
              | some v => simp [hj] at hn
          rw [e]
          exact hP1.mono (by omega)
        clear hup hP2 hg2 hb2 hnw2 HF hP1
        go_wp2_with fail
        exact ⟨⟨k + 1, by omega, by go_num, hP3, hb1, by simp; omega⟩, by simp [Go.RowKit.intOf]; omega⟩
      | false =>
        rw [hs] at hlk
        have hP3 : PaZ W' w.heap.size (k + 1) (paF (cs.take (k + 1)) (us.take (k + 1))) := by
          have e : paF (cs.take (k + 1)) (us.take (k + 1)) = fun j => if j = x.n then some (.slice ap x.ps.length kp) else F j := by
            funext j
            rw [HF.out j]
            by_cases e : j = x.n
            · rw [e, hs]; simp
            · rw [if_neg e, if_neg e]
              split
              · rfl
              · rename_i hn
                cases hj : F j with
                | none => rfl
                | some v => simp [hj] at hn
          rw [e]
          exact hP2
        have hW : w.heap.size < W'.heap.size := by have := hg2.size; simp at this; omega
        clear HF hP1 hP2 hg2
        go_wp2_with fail
        exact ⟨⟨k + 1, by omega, by go_num, hP3, hb2, hW⟩, by simp [Go.RowKit.intOf]; omega⟩
    · have hlt' : ¬ (k : Int) < (cs.length : Int) := by omega
      have hk2 : k = cs.length := by omega
      have hPF : PaZ wr w.heap.size cs.length (paF cs us) := by
        rw [hk2, List.take_length, List.take_of_length_le (by rw [hA.ul]; omega)] at hP
        exact hP
      clear hP hA
      go_wp2_with fail
      go_ret
      exact ⟨_, rfl, hPF, Nat.le_refl _, hb⟩
end Go.Proofs.Ythhdpabelcgfjaa
