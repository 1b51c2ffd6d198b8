/-
  The contract of Join.
-/
import Derived.Test.YtofmficdfkeffaaDoorDoQ
namespace Go.Proofs.YtofmficdfkeffaaDoor
open Go.WideShapes Go.RowKit Go.ChangeShapes Go.ChangeAt Go.PlainAid

/-- Two documents, one behind the other. -/
def jn2 (a b : List RunD) : List RunD := wtL (wtL [] a) b
/-- May they be joined? -/
def jnB (a b : List RunD) : Bool := ckG [] none a && ckG [] none b && ckG [] none (jn2 a b)
def jnE (a b : List RunD) : Int := if jnB a b = true then 0 else 120
def jnL (a b : List RunD) : List RunD := if jnB a b = true then jn2 a b else []

theorem own_in {w : World} {v : Value} {l : List RunD} (h : RdN w v l) (hn : l ≠ []) : ∀ g, v.ownBlock = some g → g < w.heap.size := by
  intro g hg
  cases l with
  | nil => exact absurd rfl hn
  | cons r l =>
    obtain ⟨ao, cp, rfl, -, hc⟩ := h
    obtain ⟨b, o, rfl, hb, -⟩ := hc 0 r rfl
    simp [Value.ownBlock] at hg
    omega

end Go.Proofs.YtofmficdfkeffaaDoor

/-
  The contract of At.
-/
namespace Go.Proofs.YtofmficdfkeffaaDoor
open Go.WideShapes Go.RowKit Go.ChangeShapes Go.ChangeAt Go.PlainAid

theorem results_c3 {P : Program} {fn : Func} {p a b : Tmp} {ty : TypeId} (h : fn.results = #[.cell p ty, .tmp a, .tmp b]) (tmps : Array Value) (w : World) (g : Nat) (t : TypeId) (cs : Array Value) (fr : Nat × Nat) (d : TypeDesc)
    (hp : tmps.getD p undef = .pointer (some ⟨g, 0, none⟩)) (hg : w.heap[g]? = some (.cells cs t fr))
    (hu : P.underlying ty = some d) (hd : (match d with | .struct _ | .array _ _ => true | _ => false) = true) (hi : (P.info? ty).map (·.size) = some cs.size) (x y : Value) (hx : tmps.getD a undef = x) (hy : tmps.getD b undef = y) :
    (results fn tmps).run P w = .ok (.tuple #[.agg cs, x, y]) w := by
  have hp' : tmps[p]?.getD undef = .pointer (some ⟨g, 0, none⟩) := by simpa using hp
  have hx' : tmps[a]?.getD undef = x := by simpa using hx
  have hy' : tmps[b]?.getD undef = y := by simpa using hy
  simp [results, h, hp', hx', hy', asAddr, run_loadVar_row w g t ty cs fr d hg hu hd hi]

/-- Where atom i is. -/
def atF : List RunD → Int → Int × Int × Int × Bool
  | [], _ => (0, 0, 0, false)
  | r :: l, i => if i < cpl r.t then (r.c, r.q, r.f + i, true) else atF l (i - cpl r.t)
/-- What At answers. -/
def atR (l : List RunD) (i : Int) : Int × Int × Int × Bool := if ckG [] none l = true ∧ 0 ≤ i then atF l i else (0, 0, 0, false)
/-- .. as a value. -/
def atA (x : Int × Int × Int × Bool) : Value := .tuple #[.agg #[.int .i64 x.1, .int .i64 x.2.1], .int .i64 x.2.2.1, .bool x.2.2.2]
theorem Tryd.sizeOr : (Tryd.prog.info? 40).map (·.size) = some 2 := by kernel_rfl
/-- An origin's box. -/
def OB (W : World) (b : Nat) (c q : Int) : Prop := W.heap[b]? = some (.cells #[.int .i64 c, .int .i64 q] 40)
theorem OB.below {W W' : World} {b : Nat} {c q : Int} (h : OB W b c q) (hb : Below W.heap.size W W') : OB W' b c q := (hb.block b (heap_lt h)).trans h
theorem OB.set {W : World} {b : Nat} {c q : Int} (h : OB W b c q) (c' q' : Int) : OB ((W.setCell ⟨b, 0, none⟩ (.int .i64 c')).setCell ⟨b, 1, none⟩ (.int .i64 q')) b c' q' := heap_setCell (heap_setCell h 0 _) 1 _
theorem OB.facts {W : World} {b : Nat} {c q : Int} (h : OB W b c q) : W.cell? ⟨b, 0, none⟩ = some (.int .i64 c) ∧ W.cell? ⟨b, 1, none⟩ = some (.int .i64 q) ∧ W.frozen? ⟨b, 0, none⟩ = false ∧ W.frozen? ⟨b, 1, none⟩ = false :=
  ⟨cell_of_row _ _ 0 _ _ (0, 0) h, cell_of_row _ _ 1 _ _ (0, 0) h, frz h 0, frz h 1⟩
theorem bl_set2 {B : Nat} {W X : World} {b : Nat} (h : Below B W X) (hb : B ≤ b) (x y : Value) : Below B W ((X.setCell ⟨b, 0, none⟩ x).setCell ⟨b, 1, none⟩ y) :=
  (h.setCell (p := ⟨b, 0, none⟩) hb x).setCell (p := ⟨b, 1, none⟩) hb y

end Go.Proofs.YtofmficdfkeffaaDoor

/-
  The contract of slices.ContainsFunc with the function that Apply hands to it.
-/
namespace Go.Proofs.YtofmficdfkeffaaDoor
open Go.WideShapes Go.RowKit Go.ChangeShapes Go.ChangeAt Go.PlainAid

/-- Is a run of this origin? -/
def orQ (c q : Int) (r : RunD) : Bool := decide (r.c = c) && decide (r.q = q)



end Go.Proofs.YtofmficdfkeffaaDoor

/-
  What a delta makes of a document, as data.
-/
namespace Go.Proofs.YtofmficdfkeffaaDoor
open Go.WideShapes Go.RowKit Go.ChangeShapes Go.ChangeAt Go.PlainAid

/-- What became so far, the rest, the next number, the steps to come; what is put in has the origin c, q. -/
def adR (c q : Int) : List RunD → List RunD → Int → List St → List RunD
  | X, _, _, [] => X
  | X, L, n, .keep k :: l => adR c q (wtL X (tkG k L).1) (tkG k L).2 n l
  | X, L, n, .rem k :: l => adR c q X (tkG k L).2 n l
  | X, L, n, .ins t :: l => adR c q (wtL X [⟨c, q, n, t⟩]) L (n + cpl t) l
/-- .. of atoms. -/
def apA (c q : Int) : List Atm → Int → List St → List Atm
  | _, _, [] => []
  | A, n, .keep k :: l => A.take k ++ apA c q (A.drop k) n l
  | A, n, .rem k :: l => apA c q (A.drop k) n l
  | A, n, .ins t :: l => atG c q n (pts t) ++ apA c q A (n + cpl t) l
theorem adR_ats (c q : Int) : ∀ (ds : List St) (X L : List RunD) (n : Int), Can X → (∀ r ∈ L, r.Ok) → (∀ s ∈ ds, s.Ok) → Can (adR c q X L n ds) ∧ ats (adR c q X L n ds) = ats X ++ apA c q (ats L) n ds
  | [], X, L, n, hX, _, _ => ⟨hX, by simp [adR, apA]⟩
  | .keep k :: ds, X, L, n, hX, hL, hd => by
    obtain ⟨a1, a2, a3, a4⟩ := tkG_ats L k hL
    obtain ⟨b1, b2⟩ := wtL_can hX a3
    obtain ⟨h1, h2⟩ := adR_ats c q ds (wtL X (tkG k L).1) (tkG k L).2 n b1 a4 (fun s hs => hd s (by simp [hs]))
    rw [adR, apA, h2, b2, a1, a2, List.append_assoc]
    exact ⟨h1, rfl⟩
  | .rem k :: ds, X, L, n, hX, hL, hd => by
    obtain ⟨a1, a2, a3, a4⟩ := tkG_ats L k hL
    obtain ⟨h1, h2⟩ := adR_ats c q ds X (tkG k L).2 n hX a4 (fun s hs => hd s (by simp [hs]))
    rw [adR, apA, h2, a2]
    exact ⟨h1, rfl⟩
  | .ins t :: ds, X, L, n, hX, hL, hd => by
    have ht : (⟨c, q, n, t⟩ : RunD).Ok := (hd (.ins t) (by simp)).1
    obtain ⟨b1, b2⟩ := wtL_can (more := [⟨c, q, n, t⟩]) hX (fun r hr => by simp at hr; subst hr; exact ht)
    obtain ⟨h1, h2⟩ := adR_ats c q ds (wtL X [⟨c, q, n, t⟩]) L (n + cpl t) b1 hL (fun s hs => hd s (by simp [hs]))
    rw [adR, apA, h2, b2, List.append_assoc]
    refine ⟨h1, ?_⟩
    rw [ats_cons, ats_nil, List.append_nil]
    rfl

theorem tkG_sum : ∀ (L : List RunD) (n : Nat), (∀ r ∈ L, r.Ok) → (txB (tkG n L).1).length + (txB (tkG n L).2).length = (txB L).length ∧ (tkG n L).1.length + (tkG n L).2.length ≤ L.length + 1
  | [], n, _ => by simp [tkG, txB]
  | r :: L, n, h => by
    by_cases h0 : n = 0
    · subst h0
      rw [tkG_zero]
      simp [txB]
    · by_cases hk : r.k ≤ n
      · obtain ⟨a1, a2⟩ := tkG_sum L (n - r.k) (fun x hx => h x (by simp [hx]))
        rw [tkG_all h0 hk, show r :: L = [r] ++ L from rfl, show r :: (tkG (n - r.k) L).1 = [r] ++ (tkG (n - r.k) L).1 from rfl, txB_append, txB_append]
        simp only [List.length_append, List.length_cons, List.length_nil]
        omega
      · have hk' : n < r.k := by omega
        have hr : r.Ok := h r (by simp)
        have hv := cpl_valid (s := r.t) (by unfold RunD.Ok at hr; omega)
        have hp := (pos_le hv.1 (min n (cpl r.t).toNat) (Nat.min_le_right _ _)).2
        have s1 : (r.hd n).t.size = pos r.t (min n (cpl r.t).toNat) := by
          show (r.t.extract _ _).size = _
          rw [ByteArray.size_extract]
          omega
        have s2 : (r.tl n).t.size = r.t.size - pos r.t (min n (cpl r.t).toNat) := by
          show (r.t.extract _ _).size = _
          rw [ByteArray.size_extract]
          omega
        have e : ∀ x : RunD, x.t.data.toList.length = x.t.size := fun x => by rw [Array.length_toList]; rfl
        rw [tkG_part h0 hk', show r :: L = [r] ++ L from rfl, show r.tl n :: L = [r.tl n] ++ L from rfl, txB_append, txB_append, txB_one, txB_one, txB_one]
        simp only [List.length_append, List.length_cons, List.length_nil, e, s1, s2]
        omega
/-- How many code points are put in. -/
def isum : List St → Int
  | [] => 0
  | .ins t :: l => cpl t + isum l
  | _ :: l => isum l
theorem isum_pos : ∀ {ds : List St}, (∀ s ∈ ds, s.Ok) → 0 ≤ isum ds
  | [], _ => by simp [isum]
  | .keep k :: ds, h => isum_pos (ds := ds) (fun s hs => h s (by simp [hs]))
  | .rem k :: ds, h => isum_pos (ds := ds) (fun s hs => h s (by simp [hs]))
  | .ins t :: ds, h => by
    have h1 := isum_pos (ds := ds) (fun s hs => h s (by simp [hs]))
    have h2 := (h (.ins t) (by simp)).1
    rw [isum]
    omega
end Go.Proofs.YtofmficdfkeffaaDoor

/-
  The contract of applied.
-/
namespace Go.Proofs.YtofmficdfkeffaaDoor
open Go.WideShapes Go.RowKit Go.ChangeShapes Go.ChangeAt Go.PlainAid

/-- applied on its way. -/
structure AI (w W : World) (B p g : Nat) (c q : Int) (E : List RunD) (N : Nat) (D : List St) (X L : List RunD) (n : Int) (vv u : Value) : Prop where
  eq : E = adR c q X L n D
  own : W.ownsRow B 65 4 u X.length (rcs X)
  tk : Tk W p g vv L
  bl : Below w.heap.size w W
  ob : OB W w.heap.size c q
  le : B ≤ W.heap.size
  fit : ∀ r ∈ L, r.Fit
  wf : ∀ r ∈ X, r.Wf
  ln : X.length + L.length ≤ N
  tx : ((txB X).length : Int) + (txB L).length + 4 * isum D ≤ 8000
  nm : 0 ≤ n ∧ n + isum D ≤ 1000
theorem AI.below {w W W' : World} {B p g : Nat} {c q : Int} {E : List RunD} {N : Nat} {D : List St} {X L : List RunD} {n : Int} {vv u : Value} (h : AI w W B p g c q E N D X L n vv u) (hb : Below W.heap.size W W') : AI w W' B p g c q E N D X L n vv u :=
  ⟨h.eq, own_belowG h.own hb, h.tk.only (Only.of_below (S := []) hb) (by simp) (by simp), chain h.bl hb, h.ob.below hb, Nat.le_trans h.le hb.size, h.fit, h.wf, h.ln, h.tx, h.nm⟩
/-- What a taker took is gone. -/
theorem AI.rem {w W W' : World} {B p g k : Nat} {c q : Int} {E : List RunD} {N : Nat} {D : List St} {X L : List RunD} {n : Int} {vv v1 u : Value} (h : AI w W B p g c q E N (.rem k :: D) X L n vv u) (hp : w.heap.size < p ∧ p < B) (hg : w.heap.size < g ∧ g < B) (ht : Tk W' p g v1 (tkG k L).2) (ho : Only [p, g] W W') (hf : ∀ r ∈ (tkG k L).2, r.Fit) :
    AI w W' B p g c q E N D X (tkG k L).2 n v1 u := by
  obtain ⟨f1, f2, f3, f4, f5⟩ := tkG_facts L k h.fit
  have h1 := h.ln
  have h2 := h.tx
  have hs := h.bl.size
  simp only [isum] at h2
  exact ⟨h.eq, own_only h.own ho (fun x hx => by have := (h.own.lt x hx).1; simp; omega), ht, h.bl.trans (ho.below hs (by simp; omega)), only_heap h.ob ho (by simp; omega), Nat.le_trans h.le ho.size, hf, h.wf, by omega, by omega, h.nm⟩
/-- What it took is behind the rest. -/
theorem AI.keep {w W W1 W2 : World} {B p g k : Nat} {c q : Int} {E : List RunD} {N : Nat} {D : List St} {X L : List RunD} {n : Int} {vv v1 u u2 : Value} (h : AI w W B p g c q E N (.keep k :: D) X L n vv u) (hp : w.heap.size < p ∧ p < B) (hg : w.heap.size < g ∧ g < B) (ht : Tk W1 p g v1 (tkG k L).2) (ho : Only [p, g] W W1) (hf : ∀ r ∈ (tkG k L).2, r.Fit) (hw : WI W1 W2 B (wtL X (tkG k L).1) u u2) :
    AI w W2 B p g c q E (N + 1) D (wtL X (tkG k L).1) (tkG k L).2 n v1 u2 := by
  obtain ⟨f1, f2, f3, f4, f5⟩ := tkG_facts L k h.fit
  obtain ⟨s1, s2⟩ := tkG_sum L k (fun r hr => (h.fit r hr).ok)
  have h1 := h.ln
  have h2 := h.tx
  have hs := h.bl.size
  have hl := wtL_len (tkG k L).1 X
  have htx := txB_wtL (tkG k L).1 X
  simp only [isum] at h2
  have hub : ∀ x, x ∈ u.ownBlock.toList → B ≤ x := fun x hx => by simp only [Option.mem_toList] at hx; exact (h.own.lt x hx).1
  have hB1 := h.bl.trans (ho.below hs (by simp; omega))
  have hni : ∀ x, x < B → x ∉ u.ownBlock.toList := fun x hx hm => by have := hub x hm; omega
  have ob1 : OB W1 w.heap.size c q := only_heap h.ob ho (by simp; omega)
  refine ⟨h.eq, hw.own, ht.only hw.on (hni _ hp.2) (hni _ hg.2), hB1.trans (hw.on.below hB1.size (fun x hx => by have := hub x hx; omega)), only_heap ob1 hw.on (hni _ (by omega)), Nat.le_trans h.le (Nat.le_trans ho.size hw.on.size), hf, wtL_wf h.wf f1, by omega, ?_, h.nm⟩
  rw [htx, List.length_append]
  omega
/-- What is put in is behind the rest. -/
theorem AI.ins {w W W2 : World} {B p g : Nat} {c q : Int} {E : List RunD} {N : Nat} {D : List St} {X L : List RunD} {n : Int} {t : ByteArray} {vv u u2 : Value} (h : AI w W B p g c q E N (.ins t :: D) X L n vv u) (hp : w.heap.size < p ∧ p < B) (hg : w.heap.size < g ∧ g < B) (ht : 0 < cpl t) (hD : ∀ s ∈ D, s.Ok) (hw : WI W W2 B (wtL X [⟨c, q, n, t⟩]) u u2) :
    AI w W2 B p g c q E (N + 1) D (wtL X [⟨c, q, n, t⟩]) L (n + cpl t) vv u2 := by
  have h1 := h.ln
  have h2 := h.tx
  have h3 := h.nm
  have hs := h.bl.size
  have hl := wtL_len [⟨c, q, n, t⟩] X
  have htx := txB_wtL [⟨c, q, n, t⟩] X
  have hip := isum_pos hD
  have hsz := size_cpl ht
  simp only [isum] at h2 h3
  simp only [List.length_cons, List.length_nil] at hl
  have hub : ∀ x, x ∈ u.ownBlock.toList → B ≤ x := fun x hx => by simp only [Option.mem_toList] at hx; exact (h.own.lt x hx).1
  have hni : ∀ x, x < B → x ∉ u.ownBlock.toList := fun x hx hm => by have := hub x hm; omega
  have e : t.data.toList.length = t.size := by rw [Array.length_toList]; rfl
  refine ⟨h.eq, hw.own, h.tk.only hw.on (hni _ hp.2) (hni _ hg.2), h.bl.trans (hw.on.below hs (fun x hx => by have := hub x hx; omega)), only_heap h.ob hw.on (hni _ (by omega)), Nat.le_trans h.le hw.on.size, h.fit, wtL_wf h.wf (fun r hr => ?_), by omega, ?_, by omega⟩
  · simp at hr
    subst hr
    exact ⟨ht, h3.1, by show n ≤ _; omega⟩
  · rw [htx, txB_one, List.length_append, e]
    omega
end Go.Proofs.YtofmficdfkeffaaDoor

/-
  The contract of applied.
-/
namespace Go.Proofs.YtofmficdfkeffaaDoor
open Go.WideShapes Go.RowKit Go.ChangeShapes Go.ChangeAt Go.PlainAid

theorem rdd_at {w : World} {ao : Option Addr} {m cp : Nat} {l : List OpD} (h : RdD w (.slice ao m cp) l) (i : Nat) (o : OpD) (ho : l[i]? = some o) : ∃ b off, ao = some ⟨b, off, none⟩ ∧
    w.cell? ⟨b, off + i * 3, none⟩ = some (.int .i64 o.k) ∧ w.cell? ⟨b, off + i * 3 + 1, none⟩ = some (.int .i64 o.n) ∧ w.cell? ⟨b, off + i * 3 + 2, none⟩ = some (.string o.t) := by
  obtain ⟨ao', cp', e, _, h1⟩ := h
  injection e with e1 e2 e3
  subst e1
  obtain ⟨b, off, e4, _, c0, c1, c2⟩ := h1 i o ho
  exact ⟨b, off, e4, c0, c1, c2⟩
theorem AI.more {w W : World} {B p g : Nat} {c q : Int} {E : List RunD} {N N' : Nat} {D : List St} {X L : List RunD} {n : Int} {vv u : Value} (h : AI w W B p g c q E N D X L n vv u) (hN : N ≤ N') : AI w W B p g c q E N' D X L n vv u :=
  ⟨h.eq, h.own, h.tk, h.bl, h.ob, h.le, h.fit, h.wf, Nat.le_trans h.ln hN, h.tx, h.nm⟩
theorem drop_st {ds : List St} {k : Nat} (h : k < ds.length) : ds.drop k = ds[k] :: ds.drop (k + 1) := List.drop_eq_getElem_cons h

end Go.Proofs.YtofmficdfkeffaaDoor

/-
  The contract of Apply.
-/
namespace Go.Proofs.YtofmficdfkeffaaDoor
open Go.WideShapes Go.RowKit Go.ChangeShapes Go.ChangeAt Go.PlainAid

theorem size_nil {t : ByteArray} (h : t.size = 0) : t = ⟨#[]⟩ := by
  apply ByteArray.ext
  exact Array.eq_empty_of_size_eq_zero h
theorem st_back {o : OpD} {s : St} (h : stOf o = some s) : s.op = o := by
  obtain ⟨k, n, t⟩ := o
  unfold stOf at h
  simp only at h
  split at h
  · rename_i h1
    obtain ⟨h1, h2, h3⟩ := h1
    have ht := size_nil h3
    split at h
    · rename_i h4
      injection h with h
      subst h
      subst h4
      subst ht
      show (⟨1, _, _⟩ : OpD) = _
      congr 1
      omega
    · split at h
      · rename_i h4
        injection h with h
        subst h
        subst h4
        subst ht
        show (⟨3, _, _⟩ : OpD) = _
        congr 1
        omega
      · cases h
  · split at h
    · rename_i h4
      injection h with h
      subst h
      obtain ⟨rfl, rfl, -⟩ := h4
      rfl
    · cases h
theorem stl_back : ∀ {ds : List OpD}, ds.any (fun o => (stOf o).isNone) = false → (stl ds).map St.op = ds
  | [], _ => rfl
  | o :: ds, h => by
    simp only [List.any_cons, Bool.or_eq_false_iff] at h
    obtain ⟨h1, h2⟩ := h
    cases hs : stOf o with
    | none => rw [hs] at h1; cases h1
    | some s =>
      have : stl (o :: ds) = s :: stl ds := by simp [stl, hs]
      rw [this, List.map_cons, st_back hs, stl_back h2]
theorem stR_back {ds : List OpD} (h : chk ds = 0) : (stR ds).map St.op = ds := by
  rw [chk_yes ds h]
  apply stl_back
  unfold chk at h
  split at h
  · cases h
  · split at h
    · cases h
    · rename_i h2
      simpa using h2
theorem isum_le : ∀ (ds : List St), (∀ s ∈ ds, s.Ok) → isum ds ≤ tsum ds
  | [], _ => by simp [isum, tsum]
  | s :: ds, h => by
    have ih := isum_le ds (fun x hx => h x (by simp [hx]))
    have e : tsum (s :: ds) = s.c + tsum ds := by simp [tsum]
    rw [e]
    cases s with
    | keep k => simp only [isum]; omega
    | rem k => simp only [isum]; omega
    | ins t =>
      have := (h (.ins t) (by simp)).1
      simp only [isum, St.c]
      omega
end Go.Proofs.YtofmficdfkeffaaDoor

/-
  The contract of Apply.
-/
namespace Go.Proofs.YtofmficdfkeffaaDoor
open Go.WideShapes Go.RowKit Go.ChangeShapes Go.ChangeAt Go.PlainAid

/-- What Apply answers: the error. -/
def dcE (l : List RunD) (ds : List OpD) (c q : Int) : Int :=
  if ckG [] none l = true then (if chk ds = 0 then (if bsum (stR ds) = num l then (if orM c q = true ∧ l.any (orQ c q) = false then 0 else 1) else 91) else chk ds) else 120
/-- .. and the document. -/
def dcL (l : List RunD) (ds : List OpD) (c q : Int) : List RunD :=
  if ckG [] none l = true then (if chk ds = 0 then (if bsum (stR ds) = num l then (if orM c q = true ∧ l.any (orQ c q) = false then adR c q [] l 0 (stR ds) else []) else []) else []) else []

end Go.Proofs.YtofmficdfkeffaaDoor

/-
  The contract of the reference's Same, of a document and itself.
-/
namespace Go.Proofs.YtofmficdfkeffaaDoor
open Go.WideShapes Go.RowKit Go.ChangeShapes Go.ChangeAt Go.PlainAid

set_option maxRecDepth 20000 in
set_option maxHeartbeats 2000000 in
theorem docSame_true (va vb : Value) (l : List RunD) (w : World) (hm : l.length ≤ 1125899906842624) (ha : RdN w va l) (hb : RdN w vb l) :
    Calls Tryd.prog 12 #[va, vb] w fun e w' => e = .returned (.bool true) ∧ Below w.heap.size w w' := by
  obtain ⟨ao, ac, rfl, _, hac⟩ := ha
  obtain ⟨bo, bc, rfl, _, hbc⟩ := hb
  go_enter Tryd.func12, Tryd.ntmps12
  go_wp2
  go_loopw [5] (fun i wr => ∃ k : Nat, k ≤ l.length ∧ i = .int .i64 (k : Int) ∧ Below w.heap.size w wr) (fun i _ => l.length - (intOf i).toNat)
  case atStart => exact ⟨0, by omega, rfl, Below.refl _ _⟩
  case round =>
    obtain ⟨k, hk, rfl, hbl⟩ := hrel
    by_cases hlt : k < l.length
    · have hlt' : (k : Int) < (l.length : Int) := by omega
      obtain ⟨b1, o1, rfl, hb1, c0, c1, c2, c3⟩ := hac k l[k] (by simp [hlt])
      obtain ⟨b2, o2, rfl, hb2, d0, d1, d2, d3⟩ := hbc k l[k] (by simp [hlt])
      have hB1 : ∀ o, wr.cell? ⟨b1, o, none⟩ = w.cell? ⟨b1, o, none⟩ := fun o => hbl.cell (p := ⟨b1, o, none⟩) hb1
      have hB2 : ∀ o, wr.cell? ⟨b2, o, none⟩ = w.cell? ⟨b2, o, none⟩ := fun o => hbl.cell (p := ⟨b2, o, none⟩) hb2
      rw [← hB1] at c0 c1 c2 c3
      rw [← hB2] at d0 d1 d2 d3
      clear hB1 hB2 hac hbc
      generalize l[k] = o at *
      go_wp2
      go_quiet (fail)
      go_wp2
      go_roundw
      case rel => exact ⟨k + 1, by omega, by go_num, below_drewN hbl _⟩
      case measure => simp [intOf]; omega
    · clear hac hbc
      go_wp2
      go_ret
      exact ⟨rfl, hbl⟩
end Go.Proofs.YtofmficdfkeffaaDoor

/-
  A document that may be, told by its atoms.
-/
namespace Go.Proofs.YtofmficdfkeffaaDoor
open Go.WideShapes Go.RowKit Go.ChangeShapes Go.ChangeAt Go.PlainAid

/-- What tells an atom from others. -/
def Atm.key (x : Atm) : AtK := (x.c, x.q, x.n)
theorem atG_key (c q : Int) : ∀ (zs : List Int) (n : Int), (atG c q n zs).map Atm.key = (List.range zs.length).map (fun i : Nat => (c, q, n + (i : Int)))
  | [], _ => rfl
  | z :: zs, n => by
    rw [atG, List.map_cons, atG_key c q zs (n + 1), List.length_cons, List.range_succ_eq_map, List.map_cons, List.map_map]
    congr 1
    · simp [Atm.key]
    · apply List.map_congr_left
      intro i _
      simp only [Function.comp, Nat.succ_eq_add_one, Prod.mk.injEq, true_and]
      omega
theorem kys_ats {r : RunD} (h : r.Ok) : r.kys = r.ats.map Atm.key := by
  have h0 := pts_len (t := r.t) (by unfold RunD.Ok at h; omega)
  unfold RunD.ats
  rw [atG_key]
  unfold RunD.kys
  congr 2
  omega
theorem kysL_ats : ∀ {l : List RunD}, (∀ r ∈ l, r.Ok) → kysL l = (ats l).map Atm.key
  | [], _ => rfl
  | r :: l, h => by rw [kysL_cons, ats_cons, List.map_append, kys_ats (h r (by simp)), kysL_ats (fun x hx => h x (by simp [hx]))]
theorem sg_nodup : ∀ (ks S : List AtK), (sg S ks).isSome = true ↔ (∀ k ∈ ks, k ∉ S) ∧ ks.Nodup
  | [], S => by simp [sg]
  | k :: ks, S => by
    rw [sg]
    by_cases h : k ∈ S
    · rw [if_pos h]
      simp [h]
    · rw [if_neg h, sg_nodup ks (S ++ [k])]
      simp only [List.mem_append, List.nodup_cons, List.mem_cons, forall_eq_or_imp, List.not_mem_nil, or_false]
      constructor
      · rintro ⟨h1, h2⟩
        exact ⟨⟨h, fun x hx hs => h1 x hx (.inl hs)⟩, fun hk => h1 k hk (.inr rfl), h2⟩
      · rintro ⟨⟨_, h1⟩, h2, h3⟩
        exact ⟨fun x hx hs => hs.elim (h1 x hx) (fun e => h2 (e ▸ hx)), h3⟩
/-- May an atom be? -/
def Atm.May (x : Atm) : Prop := orM x.c x.q = true ∧ 0 ≤ x.n ∧ x.n ≤ 999
theorem atG_mem (c q : Int) : ∀ (zs : List Int) (n : Int) (x : Atm), x ∈ atG c q n zs → x.c = c ∧ x.q = q ∧ n ≤ x.n ∧ x.n < n + zs.length
  | [], _, x, h => by simp [atG] at h
  | z :: zs, n, x, h => by
    rw [atG] at h
    simp only [List.length_cons]
    rcases List.mem_cons.1 h with rfl | h
    · exact ⟨rfl, rfl, Int.le_refl _, by show n < _; omega⟩
    · obtain ⟨h1, h2, h3, h4⟩ := atG_mem c q zs (n + 1) x h
      exact ⟨h1, h2, by omega, by omega⟩
theorem atG_has (c q : Int) : ∀ (zs : List Int) (n : Int) (i : Nat), i < zs.length → ∃ x ∈ atG c q n zs, x.c = c ∧ x.q = q ∧ x.n = n + i
  | [], _, i, h => by simp at h
  | z :: zs, n, 0, _ => ⟨⟨c, q, n, z⟩, by simp [atG], rfl, rfl, by simp⟩
  | z :: zs, n, i + 1, h => by
    obtain ⟨x, h1, h2, h3, h4⟩ := atG_has c q zs (n + 1) i (by simpa using h)
    exact ⟨x, by simp [atG, h1], h2, h3, by rw [h4]; simp; omega⟩
theorem may_ats {r : RunD} (h : r.Ok) : mayR r = true ↔ ∀ x ∈ r.ats, x.May := by
  have h0 := pts_len (t := r.t) (by unfold RunD.Ok at h; omega)
  unfold RunD.Ok at h
  constructor
  · intro hm x hx
    obtain ⟨m1, m2, m3, m4⟩ := mayR_iff.1 hm
    obtain ⟨a1, a2, a3, a4⟩ := atG_mem _ _ _ _ _ hx
    exact ⟨by rw [a1, a2]; exact m1, by omega, by omega⟩
  · intro hx
    obtain ⟨x, x1, x2, x3, x4⟩ := atG_has r.c r.q (pts r.t) r.f 0 (by omega)
    obtain ⟨y, y1, y2, y3, y4⟩ := atG_has r.c r.q (pts r.t) r.f ((pts r.t).length - 1) (by omega)
    have mx := hx x x1
    have my := hx y y1
    refine mayR_iff.2 ⟨by have := mx.1; rwa [x2, x3] at this, h, by have := mx.2.1; rw [x4] at this; simpa using this, ?_⟩
    have := my.2.2
    rw [y4] at this
    omega
/-- THE MEASURE OF A DOCUMENT: it stands as it must, and its atoms may be. -/
theorem good_ats {l : List RunD} : Good l ↔ Can l ∧ (∀ x ∈ ats l, x.May) ∧ ((ats l).map Atm.key).Nodup ∧ (ats l).length ≤ 1000 := by
  constructor
  · intro h
    have ho : ∀ r ∈ l, r.Ok := fun r hr => (h.fit r hr).ok
    have e := kysL_ats ho
    refine ⟨h.can, fun x hx => ?_, ?_, ?_⟩
    · simp only [ats, List.mem_flatten, List.mem_map] at hx
      obtain ⟨_, ⟨r, hr, rfl⟩, hx⟩ := hx
      exact (may_ats (ho r hr)).1 (h.may r hr) x hx
    · rw [← e]
      exact ((sg_nodup _ _).1 h.one).2
    · have := h.len
      rw [e, List.length_map] at this
      exact this
  · rintro ⟨h1, h2, h3, h4⟩
    have ho := h1.all
    have e := kysL_ats ho
    refine ⟨fun r hr => (may_ats (ho r hr)).2 (fun x hx => h2 x ?_), h1, ?_, by rw [e, List.length_map]; exact h4⟩
    · simp only [ats, List.mem_flatten, List.mem_map]
      exact ⟨_, ⟨r, hr, rfl⟩, hx⟩
    · rw [sg_nodup, e]
      exact ⟨by simp, h3⟩
theorem num_ats {l : List RunD} (h : ∀ r ∈ l, r.Ok) : num l = (ats l).length := by unfold num; rw [kysL_ats h, List.length_map]
end Go.Proofs.YtofmficdfkeffaaDoor

/-
  A document cut in two and joined again.
-/
namespace Go.Proofs.YtofmficdfkeffaaDoor
open Go.WideShapes Go.RowKit Go.ChangeShapes Go.ChangeAt Go.PlainAid

theorem sl_is {l : List RunD} (h : Good l) {f t : Nat} (hf : f ≤ t) (ht : t ≤ num l) : slE l f t = 0 ∧ slL l f t = wtL [] (tkG (t - f) (tkG f l).2).1 := by
  have hg := (good_iff l).2 h
  have hc : (0 : Int) ≤ (f : Int) ∧ (f : Int) ≤ (t : Int) ∧ (t : Int) ≤ (num l : Int) := ⟨by omega, by omega, by omega⟩
  have e : ((t : Int) - (f : Int)).toNat = t - f := by omega
  refine ⟨by unfold slE; rw [hg, if_pos rfl, if_pos hc], ?_⟩
  unfold slL
  rw [hg, if_pos rfl, if_pos hc, e, Int.toNat_natCast]
theorem sl_ats {l : List RunD} (h : Good l) {f t : Nat} (hf : f ≤ t) (ht : t ≤ num l) : Can (slL l f t) ∧ ats (slL l f t) = ((ats l).drop f).take (t - f) := by
  rw [(sl_is h hf ht).2]
  obtain ⟨_, a2, _, a4⟩ := tkG_ats l f (fun r hr => (h.fit r hr).ok)
  obtain ⟨b1, _, b3, _⟩ := tkG_ats (tkG f l).2 (t - f) a4
  obtain ⟨c1, c2⟩ := wtL_can (l := []) (more := (tkG (t - f) (tkG f l).2).1) trivial b3
  exact ⟨c1, by rw [c2, b1, a2, ats_nil, List.nil_append]⟩
theorem good_sub {l m : List RunD} (h : Good l) (hc : Can m) (hs : (ats m).Sublist (ats l)) : Good m := by
  obtain ⟨_, h2, h3, h4⟩ := good_ats.1 h
  exact good_ats.2 ⟨hc, fun x hx => h2 x (hs.subset hx), h3.sublist (hs.map _), Nat.le_trans hs.length_le h4⟩
theorem sl_good {l : List RunD} (h : Good l) {f t : Nat} (hf : f ≤ t) (ht : t ≤ num l) : Good (slL l f t) := by
  obtain ⟨h1, h2⟩ := sl_ats h hf ht
  exact good_sub h h1 (by rw [h2]; exact (List.take_sublist _ _).trans (List.drop_sublist _ _))
theorem jn_ats {a b : List RunD} (ha : Good a) (hb : Good b) : Can (jn2 a b) ∧ ats (jn2 a b) = ats a ++ ats b := by
  obtain ⟨c1, c2⟩ := wtL_can (l := []) (more := a) trivial (fun r hr => (ha.fit r hr).ok)
  obtain ⟨d1, d2⟩ := wtL_can (l := wtL [] a) (more := b) c1 (fun r hr => (hb.fit r hr).ok)
  exact ⟨d1, by unfold jn2; rw [d2, c2, ats_nil, List.nil_append]⟩
/-- Cut anywhere and joined, it is itself. -/
theorem back_eq {l : List RunD} (h : Good l) {k : Nat} (hk : k ≤ num l) : jnE (slL l 0 k) (slL l k (num l)) = 0 ∧ jnL (slL l 0 k) (slL l k (num l)) = l := by
  have z : ((0 : Nat) : Int) = 0 := rfl
  have ha := sl_good h (f := 0) (t := k) (by omega) hk
  have hb := sl_good h (f := k) (t := num l) hk (Nat.le_refl _)
  obtain ⟨_, a2⟩ := sl_ats h (f := 0) (t := k) (by omega) hk
  obtain ⟨_, b2⟩ := sl_ats h (f := k) (t := num l) hk (Nat.le_refl _)
  rw [z] at ha a2
  obtain ⟨c1, c2⟩ := jn_ats ha hb
  have hn := num_ats (fun r hr => (h.fit r hr).ok)
  have e : jn2 (slL l 0 k) (slL l k (num l)) = l := by
    apply can_inj c1 h.can
    rw [c2, a2, b2, List.drop_zero, Nat.sub_zero, List.take_of_length_le (l := (ats l).drop k) (by rw [List.length_drop, hn]; omega), List.take_append_drop]
  have hB : jnB (slL l 0 k) (slL l k (num l)) = true := by
    unfold jnB
    rw [e, (good_iff _).2 ha, (good_iff _).2 hb, (good_iff _).2 h]
    rfl
  exact ⟨by unfold jnE; rw [hB]; rfl, by unfold jnL; rw [hB, if_pos rfl, e]⟩
end Go.Proofs.YtofmficdfkeffaaDoor
