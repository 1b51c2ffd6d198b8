/-
  What a delta makes of a document, as data.
-/
import Derived.Test.YtnfnacjadmhclaaDoorDoU
namespace Go.Proofs.YtnfnacjadmhclaaDoor
open Go.WideShapes Go.RowKit Go.ChangeShapes Go.ChangeAt Go.PlainAid

/-- What became so far, the rest, the next number, the steps to come; what is put in has the origin c, q. -/
def adR (c q : Int) : List RunD → List RunD → Int → List St → List RunD
  | X, _, _, [] => X
  | X, L, n, .keep k :: l => adR c q (wtL X (tkG k L).1) (tkG k L).2 n l
  | X, L, n, .rem k :: l => adR c q X (tkG k L).2 n l
  | X, L, n, .ins t :: l => adR c q (wtL X [⟨c, q, n, t⟩]) L (n + cpl t) l
/-- .. of atoms. -/
def apA (c q : Int) : List Atm → Int → List St → List Atm
  | _, _, [] => []
  | A, n, .keep k :: l => A.take k ++ apA c q (A.drop k) n l
  | A, n, .rem k :: l => apA c q (A.drop k) n l
  | A, n, .ins t :: l => atG c q n (pts t) ++ apA c q A (n + cpl t) l
theorem adR_ats (c q : Int) : ∀ (ds : List St) (X L : List RunD) (n : Int), Can X → (∀ r ∈ L, r.Ok) → (∀ s ∈ ds, s.Ok) → Can (adR c q X L n ds) ∧ ats (adR c q X L n ds) = ats X ++ apA c q (ats L) n ds
  | [], X, L, n, hX, _, _ => ⟨hX, by simp [adR, apA]⟩
  | .keep k :: ds, X, L, n, hX, hL, hd => by
    obtain ⟨a1, a2, a3, a4⟩ := tkG_ats L k hL
    obtain ⟨b1, b2⟩ := wtL_can hX a3
    obtain ⟨h1, h2⟩ := adR_ats c q ds (wtL X (tkG k L).1) (tkG k L).2 n b1 a4 (fun s hs => hd s (by simp [hs]))
    rw [adR, apA, h2, b2, a1, a2, List.append_assoc]
    exact ⟨h1, rfl⟩
  | .rem k :: ds, X, L, n, hX, hL, hd => by
    obtain ⟨a1, a2, a3, a4⟩ := tkG_ats L k hL
    obtain ⟨h1, h2⟩ := adR_ats c q ds X (tkG k L).2 n hX a4 (fun s hs => hd s (by simp [hs]))
    rw [adR, apA, h2, a2]
    exact ⟨h1, rfl⟩
  | .ins t :: ds, X, L, n, hX, hL, hd => by
    have ht : (⟨c, q, n, t⟩ : RunD).Ok := (hd (.ins t) (by simp)).1
    obtain ⟨b1, b2⟩ := wtL_can (more := [⟨c, q, n, t⟩]) hX (fun r hr => by simp at hr; subst hr; exact ht)
    obtain ⟨h1, h2⟩ := adR_ats c q ds (wtL X [⟨c, q, n, t⟩]) L (n + cpl t) b1 hL (fun s hs => hd s (by simp [hs]))
    rw [adR, apA, h2, b2, List.append_assoc]
    refine ⟨h1, ?_⟩
    rw [ats_cons, ats_nil, List.append_nil]
    rfl

theorem tkG_sum : ∀ (L : List RunD) (n : Nat), (∀ r ∈ L, r.Ok) → (txB (tkG n L).1).length + (txB (tkG n L).2).length = (txB L).length ∧ (tkG n L).1.length + (tkG n L).2.length ≤ L.length + 1
  | [], n, _ => by simp [tkG, txB]
  | r :: L, n, h => by
    by_cases h0 : n = 0
    · subst h0
      rw [tkG_zero]
      simp [txB]
    · by_cases hk : r.k ≤ n
      · obtain ⟨a1, a2⟩ := tkG_sum L (n - r.k) (fun x hx => h x (by simp [hx]))
        rw [tkG_all h0 hk, show r :: L = [r] ++ L from rfl, show r :: (tkG (n - r.k) L).1 = [r] ++ (tkG (n - r.k) L).1 from rfl, txB_append, txB_append]
        simp only [List.length_append, List.length_cons, List.length_nil]
        omega
      · have hk' : n < r.k := by omega
        have hr : r.Ok := h r (by simp)
        have hv := cpl_valid (s := r.t) (by unfold RunD.Ok at hr; omega)
        have hp := (pos_le hv.1 (min n (cpl r.t).toNat) (Nat.min_le_right _ _)).2
        have s1 : (r.hd n).t.size = pos r.t (min n (cpl r.t).toNat) := by
          show (r.t.extract _ _).size = _
          rw [ByteArray.size_extract]
          omega
        have s2 : (r.tl n).t.size = r.t.size - pos r.t (min n (cpl r.t).toNat) := by
          show (r.t.extract _ _).size = _
          rw [ByteArray.size_extract]
          omega
        have e : ∀ x : RunD, x.t.data.toList.length = x.t.size := fun x => by rw [Array.length_toList]; rfl
        rw [tkG_part h0 hk', show r :: L = [r] ++ L from rfl, show r.tl n :: L = [r.tl n] ++ L from rfl, txB_append, txB_append, txB_one, txB_one, txB_one]
        simp only [List.length_append, List.length_cons, List.length_nil, e, s1, s2]
        omega
/-- How many code points are put in. -/
def isum : List St → Int
  | [] => 0
  | .ins t :: l => cpl t + isum l
  | _ :: l => isum l
theorem isum_pos : ∀ {ds : List St}, (∀ s ∈ ds, s.Ok) → 0 ≤ isum ds
  | [], _ => by simp [isum]
  | .keep k :: ds, h => isum_pos (ds := ds) (fun s hs => h s (by simp [hs]))
  | .rem k :: ds, h => isum_pos (ds := ds) (fun s hs => h s (by simp [hs]))
  | .ins t :: ds, h => by
    have h1 := isum_pos (ds := ds) (fun s hs => h s (by simp [hs]))
    have h2 := (h (.ins t) (by simp)).1
    rw [isum]
    omega
end Go.Proofs.YtnfnacjadmhclaaDoor

/-
  The contract of applied.
-/
namespace Go.Proofs.YtnfnacjadmhclaaDoor
open Go.WideShapes Go.RowKit Go.ChangeShapes Go.ChangeAt Go.PlainAid

/-- applied on its way. -/
structure AI (w W : World) (B p g : Nat) (c q : Int) (E : List RunD) (N : Nat) (D : List St) (X L : List RunD) (n : Int) (vv u : Value) : Prop where
  eq : E = adR c q X L n D
  own : W.ownsRow B 41 4 u X.length (rcs X)
  tk : Tk W p g vv L
  bl : Below w.heap.size w W
  ob : OB W w.heap.size c q
  le : B ≤ W.heap.size
  fit : ∀ r ∈ L, r.Fit
  wf : ∀ r ∈ X, r.Wf
  ln : X.length + L.length ≤ N
  tx : ((txB X).length : Int) + (txB L).length + 4 * isum D ≤ 8000
  nm : 0 ≤ n ∧ n + isum D ≤ 1000
theorem AI.below {w W W' : World} {B p g : Nat} {c q : Int} {E : List RunD} {N : Nat} {D : List St} {X L : List RunD} {n : Int} {vv u : Value} (h : AI w W B p g c q E N D X L n vv u) (hb : Below W.heap.size W W') : AI w W' B p g c q E N D X L n vv u :=
  ⟨h.eq, own_belowG h.own hb, h.tk.only (Only.of_below (S := []) hb) (by simp) (by simp), chain h.bl hb, h.ob.below hb, Nat.le_trans h.le hb.size, h.fit, h.wf, h.ln, h.tx, h.nm⟩
/-- What a taker took is gone. -/
theorem AI.rem {w W W' : World} {B p g k : Nat} {c q : Int} {E : List RunD} {N : Nat} {D : List St} {X L : List RunD} {n : Int} {vv v1 u : Value} (h : AI w W B p g c q E N (.rem k :: D) X L n vv u) (hp : w.heap.size < p ∧ p < B) (hg : w.heap.size < g ∧ g < B) (ht : Tk W' p g v1 (tkG k L).2) (ho : Only [p, g] W W') (hf : ∀ r ∈ (tkG k L).2, r.Fit) :
    AI w W' B p g c q E N D X (tkG k L).2 n v1 u := by
  obtain ⟨f1, f2, f3, f4, f5⟩ := tkG_facts L k h.fit
  have h1 := h.ln
  have h2 := h.tx
  have hs := h.bl.size
  simp only [isum] at h2
  exact ⟨h.eq, own_only h.own ho (fun x hx => by have := (h.own.lt x hx).1; simp; omega), ht, h.bl.trans (ho.below hs (by simp; omega)), only_heap h.ob ho (by simp; omega), Nat.le_trans h.le ho.size, hf, h.wf, by omega, by omega, h.nm⟩
/-- What it took is behind the rest. -/
theorem AI.keep {w W W1 W2 : World} {B p g k : Nat} {c q : Int} {E : List RunD} {N : Nat} {D : List St} {X L : List RunD} {n : Int} {vv v1 u u2 : Value} (h : AI w W B p g c q E N (.keep k :: D) X L n vv u) (hp : w.heap.size < p ∧ p < B) (hg : w.heap.size < g ∧ g < B) (ht : Tk W1 p g v1 (tkG k L).2) (ho : Only [p, g] W W1) (hf : ∀ r ∈ (tkG k L).2, r.Fit) (hw : WI W1 W2 B (wtL X (tkG k L).1) u u2) :
    AI w W2 B p g c q E (N + 1) D (wtL X (tkG k L).1) (tkG k L).2 n v1 u2 := by
  obtain ⟨f1, f2, f3, f4, f5⟩ := tkG_facts L k h.fit
  obtain ⟨s1, s2⟩ := tkG_sum L k (fun r hr => (h.fit r hr).ok)
  have h1 := h.ln
  have h2 := h.tx
  have hs := h.bl.size
  have hl := wtL_len (tkG k L).1 X
  have htx := txB_wtL (tkG k L).1 X
  simp only [isum] at h2
  have hub : ∀ x, x ∈ u.ownBlock.toList → B ≤ x := fun x hx => by simp only [Option.mem_toList] at hx; exact (h.own.lt x hx).1
  have hB1 := h.bl.trans (ho.below hs (by simp; omega))
  have hni : ∀ x, x < B → x ∉ u.ownBlock.toList := fun x hx hm => by have := hub x hm; omega
  have ob1 : OB W1 w.heap.size c q := only_heap h.ob ho (by simp; omega)
  refine ⟨h.eq, hw.own, ht.only hw.on (hni _ hp.2) (hni _ hg.2), hB1.trans (hw.on.below hB1.size (fun x hx => by have := hub x hx; omega)), only_heap ob1 hw.on (hni _ (by omega)), Nat.le_trans h.le (Nat.le_trans ho.size hw.on.size), hf, wtL_wf h.wf f1, by omega, ?_, h.nm⟩
  rw [htx, List.length_append]
  omega
/-- What is put in is behind the rest. -/
theorem AI.ins {w W W2 : World} {B p g : Nat} {c q : Int} {E : List RunD} {N : Nat} {D : List St} {X L : List RunD} {n : Int} {t : ByteArray} {vv u u2 : Value} (h : AI w W B p g c q E N (.ins t :: D) X L n vv u) (hp : w.heap.size < p ∧ p < B) (hg : w.heap.size < g ∧ g < B) (ht : 0 < cpl t) (hD : ∀ s ∈ D, s.Ok) (hw : WI W W2 B (wtL X [⟨c, q, n, t⟩]) u u2) :
    AI w W2 B p g c q E (N + 1) D (wtL X [⟨c, q, n, t⟩]) L (n + cpl t) vv u2 := by
  have h1 := h.ln
  have h2 := h.tx
  have h3 := h.nm
  have hs := h.bl.size
  have hl := wtL_len [⟨c, q, n, t⟩] X
  have htx := txB_wtL [⟨c, q, n, t⟩] X
  have hip := isum_pos hD
  have hsz := size_cpl ht
  simp only [isum] at h2 h3
  simp only [List.length_cons, List.length_nil] at hl
  have hub : ∀ x, x ∈ u.ownBlock.toList → B ≤ x := fun x hx => by simp only [Option.mem_toList] at hx; exact (h.own.lt x hx).1
  have hni : ∀ x, x < B → x ∉ u.ownBlock.toList := fun x hx hm => by have := hub x hm; omega
  have e : t.data.toList.length = t.size := by rw [Array.length_toList]; rfl
  refine ⟨h.eq, hw.own, h.tk.only hw.on (hni _ hp.2) (hni _ hg.2), h.bl.trans (hw.on.below hs (fun x hx => by have := hub x hx; omega)), only_heap h.ob hw.on (hni _ (by omega)), Nat.le_trans h.le hw.on.size, h.fit, wtL_wf h.wf (fun r hr => ?_), by omega, ?_, by omega⟩
  · simp at hr
    subst hr
    exact ⟨ht, h3.1, by show n ≤ _; omega⟩
  · rw [htx, txB_one, List.length_append, e]
    omega
end Go.Proofs.YtnfnacjadmhclaaDoor

/-
  The contract of applied.
-/
namespace Go.Proofs.YtnfnacjadmhclaaDoor
open Go.WideShapes Go.RowKit Go.ChangeShapes Go.ChangeAt Go.PlainAid

theorem rdd_at {w : World} {ao : Option Addr} {m cp : Nat} {l : List OpD} (h : RdD w (.slice ao m cp) l) (i : Nat) (o : OpD) (ho : l[i]? = some o) : ∃ b off, ao = some ⟨b, off, none⟩ ∧
    w.cell? ⟨b, off + i * 3, none⟩ = some (.int .i64 o.k) ∧ w.cell? ⟨b, off + i * 3 + 1, none⟩ = some (.int .i64 o.n) ∧ w.cell? ⟨b, off + i * 3 + 2, none⟩ = some (.string o.t) := by
  obtain ⟨ao', cp', e, _, h1⟩ := h
  injection e with e1 e2 e3
  subst e1
  obtain ⟨b, off, e4, _, c0, c1, c2⟩ := h1 i o ho
  exact ⟨b, off, e4, c0, c1, c2⟩
theorem AI.more {w W : World} {B p g : Nat} {c q : Int} {E : List RunD} {N N' : Nat} {D : List St} {X L : List RunD} {n : Int} {vv u : Value} (h : AI w W B p g c q E N D X L n vv u) (hN : N ≤ N') : AI w W B p g c q E N' D X L n vv u :=
  ⟨h.eq, h.own, h.tk, h.bl, h.ob, h.le, h.fit, h.wf, Nat.le_trans h.ln hN, h.tx, h.nm⟩
theorem drop_st {ds : List St} {k : Nat} (h : k < ds.length) : ds.drop k = ds[k] :: ds.drop (k + 1) := List.drop_eq_getElem_cons h

set_option maxRecDepth 20000 in
set_option maxHeartbeats 1000000 in
theorem docApplied_any (v vd : Value) (l : List RunD) (ds : List St) (c q : Int) (w : World) (hV : VS w) (hr : RdN w v l) (hd : RdD w vd (ds.map St.op)) (hfit : ∀ r ∈ l, r.Fit) (hl : l.length ≤ 1000) (htx : (txB l).length ≤ 4000) (hds : ds.length ≤ 3000) (hok : ∀ s ∈ ds, s.Ok) (his : isum ds ≤ 1000) :
    Calls Tryd.prog 44 #[v, vd, .agg #[.int .i64 c, .int .i64 q]] w fun e w' => ∃ u, e = .returned u ∧ w'.ownsRow w.heap.size 41 4 u (adR c q [] l 0 ds).length (rcs (adR c q [] l 0 ds)) ∧ Below w.heap.size w w' := by
  have hb0 : Below w.heap.size w (w.alloc (.cells #[.int .i64 c, .int .i64 q] 29)) := (Below.refl _ w).alloc (Nat.le_refl _) _
  have hO0 : OB (w.alloc (.cells #[.int .i64 c, .int .i64 q] 29)) w.heap.size c q := heap_alloc_new w _
  have htk := taker_any v l _ (hr.below hb0) (by omega)
  rw [World.size_alloc] at htk
  obtain ⟨ao, cp, hv, -⟩ := id hr
  subst hv
  obtain ⟨ao2, cp2, hv2, -⟩ := id hd
  subst hv2
  rw [List.length_map] at *
  clear hr
  go_enter Tryd.func44, Tryd.ntmps44
  go_wp2_with (go_at_call 48; refine htk.mono ?_; rintro e w1 ⟨p, g, u, rfl, hT, hp, hg1, hg2, hb1⟩; have hI : AI w w1 w1.heap.size p g c q (adR c q [] l 0 ds) (l.length + 0) ds [] l 0 u (.slice none 0 0) := (by refine ⟨rfl, World.ownsRow_nil _ _ _ _, hT, hb0.trans (hb1.mono (by omega)), (hb1.block _ (by omega)).trans hO0, Nat.le_refl _, hfit, (by simp), (by simp), (by simp [txB_nil]; omega), (by omega)⟩); have hpp : w.heap.size < p ∧ p < w1.heap.size := ⟨by omega, heap_lt hT.c⟩; have hgg : w.heap.size < g ∧ g < w1.heap.size := ⟨by omega, hg2⟩; clear hT hb1 hp hg1 hg2)
  clear htk hO0 hb0
  have hwB : w.heap.size ≤ w1.heap.size := by omega
  generalize w1.heap.size = B at *
  go_loopw [8, 9, 16] (fun x m i wr => ∃ (k : Nat) (X L : List RunD) (n : Int) (vv : Value), k ≤ ds.length ∧ i = .int .i64 (k : Int) ∧ m = .int .i64 n ∧ AI w wr B p g c q (adR c q [] l 0 ds) (l.length + k) (ds.drop k) X L n vv x) (fun _ _ i _ => ds.length - (intOf i).toNat)
  case atStart => exact ⟨0, [], l, 0, u, Nat.zero_le _, rfl, rfl, hI⟩
  case round =>
    obtain ⟨k, X, L, n, vv, hk, rfl, rfl, hJ⟩ := hrel
    clear hI
    obtain ⟨a1, c1, rfl⟩ := own_form hJ.own
    by_cases hlt : k < ds.length
    · have hlt' : (k : Int) < (ds.length : Int) := by omega
      rw [drop_st hlt] at hJ
      have hso := hok ds[k] (List.getElem_mem hlt)
      obtain ⟨bb, off, e1, e2, e3, e4⟩ := rdd_at (hd.below hJ.bl) k ds[k].op (by simp [hlt])
      have hDo : ∀ s ∈ ds.drop (k + 1), s.Ok := fun s hs => hok s (List.mem_of_mem_drop hs)
      generalize ds[k] = s at *
      subst e1
      have hJ1 := hJ.below ((Below.refl _ wr).alloc (Nat.le_refl _) (.cells #[.int .i64 s.op.k, .int .i64 s.op.n, .string s.op.t] 51))
      have hx : (wr.alloc (.cells #[.int .i64 s.op.k, .int .i64 s.op.n, .string s.op.t] 51)).heap[wr.heap.size]? = some (.cells #[.int .i64 s.op.k, .int .i64 s.op.n, .string s.op.t] 51) := heap_alloc_new wr _
      have x0 := cell_of_row _ _ 0 _ _ (0, 0) hx
      have x1 := cell_of_row _ _ 1 _ _ (0, 0) hx
      have x2 := cell_of_row _ _ 2 _ _ (0, 0) hx
      simp at x0 x1 x2
      have hB1 := hJ1.bl
      have hs1 := hB1.size
      have hle1 := hJ1.le
      have hln := hJ1.ln
      have htx1 := hJ1.tx
      have hnm1 := hJ1.nm
      have hip := isum_pos hDo
      cases s with
      | keep m =>
        simp only [St.op] at *
        have hto := taken_any w hV p g m vv L _ hB1 (by omega) ⟨by omega, by omega⟩ hJ1.tk hJ1.fit (by have := hso.2; omega) (by omega)
        obtain ⟨f1, f2, f3, f4, f5⟩ := tkG_facts L m hJ1.fit
        simp only [isum] at htx1 hnm1
        clear hJ hd
        go_wp2_with fail
        refine hto.mono ?_
        rintro e w2 ⟨u1, v1, rfl, ho1, hT2, hO2, hF2⟩
        obtain ⟨a2, c2, rfl⟩ := own_form ho1
        have hB2 := hB1.trans (hO2.below hs1 (by simp; omega))
        have hs2 := hO2.size
        have hw := with_any w hV B (.slice a1 X.length c1) (.slice a2 (tkG m L).1.length c2) X (tkG m L).1 w2 hB2 hwB (by omega) (own_only hJ1.own hO2 (fun x hx => by have := (hJ1.own.lt x hx).1; simp; omega)) (rdn_own ho1)
          (fun _ x hx hm => by
            simp only [Option.mem_toList] at hm
            have q1 := (ho1.lt x hx).1
            have q2 := (hJ1.own.lt x hm).2
            omega) (by omega) (by omega) hJ1.wf f1
        clear ho1 hto
        go_wp2_with fail
        refine hw.mono ?_
        rintro e w3 ⟨u3, rfl, h3⟩
        have hf := hJ1.keep hpp hgg hT2 hO2 hF2 h3
        obtain ⟨a3, c3, rfl⟩ := own_form h3.own
        clear hw
        go_wp2_with fail
        refine ⟨⟨k + 1, _, _, n, v1, by omega, by simp, rfl, hf⟩, ?_⟩
        simp [intOf]
        omega
      | rem m =>
        simp only [St.op] at *
        have hto := taken_any w hV p g m vv L _ hB1 (by omega) ⟨by omega, by omega⟩ hJ1.tk hJ1.fit (by have := hso.2; omega) (by omega)
        clear hJ hd
        go_wp2_with fail
        refine hto.mono ?_
        rintro e w2 ⟨u1, v1, rfl, ho1, hT2, hO2, hF2⟩
        have hf := (hJ1.rem hpp hgg hT2 hO2 hF2).more (N' := l.length + (k + 1)) (by omega)
        clear hto ho1
        go_wp2_with fail
        refine ⟨⟨k + 1, _, _, n, v1, by omega, by simp, rfl, hf⟩, ?_⟩
        simp [intOf]
        omega
      | ins t =>
        simp only [St.op] at *
        simp only [isum] at htx1 hnm1
        have hto := hso.1
        have hsz := hso.2
        have hcl := size_cpl hto
        obtain ⟨d0, d1, -, -⟩ := hJ1.ob.facts
        have hJ2 := hJ1.below ((Below.refl _ _).alloc (Nat.le_refl _) (c4 ⟨c, q, n, t⟩))
        have hRd := rdn_new (wr.alloc (.cells #[.int .i64 2, .int .i64 0, .string t] 51)) ⟨c, q, n, t⟩
        rw [World.size_alloc] at hRd
        have hxl : ∀ x, (Value.slice a1 X.length c1).ownBlock = some x → x < wr.heap.size := fun x hx => (hJ.own.lt x hx).2
        have hw := with_any w hV B (.slice a1 X.length c1) (.slice (some ⟨wr.heap.size + 1, 0, none⟩) 1 1) X [⟨c, q, n, t⟩] _ hJ2.bl hwB hJ2.le hJ2.own hRd
          (fun _ x hx hm => by
            simp only [Option.mem_toList] at hm
            have q1 := hxl x hm
            simp [Value.ownBlock] at hx
            omega) (by simp; omega) (by rw [txB_one, show t.data.toList.length = t.size by rw [Array.length_toList]; rfl]; omega) hJ2.wf (fun r hr => by simp at hr; subst hr; exact ⟨hto, hnm1.1, by show n ≤ _; omega⟩)
        have hx2 := (Below.heap_alloc (wr.alloc (.cells #[.int .i64 2, .int .i64 0, .string t] 51)) (c4 ⟨c, q, n, t⟩) wr.heap.size (by simp)).trans hx
        unfold c4 at hw hx2
        clear hd
        go_wp2_with fail
        refine hw.mono ?_
        rintro e w3 ⟨u3, rfl, h3⟩
        have hf := hJ2.ins hpp hgg hto hDo h3
        have hx3 := only_heap hx2 h3.on (fun hm => by
          simp only [Option.mem_toList] at hm
          have := hxl _ hm
          omega)
        have y2 := cell_of_row _ _ 2 _ _ (0, 0) hx3
        simp at y2
        have hcn := count_any t w3 (hV.below hf.bl) (by omega)
        obtain ⟨a3, c3, rfl⟩ := own_form h3.own
        clear hw hx3 hx2 hx
        go_wp2_with (go_at_call 36; refine hcn.mono ?_; rintro e w4 ⟨rfl, hb4⟩; have hf4 := hf.below hb4)
        refine ⟨⟨k + 1, _, L, n + cpl t, vv, by omega, by simp, rfl, hf4⟩, ?_⟩
        simp [intOf]
        omega
    · obtain rfl : k = ds.length := by omega
      rw [List.drop_length] at hJ
      have HE : Hid (adR c q [] l 0 ds = X) := hJ.eq
      go_wp2_with fail
      go_ret
      rw [HE.out]
      exact ⟨_, rfl, own_lower hJ.own hwB, hJ.bl⟩
end Go.Proofs.YtnfnacjadmhclaaDoor
