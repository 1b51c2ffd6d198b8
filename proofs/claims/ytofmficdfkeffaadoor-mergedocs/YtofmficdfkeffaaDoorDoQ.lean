/-
  The contract of with.
-/
import Derived.Test.YtofmficdfkeffaaDoorDoO
import Derived.Deep.AppendLies
namespace Go.Proofs.YtofmficdfkeffaaDoor
open Go.WideShapes Go.RowKit Go.ChangeShapes Go.ChangeAt Go.PlainAid

theorem wpList_app_one {ops : Array Oper} {rest : List Oper} {o : Oper} {a : Act} {Q : Exit → Act → World → Prop} (wr : World) (hgd : o.guard = none) (sl x : Operand)
    (ho : o.op = .call { callee := .builtin .append, args := #[sl, x], argTypes := #[22, 22] }) (B : Nat) (u : Value) (b : Nat) (X : List RunD) (r : RunD) (hs : a.eval sl = u) (hx : a.eval x = .slice (some ⟨b, 0, none⟩) 1 1)
    (hu : wr.ownsRow B 65 4 u X.length (rcs X)) (hB : B ≤ wr.heap.size) (hw : RdN wr (.slice (some ⟨b, 0, none⟩) 1 1) [r]) (hl : X.length + 1 ≤ 3298534883328)
    (h : ∀ g cap w', w'.ownsRow B 65 4 (.slice (some ⟨g, 0, none⟩) (X.length + 1) cap) (X ++ [r]).length (rcs (X ++ [r])) → wr.grownBy w' u.ownBlock → (u.ownBlock = some g ∨ g = wr.heap.size) → wpList Tryd.prog ops Q rest (a.put o.dst (.slice (some ⟨g, 0, none⟩) (X.length + 1) cap)) w') : wpList Tryd.prog ops Q (o :: rest) a wr := by
  refine wpList_plain hgd fun K hK => ?_
  obtain ⟨i0, hin, hz0, hz1, hz2⟩ := info_parts Tryd.infoRun
  obtain ⟨g, cap, w', hr, h2, h3, h4, -⟩ := run_append_lies (P := Tryd.prog) wr 22 o.type B 65 i0 (.agg #[.int .i64 0, .int .i64 0, .int .i64 0, .string ⟨#[]⟩]) 4 40 Tryd.underlying22 hin hz0 hz1 hz2 rfl (by decide) u X.length _ hu ⟨b, 0, none⟩ 1 1 (rcs [r]) (by rw [rcs_length]; rfl) (rdn_cells hw) (rcs_one' _) (by decide) (by unfold maxLen; omega) (by omega) hB _ rfl
  unfold Oper.wp execOp
  simp only [ho, resolve, invoke, builtin, Sem.run_bind, Sem.run_pure, Result.andThen_ok, List.map_toArray, List.map_cons, List.map_nil, hs, hx, hr]
  refine hK _ _ (h g cap w' ?_ h3 h4)
  rw [rcs_append, List.length_append]
  exact h2

theorem txB_wtS (X : List RunD) (r : RunD) : txB (wtS X r) = txB X ++ r.t.data.toList := by
  rcases List.eq_nil_or_concat X with rfl | ⟨Y, a, rfl⟩
  · simp [wtS, txB]
  · simp only [List.concat_eq_append]
    cases hn : nxR a r
    · rw [wtS_no hn, txB_append, txB_one]
    · rw [wtS_yes hn, txB_append, txB_append, txB_one, txB_one]
      simp [RunD.cat]
theorem txB_wtL : ∀ (more X : List RunD), txB (wtL X more) = txB X ++ txB more
  | [], X => by simp [wtL, txB]
  | r :: more, X => by rw [wtL_cons, txB_wtL more, txB_wtS, List.append_assoc]; simp [txB]
theorem txB_mem {X : List RunD} {a : RunD} (h : a ∈ X) : a.t.size ≤ (txB X).length := by
  obtain ⟨Y, Z, rfl⟩ := List.append_of_mem h
  rw [txB_append, show a :: Z = [a] ++ Z from rfl, txB_append, txB_one]
  simp
  omega
/-- A run that with may be given. -/
def RunD.Wf (r : RunD) : Prop := r.Ok ∧ 0 ≤ r.f ∧ r.f ≤ 1000000
theorem wtS_wf {X : List RunD} {r : RunD} (h : ∀ a ∈ X, a.Wf) (hr : r.Wf) : ∀ a ∈ wtS X r, a.Wf := by
  intro x hx
  rcases List.eq_nil_or_concat X with rfl | ⟨Y, a, rfl⟩
  · simp [wtS] at hx
    subst hx
    exact hr
  · simp only [List.concat_eq_append] at *
    cases hn : nxR a r
    · rw [wtS_no hn] at hx
      rcases List.mem_append.1 hx with hx | hx
      · exact h x hx
      · simp at hx; subst hx; exact hr
    · rw [wtS_yes hn] at hx
      rcases List.mem_append.1 hx with hx | hx
      · exact h x (by simp [hx])
      · simp at hx
        subst hx
        have ha := h a (by simp)
        exact ⟨(cat_ats ha.1 hr.1 hn).2, ha.2⟩
theorem wtL_wf : ∀ {more X : List RunD}, (∀ a ∈ X, a.Wf) → (∀ a ∈ more, a.Wf) → ∀ a ∈ wtL X more, a.Wf
  | [], _, h, _ => h
  | r :: more, _, h, hm => by
    rw [wtL_cons]
    exact wtL_wf (wtS_wf h (hm r (by simp))) (fun a ha => hm a (by simp [ha]))
theorem wtS_len (X : List RunD) (r : RunD) : (wtS X r).length ≤ X.length + 1 := by
  rcases List.eq_nil_or_concat X with rfl | ⟨Y, a, rfl⟩
  · simp [wtS]
  · simp only [List.concat_eq_append]
    cases hn : nxR a r
    · rw [wtS_no hn]; simp
    · rw [wtS_yes hn]; simp
theorem wtL_len : ∀ (more X : List RunD), (wtL X more).length ≤ X.length + more.length
  | [], X => by simp [wtL]
  | r :: more, X => by
    have h1 := wtL_len more (wtS X r)
    have h2 := wtS_len X r
    rw [wtL_cons]
    simp
    omega

/-- with on its way. -/
structure WI (w wr : World) (B : Nat) (X : List RunD) (u0 u : Value) : Prop where
  own : wr.ownsRow B 65 4 u X.length (rcs X)
  on : Only u0.ownBlock.toList w wr
  lies : ∀ g, u.ownBlock = some g → u0.ownBlock = some g ∨ w.heap.size ≤ g

/-- with has a run in its box b. -/
structure WB (w W : World) (B b : Nat) (X : List RunD) (u0 u : Value) (r : RunD) : Prop where
  own : W.ownsRow B 65 4 u X.length (rcs X)
  on : Only u0.ownBlock.toList w W
  lies : ∀ g, u.ownBlock = some g → u0.ownBlock = some g ∨ w.heap.size ≤ g
  bx : RB W b r
  nb : ∀ g, u.ownBlock = some g → g ≠ b
  hb : w.heap.size ≤ b
theorem WI.box {w wr : World} {B : Nat} {X : List RunD} {u0 u : Value} (h : WI w wr B X u0 u) (r : RunD) : WB w (wr.alloc (c4 r)) B wr.heap.size X u0 u r :=
  ⟨h.own.alloc _, h.on.trans (Only.alloc _ _ _), h.lies, heap_alloc_new wr _, fun g hg e => by have := (h.own.lt g hg).2; omega, h.on.size⟩
theorem WB.below {w W W' : World} {B b : Nat} {X : List RunD} {u0 u : Value} {r : RunD} (h : WB w W B b X u0 u r) (hb : Below W.heap.size W W') : WB w W' B b X u0 u r :=
  ⟨own_belowG h.own hb, h.on.trans (Only.of_below hb), h.lies, h.bx.below hb, h.nb, h.hb⟩
theorem WB.set {w W : World} {B b : Nat} {X : List RunD} {u0 u : Value} {r : RunD} (h : WB w W B b X u0 u r) : WB w (W.setCell ⟨b, 3, none⟩ (.string r.t)) B b X u0 u r := by
  have hO : Only [b] W (W.setCell ⟨b, 3, none⟩ (.string r.t)) := Only.setCell W (by simp) _
  exact ⟨own_only h.own hO (fun g hg => by simp; exact h.nb g hg), h.on.new hO (fun i hi => by simp at hi; subst hi; exact .inr h.hb), h.lies, heap_setCell h.bx 3 _, h.nb, h.hb⟩
theorem WB.app {w W w' : World} {B b g cap : Nat} {X : List RunD} {u0 u : Value} {r : RunD} {o : Obj} (h : WB w W B b X u0 u r) (ho : w'.ownsRow B 65 4 (.slice (some ⟨g, 0, none⟩) (X.length + 1) cap) (X ++ [r]).length (rcs (X ++ [r]))) (hg : (W.alloc o).grownBy w' u.ownBlock) (hl : u.ownBlock = some g ∨ g = (W.alloc o).heap.size) :
    WI w w' B (X ++ [r]) u0 (.slice (some ⟨g, 0, none⟩) (X.length + 1) cap) := by
  have hs := h.on.size
  refine ⟨ho, ?_, fun k hk => ?_⟩
  · have o1 : Only u0.ownBlock.toList w (W.alloc o) := h.on.trans (Only.alloc _ _ _)
    refine o1.new (Only.of_grown (S := u.ownBlock.toList) hg (fun k hk => by simp [hk])) (fun i hi => ?_)
    simp only [Option.mem_toList] at hi ⊢
    exact h.lies i hi
  · have : k = g := by simpa [Value.ownBlock] using hk.symm
    subst this
    rcases hl with hl | hl
    · exact h.lies _ hl
    · exact .inr (by rw [World.size_alloc] at hl; omega)

theorem own_cell {W : World} {B n g cap j z : Nat} {e : TypeId} {L : List Value} (h : W.ownsRow B e z (.slice (some ⟨g, 0, none⟩) n cap) n L) (v : Value) :
    (W.setCell ⟨g, j, none⟩ v).ownsRow B e z (.slice (some ⟨g, 0, none⟩) n cap) n (L.set j v) := by
  obtain ⟨hl, h2⟩ := h
  rcases h2 with ⟨h1, _⟩ | ⟨g', cap', cur, h1, hb, hg, hn, hm, hc, ht⟩
  · cases h1
  · cases h1
    refine ⟨by rw [List.length_set]; exact hl, .inr ⟨g, cap, cur.setIfInBounds j v, rfl, hb, heap_setCell hg j v, hn, hm, by simpa using hc, ?_⟩⟩
    rw [Array.toList_setIfInBounds, ← ht, List.take_set]
theorem own_zero {W : World} {B n m g o cap z : Nat} {e : TypeId} {L : List Value} (h : W.ownsRow B e z (.slice (some ⟨g, o, none⟩) m cap) n L) : o = 0 ∧ ∃ cur, W.heap[g]? = some (.cells cur e (0, 0)) := by
  rcases h.2 with ⟨e, _⟩ | ⟨g', cap', cur, e, _, hg, _⟩
  · cases e
  · cases e
    exact ⟨rfl, _, hg⟩
theorem rcs_cat (Y : List RunD) (a r : RunD) : (rcs (Y ++ [a])).set (Y.length * 4 + 3) (.string (a.t ++ r.t)) = rcs (Y ++ [a.cat r]) := by
  rw [rcs_append, rcs_append, rcs_one, rcs_one, List.set_append, if_neg (by rw [rcs_length]; omega), rcs_length, Nat.add_sub_cancel_left]
  rfl
theorem WB.cat {w W : World} {B b g n cap : Nat} {Y : List RunD} {u0 : Value} {a r : RunD} (h : WB w W B b (Y ++ [a]) u0 (.slice (some ⟨g, 0, none⟩) n cap) r) (hn : (Y ++ [a]).length = n) :
    WI w (W.setCell ⟨g, Y.length * 4 + 3, none⟩ (.string (a.t ++ r.t))) B (Y ++ [a.cat r]) u0 (.slice (some ⟨g, 0, none⟩) n cap) := by
  subst hn
  have h1 := own_cell (j := Y.length * 4 + 3) h.own (.string (a.t ++ r.t))
  rw [rcs_cat] at h1
  have hO : Only [g] W (W.setCell ⟨g, Y.length * 4 + 3, none⟩ (.string (a.t ++ r.t))) := Only.setCell W (by simp) _
  refine ⟨?_, h.on.new hO (fun i hi => ?_), h.lies⟩
  · rw [show (Y ++ [a]).length = (Y ++ [a.cat r]).length by simp] at h1 ⊢
    exact h1
  · simp at hi
    subst hi
    simp only [Option.mem_toList]
    exact h.lies i rfl
theorem WI.drew {w W : World} {B : Nat} {X : List RunD} {u0 u : Value} (h : WI w W B X u0 u) : WI w W.drew B X u0 u := ⟨h.own, h.on.trans (Only.drew _ _), h.lies⟩

end Go.Proofs.YtofmficdfkeffaaDoor

/-
  What Check tells.
-/
namespace Go.Proofs.YtofmficdfkeffaaDoor
open Go.WideShapes Go.RowKit Go.ChangeShapes Go.ChangeAt Go.PlainAid

/-- None goes on the one ahead of it. -/
def adj : Option RunD → List RunD → Prop
  | _, [] => True
  | p, r :: l => (∀ a, p = some a → nxR a r = false) ∧ adj (some r) l
/-- The keys of a document's atoms. -/
def kysL (l : List RunD) : List AtK := l.flatMap RunD.kys
theorem kysL_cons (r : RunD) (l : List RunD) : kysL (r :: l) = r.kys ++ kysL l := by simp [kysL]
theorem kys_len (r : RunD) : r.kys.length = r.k := by simp [RunD.kys, RunD.k]
theorem ckG_iff : ∀ (l : List RunD) (S : List AtK) (p : Option RunD), S.length ≤ 1000 →
    (ckG S p l = true ↔ (∀ r ∈ l, mayR r = true) ∧ adj p l ∧ (sg S (kysL l)).isSome = true ∧ S.length + (kysL l).length ≤ 1000)
  | [], S, p, hS => by simp [ckG, adj, kysL, sg, hS]
  | r :: l, S, p, hS => by
    rw [ckG_cons, kysL_cons, sg_append]
    simp only [Bool.and_eq_true, List.length_append, kys_len]
    have hp : (match p with | none => true | some a => !nxR a r) = true ↔ ∀ a, p = some a → nxR a r = false := by
      cases p <;> simp
    cases hs : sg S r.kys with
    | none => simp
    | some T =>
      have hT := sg_some hs
      have hTl : T.length = S.length + r.k := by rw [hT, List.length_append, kys_len]
      simp only [Option.bind_some, Bool.and_eq_true, decide_eq_true_eq]
      constructor
      · rintro ⟨⟨h1, h2⟩, h3, h4⟩
        obtain ⟨i1, i2, i3, i4⟩ := (ckG_iff l T (some r) h3).1 h4
        exact ⟨fun x hx => (List.mem_cons.1 hx).elim (fun e => e ▸ h1) (i1 x), ⟨hp.1 h2, i2⟩, i3, by omega⟩
      · rintro ⟨h1, ⟨h2, h3⟩, h4, h5⟩
        have hT3 : T.length ≤ 1000 := by omega
        exact ⟨⟨h1 r (by simp), hp.2 h2⟩, hT3, (ckG_iff l T (some r) hT3).2 ⟨fun x hx => h1 x (by simp [hx]), h3, h4, by omega⟩⟩
theorem can_of : ∀ {l : List RunD} {p : Option RunD}, adj p l → (∀ r ∈ l, r.Ok) → Can l
  | [], _, _, _ => trivial
  | [r], _, _, h => h r (by simp)
  | a :: r :: l, _, h, ho => ⟨ho a (by simp), h.2.1 a rfl, can_of (l := r :: l) h.2 (fun x hx => ho x (by simp [hx]))⟩
theorem adj_of : ∀ {l : List RunD} {p : Option RunD}, Can l → (∀ a r, p = some a → l.head? = some r → nxR a r = false) → adj p l
  | [], _, _, _ => trivial
  | [r], _, _, h => ⟨fun a e => h a r e rfl, trivial⟩
  | a :: r :: l, _, hc, h => ⟨fun b e => h b a e rfl, adj_of (l := r :: l) hc.2.2 (fun b x e hx => by
      injection e with e
      injection hx with hx
      rw [← e, ← hx]
      exact hc.2.1)⟩
theorem may_fit {r : RunD} (h : mayR r = true) : r.Fit := by
  obtain ⟨-, h1, h2, h3⟩ := mayR_iff.1 h
  have hs := size_cpl h1
  exact ⟨h1, h2, by unfold RunD.k; omega, by omega⟩
theorem fit_wf {r : RunD} (h : r.Fit) : r.Wf := ⟨h.ok, h.f0, by have := h.fk; omega⟩
theorem tx_bound : ∀ (l : List RunD), (∀ r ∈ l, r.Ok) → (txB l).length ≤ 4 * (kysL l).length ∧ l.length ≤ (kysL l).length
  | [], _ => by simp [txB, kysL]
  | r :: l, h => by
    obtain ⟨h1, h2⟩ := tx_bound l (fun x hx => h x (by simp [hx]))
    have hr : r.Ok := h r (by simp)
    have hs := size_cpl hr
    have hk : 0 < r.k := by unfold RunD.k; unfold RunD.Ok at hr; omega
    rw [kysL_cons, List.length_append, kys_len, show r :: l = [r] ++ l from rfl, txB_append, txB_one]
    have e : r.t.data.toList.length = r.t.size := by rw [Array.length_toList]; rfl
    simp only [List.length_append, e, List.length_cons, List.length_nil]
    unfold RunD.k at *
    omega
/-- What a document that may be is. -/
structure Good (l : List RunD) : Prop where
  may : ∀ r ∈ l, mayR r = true
  can : Can l
  one : (sg [] (kysL l)).isSome = true
  len : (kysL l).length ≤ 1000
theorem good_iff (l : List RunD) : ckG [] none l = true ↔ Good l := by
  rw [ckG_iff l [] none (by simp)]
  constructor
  · rintro ⟨h1, h2, h3, h4⟩
    exact ⟨h1, can_of h2 (fun r hr => (may_fit (h1 r hr)).ok), h3, by simpa using h4⟩
  · intro h
    exact ⟨h.may, adj_of h.can (fun a r e => by cases e), h.one, by simpa using h.len⟩
theorem Good.fit {l : List RunD} (h : Good l) : ∀ r ∈ l, r.Fit := fun r hr => may_fit (h.may r hr)
theorem Good.bound {l : List RunD} (h : Good l) : (txB l).length ≤ 4000 ∧ l.length ≤ 1000 := by
  obtain ⟨h1, h2⟩ := tx_bound l (fun r hr => (h.fit r hr).ok)
  have := h.len
  omega
theorem ckR_zero {l : List RunD} : ckR l = 0 ↔ Good l := by
  rw [← good_iff, ckR]
  split <;> simp_all
end Go.Proofs.YtofmficdfkeffaaDoor

/-
  The contract of Slice.
-/
namespace Go.Proofs.YtofmficdfkeffaaDoor
open Go.WideShapes Go.RowKit Go.ChangeShapes Go.ChangeAt Go.PlainAid

theorem mk_nil0 : cpl (mk []) = 0 := by
  have := cpl_enc (p := []) (by simp)
  simpa [enc] using this.1
theorem txt_cpl : ∀ (l : List RunD), (∀ r ∈ l, r.Ok) → cpl (mk (txB l)) = (kysL l).length
  | [], _ => by rw [txB_nil, mk_nil0]; rfl
  | r :: l, h => by
    have ih := txt_cpl l (fun x hx => h x (by simp [hx]))
    have hr : r.Ok := h r (by simp)
    have h0 : 0 ≤ cpl r.t := by unfold RunD.Ok at hr; omega
    rw [show r :: l = [r] ++ l from rfl, txB_append, txB_one, ← mk_app, mk_self, (app_pts h0 (by rw [ih]; omega)).1, ih, show [r] ++ l = r :: l from rfl, kysL_cons, List.length_append, kys_len]
    unfold RunD.k
    omega
theorem tkG_facts : ∀ (L : List RunD) (n : Nat), (∀ r ∈ L, r.Fit) → (∀ r ∈ (tkG n L).1, r.Wf) ∧ (tkG n L).1.length ≤ L.length ∧ (tkG n L).2.length ≤ L.length ∧ (txB (tkG n L).1).length ≤ (txB L).length ∧ (txB (tkG n L).2).length ≤ (txB L).length
  | [], n, _ => by simp [tkG, txB]
  | r :: L, n, h => by
    have hr := h r (by simp)
    by_cases h0 : n = 0
    · subst h0
      rw [tkG_zero]
      simp [txB]
    · by_cases hk : r.k ≤ n
      · obtain ⟨a1, a2, a3, a4, a5⟩ := tkG_facts L (n - r.k) (fun x hx => h x (by simp [hx]))
        rw [tkG_all h0 hk, show r :: L = [r] ++ L from rfl, show r :: (tkG (n - r.k) L).1 = [r] ++ (tkG (n - r.k) L).1 from rfl, txB_append, txB_append]
        simp only [List.length_append, List.length_cons, List.length_nil]
        refine ⟨fun x hx => ?_, by omega, by omega, by omega, by omega⟩
        rcases List.mem_append.1 hx with hx | hx
        · simp at hx
          subst hx
          exact fit_wf hr
        · exact a1 x hx
      · have hk' : n < r.k := by omega
        have s1 := hd_size r n
        have s2 : (r.tl n).t.size ≤ r.t.size := by
          show (r.t.extract _ _).size ≤ _
          simp
        have e : ∀ x : RunD, x.t.data.toList.length = x.t.size := fun x => by rw [Array.length_toList]; rfl
        rw [tkG_part h0 hk', show r :: L = [r] ++ L from rfl, show r.tl n :: L = [r.tl n] ++ L from rfl, txB_append, txB_append, txB_one, txB_one, txB_one]
        simp only [List.length_append, List.length_cons, List.length_nil, e]
        refine ⟨fun x hx => ?_, by omega, by omega, by omega, by omega⟩
        simp at hx
        subst hx
        have := hr.fk
        exact ⟨hd_ok hr.ok (by omega) (Nat.le_of_lt hk'), hr.f0, by show r.f ≤ _; omega⟩
/-- How many atoms. -/
def num (l : List RunD) : Nat := (kysL l).length
/-- What Slice answers: the error. -/
def slE (l : List RunD) (f t : Int) : Int := if ckG [] none l = true then (if 0 ≤ f ∧ f ≤ t ∧ t ≤ num l then 0 else 1) else 120
/-- .. and the document. -/
def slL (l : List RunD) (f t : Int) : List RunD := if ckG [] none l = true then (if 0 ≤ f ∧ f ≤ t ∧ t ≤ num l then wtL [] (tkG (t - f).toNat (tkG f.toNat l).2).1 else []) else []

end Go.Proofs.YtofmficdfkeffaaDoor
