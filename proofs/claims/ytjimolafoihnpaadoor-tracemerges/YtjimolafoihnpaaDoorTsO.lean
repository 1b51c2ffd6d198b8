/-
  Documents that came in, opened: by small bulk.
-/
import Derived.Test.YtjimolafoihnpaaDoorTrL
import Derived.Test.YtjimolafoihnpaaDoorTrE
import Derived.Deep.Slices
import Derived.SizedLaws
namespace Go.Proofs.YtjimolafoihnpaaDoor.tc
open Go.ChangeShapes Go.WideShapes Go.ChangeAt Go.RowKit Go.PlainAid

theorem wf_bd {k : Int} (h : (Lit.int .i64 k).wf = true) : -9223372036854775808 ≤ k ∧ k ≤ 9223372036854775807 := by
  have e0 : IntKind.i64.min = -9223372036854775808 := by decide
  have e1 : IntKind.i64.max = 9223372036854775807 := by decide
  simpa [Lit.wf, e0, e1] using h
/-- The numbers of a run fit. -/
def Bd4 (r : RunD) : Prop := InI r.c ∧ InI r.q ∧ InI r.f
set_option maxRecDepth 20000 in
/-- An origin, out of its cells. -/
theorem open_or {H : Type} {enc : TypeId × Value → H} {w : World} {spare : Nat → Bool} {held : Bool} {n : Nat} {cs : List Value} {x : DataW H × List MemPlace} (h : DataW.trod enc Tryd.prog w 0 spare held n 29 cs = some x) :
    ∃ c q : Int, cs = [.int .i64 c, .int .i64 q] ∧ InI c ∧ InI q := by
  obtain ⟨xs, m, _, hx, hl, _, hf⟩ := DataW.trod_struct Tryd.underlying29 h
  have h4 : Tryd.prog.cellsOf 29 = 2 := by kernel_rfl
  have c3 : Tryd.prog.cellsOf 3 = 1 := by kernel_rfl
  rw [h4] at hl
  have hxl : xs.length = 2 := by assumption
  match xs, hxl, cs, hl with
  | [y0, y1], _, [v0, v1], _ =>
    have g0 := hf 0 _ rfl
    have g1 := hf 1 _ rfl
    simp [c3] at g0 g1
    obtain ⟨a0, e0, _, w0⟩ := DataW.trod_int Tryd.underlying3 g0
    obtain ⟨a1, e1, _, w1⟩ := DataW.trod_int Tryd.underlying3 g1
    simp at e0 e1
    exact ⟨a0, a1, by rw [e0, e1], wf_bd w0, wf_bd w1⟩
/-- A run's datum. -/
def KRn {H : Type} (r : RunD) (d : DataW H) : Prop := Bd4 r ∧ ∃ d0 d1 : DataW H, d = .agg [d0, d1, .lit (.string r.t.data.toList)]
set_option maxRecDepth 20000 in
/-- One run, out of its cells. -/
theorem open_rn {H : Type} {enc : TypeId × Value → H} {w : World} {spare : Nat → Bool} {held : Bool} {n : Nat} {cs : List Value} {x : DataW H × List MemPlace} (h : DataW.trod enc Tryd.prog w 0 spare held n 44 cs = some x) :
    ∃ r : RunD, cs = cRn r ∧ KRn r x.1 := by
  obtain ⟨xs, m, _, hx, hl, _, hf⟩ := DataW.trod_struct Tryd.underlying44 h
  have h4 : Tryd.prog.cellsOf 44 = 4 := by kernel_rfl
  have c2 : Tryd.prog.cellsOf 29 = 2 := by kernel_rfl
  have c3 : Tryd.prog.cellsOf 3 = 1 := by kernel_rfl
  have c9 : Tryd.prog.cellsOf 9 = 1 := by kernel_rfl
  rw [h4] at hl
  have hxl : xs.length = 3 := by assumption
  match xs, hxl, cs, hl with
  | [y0, y1, y2], _, [v0, v1, v2, v3], _ =>
    have g0 := hf 0 _ rfl
    have g1 := hf 1 _ rfl
    have g2 := hf 2 _ rfl
    simp [c2, c3, c9] at g0 g1 g2
    obtain ⟨a, b, e0, ba, bb⟩ := open_or g0
    obtain ⟨a1, e1, _, w1⟩ := DataW.trod_int Tryd.underlying3 g1
    obtain ⟨a2, e2, f2, w2⟩ := DataW.trod_string Tryd.underlying9 g2
    simp at e0 e1 e2
    refine ⟨⟨a, b, a1, a2⟩, by rw [e0.1, e0.2, e1, e2]; rfl, ⟨ba, bb, wf_bd w1⟩, y0.1, y1.1, ?_⟩
    rw [hx]
    simp only [List.map]
    rw [f2]
/-- A row that came in, with its data. -/
theorem open_rowK {H : Type} {enc : TypeId × Value → H} {w : World} {spare : Nat → Bool} {held : Bool} {α : Type} [Inhabited α] {t e : TypeId} {sz fuel : Nat} {cs0 : List Value} {x : DataW H × List MemPlace} (C : α → List Value → Prop) (K : α → DataW H → Prop) (hu : Tryd.prog.underlying t = some (.slice e)) (h4 : Tryd.prog.cellsOf e = sz) (h0 : 0 < sz)
    (ho : ∀ {n : Nat} {cs : List Value} {y : DataW H × List MemPlace}, DataW.trod enc Tryd.prog w 0 spare held n e cs = some y → ∃ a, C a cs ∧ K a y.1)
    (h : DataW.trod enc Tryd.prog w 0 spare held fuel t cs0 = some x) :
    ∃ (l : List α) (ao : Option Addr) (cp : Nat), cs0 = [.slice ao l.length cp] ∧ l.length ≤ cp ∧ (l = [] ∨ ∃ (D : Nat → DataW H) (sp : List (DataW H)), x.1 = .slice ((List.range l.length).map D) sp ∧ ∀ i a, l[i]? = some a → K a (D i)) ∧ ∀ (i : Nat) (a : α), l[i]? = some a → ∃ b off cs, ao = some ⟨b, off, none⟩ ∧ b < w.heap.size ∧ C a cs ∧ ∀ j u, cs[j]? = some u → w.cell? ⟨b, off + i * sz + j, none⟩ = some u := by
  rcases Go.Deep.open_slice hu h with ⟨hcs, _⟩ | ⟨a, len, cap, m, n, D, Pl, hcs, _, hl, hmx, hmm, hx, hall⟩
  · exact ⟨[], none, 0, hcs, Nat.le_refl _, .inl rfl, fun i a h => by simp at h⟩
  · have hlm : len ≤ m := by rw [hmm]; split <;> omega
    rw [h4] at hall
    obtain ⟨b, off, spot⟩ := a
    have hadd : ∀ k, (⟨b, off, none⟩ : Addr).add k = ⟨b, off + k, none⟩ := fun k => by unfold Addr.add; split <;> simp_all
    have each : ∀ i, i < len → ∃ a : α, K a (D i) ∧ spot = none ∧ ∃ cs, C a cs ∧ b < w.heap.size ∧ ∀ j u, cs[j]? = some u → w.cell? ⟨b, off + i * sz + j, none⟩ = some u := by
      intro i hi
      obtain ⟨cs', h1, h2⟩ := hall i (by omega)
      obtain ⟨o, hC, hK⟩ := ho h2
      obtain ⟨-, hcl, hcell⟩ := World.cells?_some h1
      have hs : spot = none := by
        obtain ⟨cs0, g1, -⟩ := hall 0 (by omega)
        obtain ⟨-, gcl, gcell⟩ := World.cells?_some g1
        have e0 := gcell 0 h0
        rw [List.getElem?_eq_getElem (by omega)] at e0
        have := World.cell?_spot e0
        simpa [Addr.add] using this
      subst hs
      have e0 := hcell 0 h0
      rw [List.getElem?_eq_getElem (by omega)] at e0
      rw [Go.Deep.add_add] at e0
      have hbl := World.block_lt_of_cell? w _ e0
      rw [hadd] at hbl
      refine ⟨o, hK, rfl, cs', hC, hbl, fun j u hj => ?_⟩
      have hjl := (List.getElem?_eq_some_iff.1 hj).1
      have ej := hcell j (by omega)
      rw [Go.Deep.add_add, hadd, hj] at ej
      rw [Nat.add_assoc]
      exact ej
    obtain ⟨f, hf⟩ := @Go.Deep.choose_lt α _ _ _ each
    have hlen : ((List.range len).map f).length = len := by simp
    refine ⟨(List.range len).map f, some ⟨b, off, spot⟩, cap, by rw [hlen]; exact hcs, by rw [hlen]; omega, .inr ⟨D, _, by rw [hlen, hx], fun i o ho => ?_⟩, fun i o ho => ?_⟩
    · have hi : i < len := by
        have := (List.getElem?_eq_some_iff.1 ho).1
        simpa using this
      simp [hi] at ho
      subst ho
      exact (hf i hi).1
    · have hi : i < len := by
        have := (List.getElem?_eq_some_iff.1 ho).1
        simpa using this
      simp [hi] at ho
      subst ho
      obtain ⟨-, rfl, cs, r1, r2, r3⟩ := hf i hi
      exact ⟨b, off, cs, rfl, r2, r1, r3⟩
theorem bulk_pos {H : Type} (d : DataW H) : 1 ≤ Rows.uptoBulk d := by
  cases d with
  | lit l => cases l <;> simp [Rows.uptoBulk]
  | _ => simp [Rows.uptoBulk]
theorem bulk_mem {H : Type} : ∀ {l : List (DataW H)} {d : DataW H}, d ∈ l → Rows.uptoBulk d ≤ Rows.uptoBulkAll l
  | x :: r, d, hd => by
    simp only [Rows.uptoBulkAll]
    rcases List.mem_cons.1 hd with rfl | h
    · omega
    · have := bulk_mem h; omega
theorem up_mem {H : Type} {ds : List (DataW H)} {d : DataW H} (hk : Rows.uptoSmall H ds = true) (h : d ∈ ds) : Rows.uptoBulk d ≤ 1048576 := by
  have h1 : Rows.uptoBulkAll ds ≤ 1048576 := by simpa [Rows.uptoSmall] using hk
  have := bulk_mem h
  omega
/-- Sizes add up. -/
theorem bulk_sum {H : Type} {α : Type} (f : α → Nat) : ∀ (l : List α) (ds : List (DataW H)), ds.length = l.length → (∀ (i : Nat) (a : α) (d : DataW H), l[i]? = some a → ds[i]? = some d → f a ≤ Rows.uptoBulk d) → (l.map f).sum ≤ Rows.uptoBulkAll ds
  | [], _, _, _ => by simp
  | a :: l, [], h, _ => by simp at h
  | a :: l, d :: ds, h, hk => by
    have h1 := hk 0 a d rfl rfl
    have h2 := bulk_sum f l ds (by simpa using h) (fun i b e hb he => hk (i + 1) b e (by simpa using hb) (by simpa using he))
    rw [Rows.uptoBulkAll, List.map_cons, List.sum_cons]
    omega
/-- What a run, a document weighs. -/
def wR (r : RunD) : Nat := r.t.size + 1
def wL (l : List RunD) : Nat := (l.map wR).sum + 1
def KDc {H : Type} (l : List RunD) (d : DataW H) : Prop := wL l ≤ Rows.uptoBulk d
theorem kdc_of {H : Type} {l : List RunD} {x : DataW H} (h : l = [] ∨ ∃ (D : Nat → DataW H) (sp : List (DataW H)), x = .slice ((List.range l.length).map D) sp ∧ ∀ i a, l[i]? = some a → KRn a (D i)) : KDc l x := by
  rcases h with h | ⟨D, sp, rfl, hk⟩
  · subst h
    exact bulk_pos x
  · have := bulk_sum wR l ((List.range l.length).map D) (by simp) (fun i a d ha hd => by
      have hi : i < l.length := (List.getElem?_eq_some_iff.1 ha).1
      simp [hi] at hd
      subst hd
      obtain ⟨-, d0, d1, e⟩ := hk i a ha
      rw [e]
      simp only [Rows.uptoBulkAll, Rows.uptoBulk, wR]
      have : a.t.data.toList.length = a.t.size := by simp
      omega)
    rw [KDc, Rows.uptoBulk, wL]
    omega
theorem rdn_of {w : World} {l : List RunD} {ao : Option Addr} {cp : Nat} (hc : l.length ≤ cp) (h : ∀ (i : Nat) (a : RunD), l[i]? = some a → ∃ b off cs, ao = some ⟨b, off, none⟩ ∧ b < w.heap.size ∧ cs = cRn a ∧ ∀ j u, cs[j]? = some u → w.cell? ⟨b, off + i * 4 + j, none⟩ = some u) : RdN w (.slice ao l.length cp) l := by
  refine ⟨ao, cp, rfl, hc, fun i r hr => ?_⟩
  obtain ⟨b, off, cs, e1, h1, rfl, h2⟩ := h i r hr
  exact ⟨b, off, e1, h1, h2 0 _ rfl, h2 1 _ rfl, h2 2 _ rfl, h2 3 _ rfl⟩
instance : Inhabited RunD := ⟨⟨0, 0, 0, ⟨#[]⟩⟩⟩
/-- A document. -/
theorem open_doc {H : Type} {enc : TypeId × Value → H} {w : World} {spare : Nat → Bool} {held : Bool} {n : Nat} {cs : List Value} {x : DataW H × List MemPlace} (h : DataW.trod enc Tryd.prog w 0 spare held n 22 cs = some x) :
    ∃ l : List RunD, (∃ u, cs = [u] ∧ RdN w u l ∧ ∀ r ∈ l, Bd4 r) ∧ KDc l x.1 := by
  obtain ⟨l, ao, cp, e, hc, hk, hr⟩ := open_rowK (α := RunD) (fun a cs => cs = cRn a ∧ Bd4 a) KRn Tryd.underlying22 (show Tryd.prog.cellsOf 44 = 4 by kernel_rfl) (by decide) (fun h => by
    obtain ⟨r, e, k⟩ := open_rn h
    exact ⟨r, ⟨e, k.1⟩, k⟩) h
  refine ⟨l, ⟨_, e, rdn_of hc (fun i a ha => ?_), fun r hr2 => ?_⟩, kdc_of hk⟩
  · obtain ⟨b, off, cs, e1, h1, ⟨h2, -⟩, h3⟩ := hr i a ha
    exact ⟨b, off, cs, e1, h1, h2, h3⟩
  · obtain ⟨i, hi⟩ := List.mem_iff_getElem?.1 hr2
    obtain ⟨-, -, -, -, -, ⟨-, h2⟩, -⟩ := hr i r hi
    exact h2
theorem sum_mem {α : Type} (f : α → Nat) : ∀ (l : List α) (a : α), a ∈ l → f a ≤ (l.map f).sum
  | [], a, h => by simp at h
  | b :: l, a, h => by
    rw [List.map_cons, List.sum_cons]
    rcases List.mem_cons.1 h with rfl | h
    · omega
    · have := sum_mem f l a h
      omega
theorem sum_len {α : Type} (f : α → Nat) (hf : ∀ a, 1 ≤ f a) : ∀ l : List α, l.length ≤ (l.map f).sum
  | [] => by simp
  | b :: l => by
    rw [List.map_cons, List.sum_cons, List.length_cons]
    have := sum_len f hf l
    have := hf b
    omega
theorem aT_wL (l : List RunD) : (aT l).length ≤ wL l := by
  rw [aT, List.length_flatten, List.map_map]
  have h : ∀ l : List RunD, (l.map (List.length ∘ atR)).sum ≤ (l.map wR).sum := by
    intro l
    induction l with
    | nil => simp
    | cons r l ih =>
      rw [List.map_cons, List.map_cons, List.sum_cons, List.sum_cons]
      have h1 : (atR r).length ≤ wR r := by
        unfold atR
        split
        · have h5 := (cpl_le r.t).2
          rw [RunD.ats, atG_len, pts, ptL_length, wR]
          omega
        · simp
      show (atR r).length + _ ≤ _
      omega
  have := h l
  rw [wL]
  omega
/-- What is known of documents of small bulk. -/
structure Up (L : List (List RunD)) : Prop where
  len : L.length ≤ 1048576
  row : ∀ l ∈ L, l.length ≤ 1048576 ∧ ∀ r ∈ l, r.t.size ≤ 1048576 ∧ InI r.c ∧ InI r.q
  bd : ∀ l ∈ L, ∀ r ∈ l, Bd4 r
  tot : (L.map wL).sum ≤ 1048576
theorem up_of {L : List (List RunD)} (hb : ∀ l ∈ L, ∀ r ∈ l, Bd4 r) (ht : (L.map wL).sum ≤ 1048576) : Up L := by
  refine ⟨Nat.le_trans (sum_len wL (fun a => by rw [wL]; omega) L) ht, fun l hl => ?_, hb, ht⟩
  have h1 := Nat.le_trans (sum_mem wL L l hl) ht
  rw [wL] at h1
  have h2 := sum_len wR (fun a => by rw [wR]; omega) l
  refine ⟨by omega, fun r hr => ?_⟩
  have h3 := sum_mem wR l r hr
  rw [wR] at h3
  exact ⟨by omega, (hb l hl r hr).1, (hb l hl r hr).2.1⟩
theorem Up.atoms {L : List (List RunD)} (h : Up L) : (aTs L).length ≤ 1048576 := by
  refine Nat.le_trans ?_ h.tot
  rw [aTs, List.length_flatten, List.map_map]
  generalize L = L
  induction L with
  | nil => simp
  | cons l L ih =>
    rw [List.map_cons, List.map_cons, List.sum_cons, List.sum_cons]
    have := aT_wL l
    show (aT l).length + _ ≤ _
    omega
theorem sum_take (f : List RunD → Nat) : ∀ (L : List (List RunD)) (k : Nat), ((L.take k).map f).sum ≤ (L.map f).sum
  | [], k => by simp
  | l :: L, 0 => by simp
  | l :: L, k + 1 => by
    have := sum_take f L k
    rw [List.take_succ_cons, List.map_cons, List.map_cons, List.sum_cons, List.sum_cons]
    omega
theorem Up.take {L : List (List RunD)} (h : Up L) (k : Nat) : Up (L.take k) :=
  up_of (fun l hl => h.bd l (List.mem_of_mem_take hl)) (Nat.le_trans (sum_take wL L k) h.tot)
/-- Documents. -/
theorem open_rru {H : Type} {enc : TypeId × Value → H} {w : World} {spare : Nat → Bool} {held : Bool} {fuel : Nat} {v : Value} {x : DataW H × List MemPlace}
    (h : DataW.trod enc Tryd.prog w 0 spare held fuel 27 [v] = some x) (hz : Rows.uptoBulk x.1 ≤ 1048576) :
    ∃ L : List (List RunD), RdL w v L ∧ Up L := by
  obtain ⟨L, ao, cp, e, hc, hk, hr⟩ := open_rowK (α := List RunD) (fun l cs => ∃ u, cs = [u] ∧ RdN w u l ∧ ∀ r ∈ l, Bd4 r) KDc Tryd.underlying27 (show Tryd.prog.cellsOf 22 = 1 by kernel_rfl) (by decide) open_doc h
  injection e with e
  subst e
  refine ⟨L, ⟨ao, cp, rfl, hc, fun i l hl => ?_⟩, up_of (fun l hl => ?_) ?_⟩
  · obtain ⟨b, off, cs, e1, h1, ⟨u, rfl, hu, -⟩, h3⟩ := hr i l hl
    have := h3 0 u rfl
    rw [Nat.mul_one, Nat.add_zero] at this
    exact ⟨b, off, u, e1, h1, this, hu⟩
  · obtain ⟨i, hi⟩ := List.mem_iff_getElem?.1 hl
    obtain ⟨-, -, -, -, -, ⟨-, -, -, h2⟩, -⟩ := hr i l hi
    exact h2
  · rcases hk with rfl | ⟨D, sp, hx, hK⟩
    · simp
    · rw [hx, Rows.uptoBulk] at hz
      have := bulk_sum wL L ((List.range L.length).map D) (by simp) (fun i a d ha hd => by
        have hi : i < L.length := (List.getElem?_eq_some_iff.1 ha).1
        simp [hi] at hd
        subst hd
        exact hK i a ha)
      omega
end Go.Proofs.YtjimolafoihnpaaDoor.tc
