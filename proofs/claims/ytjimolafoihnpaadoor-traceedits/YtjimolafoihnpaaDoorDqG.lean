/-
  The reference's Check.
-/
import Derived.Test.YtjimolafoihnpaaDoorDqA
import Derived.Test.YtjimolafoihnpaaDoorDpG
import Derived.Deep.CondSized
namespace Go.Proofs.YtjimolafoihnpaaDoor
open Go.ChangeShapes Go.WideShapes Go.ChangeAt Go.RowKit Go.PlainAid

theorem rdn_at {W : World} {ao : Option Addr} {N cp : Nat} {l : List RunD} (h : RdN W (.slice ao N cp) l) {k : Nat} {r : RunD} (hr : l[k]? = some r) : ∃ b off, ao = some ⟨b, off, none⟩ ∧ W.cell? ⟨b, off + k * 4, none⟩ = some (.int .i64 r.c) ∧ W.cell? ⟨b, off + k * 4 + 1, none⟩ = some (.int .i64 r.q) ∧ W.cell? ⟨b, off + k * 4 + 2, none⟩ = some (.int .i64 r.f) ∧ W.cell? ⟨b, off + k * 4 + 3, none⟩ = some (.string r.t) := by
  obtain ⟨b, off, e, -, h⟩ := h.at k r hr
  exact ⟨b, off, e, h⟩
theorem ck_dec {l : List RunD} {k : Nat} (hk : k < l.length) (h : Ck l (k + 1)) : orM l[k].c l[k].q = true ∧ 0 < cpl l[k].t ∧ 0 ≤ l[k].f ∧ l[k].f ≤ 1000 - cpl l[k].t := mayR_iff.1 (h.may k l[k] (by omega) (by simp [hk]))

end Go.Proofs.YtjimolafoihnpaaDoor

/-
  The reference's At.
-/
namespace Go.Proofs.YtjimolafoihnpaaDoor
open Go.ChangeShapes Go.WideShapes Go.ChangeAt Go.RowKit Go.PlainAid

/-- The atom's answer. -/
def atX : Option Atm → Int × Int × Int × Bool
  | some x => (x.c, x.q, x.n, true)
  | none => (0, 0, 0, false)
theorem atF_ats : ∀ (l : List RunD), (∀ r ∈ l, r.Ok) → ∀ i : Nat, atF l (i : Int) = atX (ats l)[i]?
  | [], _, i => by simp [atF, ats, atX]
  | r :: l, h, i => by
    have ho : r.Ok := h r (by simp)
    unfold RunD.Ok at ho
    have hpl := pts_len (t := r.t) (by omega)
    have hrl : r.ats.length = (pts r.t).length := by unfold RunD.ats; rw [atG_len]
    rw [atF, ats_cons]
    by_cases hi : (i : Int) < cpl r.t
    · rw [if_pos hi, List.getElem?_append_left (by omega)]
      unfold RunD.ats
      rw [atG_at r.c r.q (pts r.t) r.f i ((pts r.t)[i]'(by omega)) (by simp [show i < (pts r.t).length by omega])]
      rfl
    · rw [if_neg hi, List.getElem?_append_right (by omega), hrl, show (i : Int) - cpl r.t = ((i - (pts r.t).length : Nat) : Int) by omega]
      exact atF_ats l (fun x hx => h x (by simp [hx])) _

end Go.Proofs.YtjimolafoihnpaaDoor

/-
  Documents that came in, of bulk at most 1048576, opened.
-/
namespace Go.Proofs.YtjimolafoihnpaaDoor
open Go.RowKit Go.ChangeShapes Go.WideShapes Go.ChangeAt Go.PlainAid

theorem bulk_pos {H : Type} (d : DataW H) : 1 ≤ Rows.uptoBulk d := by
  cases d with
  | lit l => cases l <;> simp [Rows.uptoBulk]
  | _ => simp [Rows.uptoBulk]
theorem bulk_mem {H : Type} : ∀ {l : List (DataW H)} {d : DataW H}, d ∈ l → Rows.uptoBulk d ≤ Rows.uptoBulkAll l
  | x :: r, d, hd => by
    simp only [Rows.uptoBulkAll]
    rcases List.mem_cons.1 hd with rfl | h
    · omega
    · have := bulk_mem h; omega
theorem up_mem {H : Type} {ds : List (DataW H)} {d : DataW H} (hk : Rows.uptoSmall H ds = true) (h : d ∈ ds) : Rows.uptoBulk d ≤ 1048576 := by
  have h1 : Rows.uptoBulkAll ds ≤ 1048576 := by simpa [Rows.uptoSmall] using hk
  have := bulk_mem h
  omega
theorem bulk_runs {H : Type} : ∀ (l : List RunD) (ds : List (DataW H)), ds.length = l.length → (∀ (i : Nat) r d, l[i]? = some r → ds[i]? = some d → ∃ d0 d1 : DataW H, d = .agg [d0, d1, .lit (.string r.t.data.toList)]) → l.length + (txB l).length ≤ Rows.uptoBulkAll ds
  | [], _, _, _ => by simp [txB]
  | r :: l, [], h, _ => by simp at h
  | r :: l, d :: ds, h, hd => by
    have h1 := bulk_runs l ds (by simpa using h) (fun i r d a b => hd (i + 1) r d (by simpa using a) (by simpa using b))
    obtain ⟨d0, d1, rfl⟩ := hd 0 r d (by simp) (by simp)
    have e : txB (r :: l) = r.t.data.toList ++ txB l := by simp [txB]
    rw [e, List.length_append, List.length_cons]
    simp only [Rows.uptoBulkAll, Rows.uptoBulk]
    omega

set_option maxRecDepth 20000 in
/-- Runs, out of their value, with their data. -/
theorem open_rni {H : Type} {enc : TypeId × Value → H} {w : World} {spare : Nat → Bool} {held : Bool} {fuel : Nat} {ao : Option Addr} {len cap : Nat} {x : DataW H × List MemPlace}
    (h : DataW.trod enc Tryd.prog w 0 spare held fuel 22 (Value.slice ao len cap).cells.toList = some x) :
    ∃ l : List RunD, RdN w (.slice ao len cap) l ∧ (∀ r ∈ l, r.Bd) ∧ (l = [] ∨ ∃ (D : Nat → DataW H) (sp : List (DataW H)), x.1 = .slice ((List.range l.length).map D) sp ∧ ∀ i r, l[i]? = some r → ∃ d0 d1 : DataW H, D i = .agg [d0, d1, .lit (.string r.t.data.toList)]) := by
  rcases Go.Deep.open_slice Tryd.underlying22 h with ⟨hcs, _⟩ | ⟨a, l, c, m, n, D, Pl, hcs, _, hl, hmx, hmm, hx, hall⟩
  · simp [Value.cells] at hcs
    obtain ⟨rfl, rfl, rfl⟩ := hcs
    exact ⟨[], RdN.nil w, by simp, .inl rfl⟩
  · simp [Value.cells] at hcs
    obtain ⟨rfl, rfl, rfl⟩ := hcs
    have hlm : len ≤ m := by rw [hmm]; split <;> omega
    have h4 : Tryd.prog.cellsOf 44 = 4 := by kernel_rfl
    rw [h4] at hall
    obtain ⟨b, off, spot⟩ := a
    have hsp : ∀ i, i < len → spot = none := by
      intro i hi
      obtain ⟨cs', h1, h2⟩ := hall 0 (by omega)
      obtain ⟨o, _, _, rfl, _⟩ := open_rn h2
      obtain ⟨_, _, hcell⟩ := World.cells?_some h1
      have e0 := hcell 0 (by omega)
      simp at e0
      have := World.cell?_spot e0
      simpa [Addr.add] using this
    have each : ∀ i, i < len → ∃ o : RunD, (o.Bd ∧ ∃ d0 d1 : DataW H, D i = .agg [d0, d1, .lit (.string o.t.data.toList)]) ∧ spot = none ∧ b < w.heap.size ∧ w.cell? ⟨b, off + i * 4, none⟩ = some (.int .i64 o.c) ∧ w.cell? ⟨b, off + i * 4 + 1, none⟩ = some (.int .i64 o.q) ∧ w.cell? ⟨b, off + i * 4 + 2, none⟩ = some (.int .i64 o.f) ∧ w.cell? ⟨b, off + i * 4 + 3, none⟩ = some (.string o.t) := by
      intro i hi
      obtain ⟨cs', h1, h2⟩ := hall i (by omega)
      obtain ⟨o, d0, d1, rfl, ho, hd⟩ := open_rn h2
      obtain ⟨_, _, hcell⟩ := World.cells?_some h1
      have e0 := hcell 0 (by omega)
      have e1 := hcell 1 (by omega)
      have e2 := hcell 2 (by omega)
      have e3 := hcell 3 (by omega)
      rw [Go.Deep.add_add] at e0 e1 e2 e3
      simp at e0 e1 e2 e3
      obtain rfl := hsp i hi
      have hadd : ∀ k, (⟨b, off, none⟩ : Addr).add k = ⟨b, off + k, none⟩ := fun k => by unfold Addr.add; split <;> simp_all
      rw [hadd] at e0 e1 e2 e3
      simp only at hd
      exact ⟨o, ⟨ho, d0, d1, hd⟩, rfl, World.block_lt_of_cell? w _ e0, e0, by rw [Nat.add_assoc]; exact e1, by rw [Nat.add_assoc]; exact e2, by rw [Nat.add_assoc]; exact e3⟩
    obtain ⟨f, hf⟩ := @Go.Deep.choose_lt RunD ⟨⟨0, 0, 0, ⟨#[]⟩⟩⟩ _ _ each
    have hlen : ((List.range len).map f).length = len := by simp
    refine ⟨(List.range len).map f, ⟨some ⟨b, off, spot⟩, cap, by rw [hlen], by rw [hlen]; omega, fun i o ho => ?_⟩, fun o ho => ?_, .inr ⟨D, _, by rw [hlen, hx], fun i r hr => ?_⟩⟩
    · have hi : i < len := by
        have := (List.getElem?_eq_some_iff.1 ho).1
        simpa using this
      simp [hi] at ho
      subst ho
      obtain ⟨_, rfl, r⟩ := hf i hi
      exact ⟨b, off, rfl, r⟩
    · obtain ⟨i, hi, rfl⟩ := List.mem_map.1 ho
      exact (hf i (List.mem_range.1 hi)).1.1
    · have hi : i < len := by
        have := (List.getElem?_eq_some_iff.1 hr).1
        simpa using this
      simp [hi] at hr
      subst hr
      exact (hf i hi).1.2


theorem open_rnu {H : Type} {enc : TypeId × Value → H} {w : World} {spare : Nat → Bool} {held : Bool} {fuel : Nat} {ao : Option Addr} {len cap : Nat} {x : DataW H × List MemPlace}
    (h : DataW.trod enc Tryd.prog w 0 spare held fuel 22 (Value.slice ao len cap).cells.toList = some x) (hz : Rows.uptoBulk x.1 ≤ 1048576) :
    ∃ l : List RunD, RdN w (.slice ao len cap) l ∧ (l.length ≤ 1048576 ∧ (txB l).length ≤ 1048576) ∧ ∀ r ∈ l, r.Bd := by
  obtain ⟨l, h1, h2, h3⟩ := open_rni h
  refine ⟨l, h1, ?_, h2⟩
  rcases h3 with rfl | ⟨D, sp, hx, hD⟩
  · simp [txB]
  · rw [hx] at hz
    simp only [Rows.uptoBulk] at hz
    have := bulk_runs l ((List.range l.length).map D) (by simp) (fun i r d a b => by
      have hi : i < l.length := (List.getElem?_eq_some_iff.1 a).1
      simp [hi] at b
      rw [← b]
      exact hD i r a)
    omega
end Go.Proofs.YtjimolafoihnpaaDoor

/-
  Atoms put together as runs, atom by atom: runs as they must stand, with just these atoms. No walk.
-/
namespace Go.Proofs.YtjimolafoihnpaaDoor
open Go.ChangeShapes Go.WideShapes Go.ChangeAt Go.RowKit Go.PlainAid

/-- One atom as a run. -/
def oneA (x : Atm) : RunD := ⟨x.c, x.q, x.n, mk (enc [x.z])⟩
theorem one_facts {x : Atm} (h : szI x.z ≠ 0) : (oneA x).Ok ∧ (oneA x).ats = [x] ∧ cpl (oneA x).t = 1 := by
  obtain ⟨e1, e2⟩ := cpl_enc (p := [x.z]) (by simpa using h)
  refine ⟨?_, ?_, ?_⟩
  · unfold RunD.Ok oneA
    simp only
    rw [e1]
    simp
  · unfold RunD.ats oneA
    simp only
    rw [e2]
    rfl
  · unfold oneA
    simp only
    rw [e1]
    rfl
/-- The runs of atoms. -/
def rnA (A : List Atm) : List RunD := wtL [] (A.map oneA)
theorem ats_ones : ∀ {A : List Atm}, (∀ x ∈ A, szI x.z ≠ 0) → ats (A.map oneA) = A
  | [], _ => rfl
  | x :: A, h => by
    rw [List.map_cons, ats_cons, (one_facts (h x (by simp))).2.1, ats_ones (A := A) (fun y hy => h y (by simp [hy]))]
    rfl
theorem rnA_can {A : List Atm} (h : ∀ x ∈ A, szI x.z ≠ 0) : Can (rnA A) ∧ ats (rnA A) = A := by
  have h1 := wtL_can (l := []) (more := A.map oneA) trivial (fun r hr => by
    obtain ⟨x, hx, rfl⟩ := List.mem_map.1 hr
    exact (one_facts (h x hx)).1)
  refine ⟨h1.1, ?_⟩
  have h2 := h1.2
  rw [ats_ones h, ats_nil, List.nil_append] at h2
  exact h2
theorem rnA_of {l : List RunD} (h : Can l) : rnA (ats l) = l := by
  have hz : ∀ x ∈ ats l, szI x.z ≠ 0 := fun x hx => by
    simp only [ats, List.mem_flatten, List.mem_map] at hx
    obtain ⟨_, ⟨r, hr, rfl⟩, hx⟩ := hx
    have ho := h.all r hr
    have hp := pts_sz (t := r.t) (by unfold RunD.Ok at ho; omega)
    have : x.z ∈ (atG r.c r.q r.f (pts r.t)).map Atm.z := List.mem_map.2 ⟨x, hx, rfl⟩
    rw [atG_z] at this
    exact hp _ this
  have := rnA_can hz
  exact can_inj this.1 h this.2
theorem rnA_take {A : List Atm} {k : Nat} (hk : k < A.length) : rnA (A.take (k + 1)) = wtS (rnA (A.take k)) (oneA A[k]) := by
  unfold rnA
  rw [List.take_succ_eq_append_getElem hk, List.map_append]
  unfold wtL
  rw [List.foldl_append]
  rfl
theorem ats_sz {l : List RunD} (h : ∀ r ∈ l, r.Ok) : ∀ x ∈ ats l, szI x.z ≠ 0 := fun x hx => by
  simp only [ats, List.mem_flatten, List.mem_map] at hx
  obtain ⟨_, ⟨r, hr, rfl⟩, hx⟩ := hx
  have ho := h r hr
  have hp := pts_sz (t := r.t) (by unfold RunD.Ok at ho; omega)
  have : x.z ∈ (atG r.c r.q r.f (pts r.t)).map Atm.z := List.mem_map.2 ⟨x, hx, rfl⟩
  rw [atG_z] at this
  exact hp _ this
/-- The last atom of runs. -/
theorem last_ats {Y : List RunD} {a : RunD} {P : List Atm} {x : Atm} (ha : a.Ok) (h : ats (Y ++ [a]) = P ++ [x]) : x.c = a.c ∧ x.q = a.q ∧ x.n + 1 = a.f + cpl a.t := by
  have hp := pts_pos ha
  have hl := pts_len (t := a.t) (by unfold RunD.Ok at ha; omega)
  rcases List.eq_nil_or_concat (pts a.t) with e | ⟨zs, z, e⟩
  · rw [e] at hp; simp at hp
  · rw [List.concat_eq_append] at e
    rw [ats_append, ats_cons, ats_nil, List.append_nil, RunD.ats, e, atG_append, ← List.append_assoc] at h
    have h2 := (List.append_inj' h (by simp [atG])).2
    simp only [atG, List.cons.injEq, and_true] at h2
    rw [← h2]
    rw [e] at hl
    simp only [List.length_append, List.length_cons, List.length_nil] at hl
    refine ⟨rfl, rfl, ?_⟩
    simp only
    omega
/-- Does an atom go on the one ahead of it? -/
def prv (A : List Atm) : Nat → Atm → Bool
  | 0, _ => false
  | j + 1, x => match A[j]? with
    | some y => decide (y.c = x.c) && decide (y.q = x.q) && decide (y.n + 1 = x.n)
    | none => false
theorem prv_some {A : List Atm} {j : Nat} {x y : Atm} (h : A[j]? = some y) : prv A (j + 1) x = (decide (y.c = x.c) && decide (y.q = x.q) && decide (y.n + 1 = x.n)) := by simp only [prv, h]
theorem rn_step {A : List Atm} {k : Nat} (hz : ∀ x ∈ A, szI x.z ≠ 0) (hk : k < A.length) :
    (prv A k A[k] = true → ∃ Y a, rnA (A.take k) = Y ++ [a] ∧ rnA (A.take (k + 1)) = Y ++ [a.cat (oneA A[k])]) ∧ (prv A k A[k] = false → rnA (A.take (k + 1)) = rnA (A.take k) ++ [(oneA A[k])]) := by
  rw [rnA_take hk]
  have hc := rnA_can (A := A.take k) (fun x hx => hz x (List.mem_of_mem_take hx))
  have h1 := one_facts (hz A[k] (by simp))
  cases k with
  | zero => exact ⟨fun h => by simp [prv] at h, fun _ => by simp [rnA, wtL, wtS]⟩
  | succ j =>
    have hj : A[j]? = some A[j] := by simp [show j < A.length by omega]
    rcases List.eq_nil_or_concat (rnA (A.take (j + 1))) with e | ⟨Y, a, e⟩
    · exfalso
      have := hc.2
      rw [e, ats_nil] at this
      have := congrArg List.length this
      simp at this
      omega
    · rw [List.concat_eq_append] at e
      rw [e] at hc ⊢
      have hl := last_ats (x := A[j]) (P := A.take j) (can_last hc.1) (by rw [hc.2, List.take_succ_eq_append_getElem (by omega)])
      have hn : nxR a (oneA A[j + 1]) = prv A (j + 1) A[j + 1] := by
        rw [prv_some hj]
        unfold nxR oneA
        simp only
        rw [← hl.1, ← hl.2.1, ← hl.2.2]
        simp only [eq_comm]
      refine ⟨fun h => ⟨Y, a, rfl, wtS_yes (by rw [hn]; exact h)⟩, fun h => wtS_no (by rw [hn]; exact h)⟩
theorem textR_one {z : Int} (h : szI z ≠ 0) : textR [z] = (mk (enc [z]), true) := by
  unfold textR
  rw [if_pos (by simpa using h)]
theorem one_size (x : Atm) : (oneA x).t.size ≤ 4 := by
  unfold oneA
  simp only [mk_size]
  have := enc_take_len [x.z] 1
  simpa using this
theorem rnA_small {A : List Atm} (hl : A.length ≤ 100000) (hz : ∀ x ∈ A, szI x.z ≠ 0) : (txB (rnA A)).length ≤ 400000 ∧ (rnA A).length ≤ 100000 := by
  have hc := rnA_can hz
  have hb := tx_bound (rnA A) hc.1.all
  rw [kysL_ats hc.1.all, List.length_map, hc.2] at hb
  omega
end Go.Proofs.YtjimolafoihnpaaDoor

/-
  The contract of the reference's Runs.
-/
namespace Go.Proofs.YtjimolafoihnpaaDoor
open Go.ChangeShapes Go.WideShapes Go.ChangeAt Go.RowKit Go.PlainAid

theorem reads_one (W : World) (z : Int) : ReadsI (W.alloc (.cells #[.int .i64 z] 3)) (.slice (some ⟨W.heap.size, 0, none⟩) 1 1) [z] := by
  refine .inr ⟨W.heap.size, 0, 1, rfl, fun i hi => ?_⟩
  have : i = 0 := by simp at hi; omega
  subst this
  have := heap_alloc_new W (.cells #[.int .i64 z] 3)
  unfold World.cell?
  rw [this]
  rfl

set_option maxRecDepth 20000 in
set_option maxHeartbeats 1000000 in
theorem runs_any (v : Value) (A : List Atm) (w : World) (hr : RdA w v A) (hz : ∀ x ∈ A, szI x.z ≠ 0) (hn : ∀ x ∈ A, 0 ≤ x.n ∧ x.n ≤ 100000) (hl : A.length ≤ 100000) :
    Calls Tryd.prog 34 #[v] w fun e w' => ∃ u, e = .returned u ∧ w'.ownsRow w.heap.size 44 4 u (rnA A).length (rcs (rnA A)) ∧ Below w.heap.size w w' := by
  obtain ⟨i0, hi, hz0, hz1, hz2⟩ := info_parts Tryd.infoRun
  obtain ⟨ao, cp, hv, -⟩ := id hr
  subst hv
  go_enter Tryd.func34, Tryd.ntmps34
  go_wp2_with fail
  go_loopw [3, 4] (fun u i wr => ∃ k : Nat, k ≤ A.length ∧ i = .int .i64 (k : Int) ∧ wr.ownsRow w.heap.size 44 4 u (rnA (A.take k)).length (rcs (rnA (A.take k))) ∧ Below w.heap.size w wr) (fun _ i _ => A.length - (Go.RowKit.intOf i).toNat)
  case atStart => exact ⟨0, Nat.zero_le _, rfl, World.ownsRow_nil _ _ _ _, Below.refl _ _⟩
  case round =>
    obtain ⟨k, hk, rfl, ho, hb⟩ := hrel
    by_cases hlt : k < A.length
    · have hlt' : (k : Int) < (A.length : Int) := by omega
      have hkx : A[k]? = some A[k] := by simp [hlt]
      obtain ⟨ba, oa, rfl, hba, x0, x1, x2, x3⟩ := rda_at (hr.below hb) hkx
      have hcell : ∀ W, Below w.heap.size w W → W.cell? ⟨ba, oa + k * 4, none⟩ = some (.int .i64 A[k].c) ∧ W.cell? ⟨ba, oa + k * 4 + 1, none⟩ = some (.int .i64 A[k].q) ∧ W.cell? ⟨ba, oa + k * 4 + 2, none⟩ = some (.int .i64 A[k].n) ∧ W.cell? ⟨ba, oa + k * 4 + 3, none⟩ = some (.int .i64 A[k].z) := fun W hW => by
        obtain ⟨_, _, e, -, g⟩ := rda_at (hr.below hW) hkx
        cases e
        exact g
      have HS := rn_step hz hlt
      have HT : Hid (prv A k A[k] = true → ∃ Y a, rnA (A.take k) = Y ++ [a] ∧ rnA (A.take (k + 1)) = Y ++ [a.cat (oneA A[k])]) := HS.1
      have HF : Hid (prv A k A[k] = false → rnA (A.take (k + 1)) = rnA (A.take k) ++ [(oneA A[k])]) := HS.2
      have hsm := rnA_small (A := A.take k) (by simp; omega) (fun x hx => hz x (List.mem_of_mem_take hx))
      have htx := textR_one (hz A[k] (by simp))
      have hnx := hn A[k] (by simp)
      have hD : Hid (∀ D, prv A k A[k] = D → (k = 0 ∧ D = false) ∨ ∃ j y, k = j + 1 ∧ A[j]? = some y ∧ (0 ≤ y.n ∧ y.n ≤ 100000) ∧ D = (decide (y.c = A[k].c) && decide (y.q = A[k].q) && decide (y.n + 1 = A[k].n)) ∧ ∀ W, Below w.heap.size w W → W.cell? ⟨ba, oa + j * 4, none⟩ = some (.int .i64 y.c) ∧ W.cell? ⟨ba, oa + j * 4 + 1, none⟩ = some (.int .i64 y.q) ∧ W.cell? ⟨ba, oa + j * 4 + 2, none⟩ = some (.int .i64 y.n)) := by
        intro D e
        cases k with
        | zero => exact .inl ⟨rfl, by rw [← e]; rfl⟩
        | succ j =>
          have hj : A[j]? = some A[j] := by simp [show j < A.length by omega]
          refine .inr ⟨j, A[j], rfl, hj, hn A[j] (by simp), by rw [← e, prv_some hj], fun W hW => ?_⟩
          obtain ⟨_, _, e, -, g0, g1, g2, -⟩ := rda_at (hr.below hW) hj
          cases e
          exact ⟨g0, g1, g2⟩
      clear HS hkx hr hz hn
      generalize prv A k A[k] = D at *
      generalize rnA (A.take k) = X at *
      generalize A[k] = x at *
      obtain ⟨N, hN⟩ : ∃ N, X.length = N := ⟨_, rfl⟩
      rw [hN] at ho
      obtain ⟨a1, k1, rfl⟩ := own_form ho
      have cT := refText_any _ [x.z] _ (by simp) (reads_one wr x.z)
      rw [htx] at cT
      have hbA := hb.alloc hb.size (.cells #[.int .i64 x.z] 3)
      have hoA := ho.alloc (.cells #[.int .i64 x.z] 3)
      have hxt : (oneA x).t = mk (enc [x.z]) := rfl
      have hx1 : (oneA x).t.size ≤ 4 := one_size x
      rw [← hxt] at cT
      obtain ⟨tx, hxx⟩ : ∃ t, (oneA x).t = t := ⟨_, rfl⟩
      have HX : Hid ((oneA x).t = tx) := hxx
      have HR : Hid (rcs [(oneA x)] = [.int .i64 x.c, .int .i64 x.q, .int .i64 x.n, .string tx]) := by show _ = _; rw [rcs_one, hxx]; rfl
      rw [hxx] at cT hx1
      clear hxx
      go_upto_region 6 with (go_at_call 57; refine cT.mono ?_; rintro e w1 ⟨rfl, q1⟩; have hb1 := chain hbA q1; have ho1 := own_belowG hoA q1)
      clear cT hbA hoA ho x0 x1 x2 x3 q1 hxt htx
      go_cut [53] (fun t wx => t = .bool D ∧ Below w1.heap.size w1 wx)
      case first =>
        have p0 : ∀ s : Beh w1, s.it.cell? ⟨ba, oa + k * 4, none⟩ = some (.int .i64 x.c) := fun s => (hcell _ (chain hb1 s.h)).1
        have p1 : ∀ s : Beh w1, s.it.cell? ⟨ba, oa + k * 4 + 1, none⟩ = some (.int .i64 x.q) := fun s => (hcell _ (chain hb1 s.h)).2.1
        have p2 : ∀ s : Beh w1, s.it.cell? ⟨ba, oa + k * 4 + 2, none⟩ = some (.int .i64 x.n) := fun s => (hcell _ (chain hb1 s.h)).2.2.1
        clear hcell HT HF
        rcases hD.out D rfl with ⟨rfl, rfl⟩ | ⟨j, y, rfl, -, hyn, rfl, hj⟩
        · clear hD p0 p1 p2
          refine wp_region_beh (by kernel_rfl) (by kernel_rfl) ?_
          repeat (go_big_quiet_step (fail))
          refine wpQuiet_nil ?_
          intro wq hw'
          have hwq := Beh.out hw'
          clear hw'
          go_wp2_with fail
          go_meet
          exact ⟨rfl, hwq⟩
        · have y0 : ∀ s : Beh w1, s.it.cell? ⟨ba, oa + j * 4, none⟩ = some (.int .i64 y.c) := fun s => (hj _ (chain hb1 s.h)).1
          have y1 : ∀ s : Beh w1, s.it.cell? ⟨ba, oa + j * 4 + 1, none⟩ = some (.int .i64 y.q) := fun s => (hj _ (chain hb1 s.h)).2.1
          have y2 : ∀ s : Beh w1, s.it.cell? ⟨ba, oa + j * 4 + 2, none⟩ = some (.int .i64 y.n) := fun s => (hj _ (chain hb1 s.h)).2.2
          have hjl : (j : Int) < (A.length : Int) := by omega
          have hw7 : IntKind.i64.wrap (y.n + 1) = y.n + 1 := by rw [IntKind.wrap_i64]; omega
          clear hj hD
          by_cases t1 : y.c = x.c
          · have t1' : (y.c == x.c) = true := by simp [t1]
            by_cases t2 : y.q = x.q
            · have t2' : (y.q == x.q) = true := by simp [t2]
              by_cases t3 : y.n + 1 = x.n
              · have t3' : (y.n + 1 == x.n) = true := by simp [t3]
                have HD : Hid ((decide (y.c = x.c) && decide (y.q = x.q) && decide (y.n + 1 = x.n)) = true) := by show _ = _; simp [t1, t2, t3]
                clear t1 t2 t3
                refine wp_region_beh (by kernel_rfl) (by kernel_rfl) ?_
                repeat (go_big_quiet_step (fail))
                refine wpQuiet_nil ?_
                intro wq hw'
                have hwq := Beh.out hw'
                clear hw' p0 p1 p2 y0 y1 y2
                go_wp2_with fail
                go_meet
                exact ⟨by rw [HD.out], hwq⟩
              · have t3' : (y.n + 1 == x.n) = false := by simp [t3]
                have HD : Hid ((decide (y.c = x.c) && decide (y.q = x.q) && decide (y.n + 1 = x.n)) = false) := by show _ = _; simp [t3]
                clear t1 t2 t3
                refine wp_region_beh (by kernel_rfl) (by kernel_rfl) ?_
                repeat (go_big_quiet_step (fail))
                refine wpQuiet_nil ?_
                intro wq hw'
                have hwq := Beh.out hw'
                clear hw' p0 p1 p2 y0 y1 y2
                go_wp2_with fail
                go_meet
                exact ⟨by rw [HD.out], hwq⟩
            · have t2' : (y.q == x.q) = false := by simp [t2]
              have HD : Hid ((decide (y.c = x.c) && decide (y.q = x.q) && decide (y.n + 1 = x.n)) = false) := by show _ = _; simp [t2]
              clear t1 t2
              refine wp_region_beh (by kernel_rfl) (by kernel_rfl) ?_
              repeat (go_big_quiet_step (fail))
              refine wpQuiet_nil ?_
              intro wq hw'
              have hwq := Beh.out hw'
              clear hw' p0 p1 p2 y0 y1 y2
              go_wp2_with fail
              go_meet
              exact ⟨by rw [HD.out], hwq⟩
          · have t1' : (y.c == x.c) = false := by simp [t1]
            have HD : Hid ((decide (y.c = x.c) && decide (y.q = x.q) && decide (y.n + 1 = x.n)) = false) := by show _ = _; simp [t1]
            clear t1
            refine wp_region_beh (by kernel_rfl) (by kernel_rfl) ?_
            repeat (go_big_quiet_step (fail))
            refine wpQuiet_nil ?_
            intro wq hw'
            have hwq := Beh.out hw'
            clear hw' p0 p1 p2 y0 y1 y2
            go_wp2_with fail
            go_meet
            exact ⟨by rw [HD.out], hwq⟩
      case rest =>
        obtain ⟨rfl, q2⟩ := hcut
        replace hb1 := chain hb1 q2
        replace ho1 := own_belowG ho1 q2
        obtain ⟨d0, d1, d2, -⟩ := hcell _ hb1
        clear hD hcell q2
        cases D
        · have HE := HF.out rfl
          clear HT HF
          subst hN
          go_upto_region 8 with fail
          go_region_law (refine step_append_lies _ (by rfl) (.tmp 69) (.tmp 82) 22 (by rfl) w.heap.size 44 i0 (.agg #[.int .i64 0, .int .i64 0, .int .i64 0, .string ⟨#[]⟩]) 4 40 Tryd.underlying22 hi hz0 hz1 hz2 rfl (by decide) (.slice a1 X.length k1) X.length (rcs X) (by simp [Act.eval]) (World.ownsRow.alloc (w := wc.drew) ho1 _) ⟨wc.heap.size, 0, none⟩ 1 1 [.int .i64 x.c, .int .i64 x.q, .int .i64 x.n, .string tx] (by simp [Act.eval]) rfl (World.news_of_block (heap_alloc_new wc.drew _)) (by simp [Value.oneCell']) (by decide) (by unfold maxLen; omega) (by omega) (by have := hb1.size; simp; omega) (wc.heap.size + 1) (by simp) ?_; intro g cap w7 hown hgr hg hlt7)
          all_goals (go_wp2_with fail)
          all_goals exact ⟨⟨k + 1, by omega, by go_num, by rw [HE, rcs_append, HR.out, List.length_append]; exact hown, (Below.drew (hb1.alloc hb1.size _)).grown hgr (by have := hb1.size; simp; omega) (fun k hk => (ho1.lt k hk).1)⟩, by simp [Go.RowKit.intOf]; omega⟩
        · obtain ⟨Y, a, e, HE⟩ := HT.out rfl
          clear HT HF
          subst e
          have hlen : (Y ++ [a]).length = Y.length + 1 := by simp
          have hNY : N = Y.length + 1 := by omega
          subst hNY
          have hown : wc.ownsRow w.heap.size 44 4 (.slice a1 (Y.length + 1) k1) (Y ++ [a]).length (rcs (Y ++ [a])) := by rw [hlen]; exact ho1
          obtain ⟨g, o, e6, hgl, b0, b1, b2, b3⟩ := (rdn_own hown).at Y.length a (by simp)
          subst e6
          obtain ⟨rfl, cur, hcur⟩ := own_zero ho1
          have hgw := (ho1.lt g rfl).1
          have f3 := frz hcur (Y.length * 4 + 3)
          rw [Nat.zero_add] at b3
          have hset := own_cell (j := Y.length * 4 + 3) ho1 (.string (a.t ++ tx))
          have hcat := rcs_cat Y a (oneA x)
          rw [HX.out] at hcat
          rw [hcat] at hset
          have hXm := txB_mem (X := Y ++ [a]) (a := a) (by simp)
          have HO : Hid ((wc.setCell ⟨g, Y.length * 4 + 3, none⟩ (.string (a.t ++ tx))).ownsRow w.heap.size 44 4 (.slice (some ⟨g, 0, none⟩) (Y.length + 1) k1) (Y ++ [a.cat (oneA x)]).length (rcs (Y ++ [a.cat (oneA x)]))) := by show World.ownsRow _ _ _ _ _ _ _; rw [show (Y ++ [a.cat (oneA x)]).length = Y.length + 1 by simp]; exact hset
          have HB : Hid (Below w.heap.size w (wc.setCell ⟨g, Y.length * 4 + 3, none⟩ (.string (a.t ++ tx)))) := hb1.setCell (p := ⟨g, Y.length * 4 + 3, none⟩) hgw _
          clear hset hcat hown hcur b0 b1 b2 ho1
          go_wp2_with fail
          exact ⟨⟨k + 1, by omega, by go_num, by rw [HE]; exact HO.out, HB.out⟩, by simp [Go.RowKit.intOf]; omega⟩
    · obtain rfl : k = A.length := by omega
      rw [List.take_length] at ho
      obtain ⟨a1, k1, rfl⟩ := own_form ho
      go_wp2_with fail
      go_ret
      exact ⟨_, rfl, ho, hb⟩
end Go.Proofs.YtjimolafoihnpaaDoor

/-
  Rows of atoms appended and cut; the reference's Slice and Join.
-/
namespace Go.Proofs.YtjimolafoihnpaaDoor
open Go.ChangeShapes Go.WideShapes Go.ChangeAt Go.RowKit Go.PlainAid

theorem sizeAtm (W : World) : (sizeOf 80).run Tryd.prog W = .ok 4 W := by
  obtain ⟨i0, hi, hz0, hz1, hz2⟩ := info_parts Tryd.infoAtm
  simp [sizeOf, typeInfo, hi, hz1]
theorem acs_one' (l : List Atm) : ∀ u ∈ acs l, u.oneCell' = true := by
  intro u hu
  simp only [acs, List.mem_flatten, List.mem_map] at hu
  obtain ⟨_, ⟨o, _, rfl⟩, hu⟩ := hu
  simp only [List.mem_cons, List.not_mem_nil, or_false] at hu
  rcases hu with rfl | rfl | rfl | rfl <;> rfl
theorem rda_cells {w : World} {b off cp : Nat} {l : List Atm} (h : RdA w (.slice (some ⟨b, off, none⟩) l.length cp) l) : ∀ j u, (acs l)[j]? = some u → w.cell? ((⟨b, off, none⟩ : Addr).add j) = some u := by
  intro j u hj
  have hj' : j < l.length * 4 := by have := (List.getElem?_eq_some_iff.1 hj).1; rwa [acs_length] at this
  obtain ⟨b', o', e1, _, c0, c1, c2, c3⟩ := rda_at h (i := j / 4) (x := l[j / 4]) (by simp [show j / 4 < l.length by omega])
  cases e1
  obtain ⟨q0, q1, q2, q3⟩ := acs_at l (j / 4) l[j / 4] (by simp [show j / 4 < l.length by omega])
  rw [addr_add]
  rcases (show j = j / 4 * 4 ∨ j = j / 4 * 4 + 1 ∨ j = j / 4 * 4 + 2 ∨ j = j / 4 * 4 + 3 by omega) with h | h | h | h
  · rw [h] at hj ⊢
    rw [c0, ← q0, hj]
  · rw [h] at hj ⊢
    rw [← Nat.add_assoc, c1, ← q1, hj]
  · rw [h] at hj ⊢
    rw [← Nat.add_assoc, c2, ← q2, hj]
  · rw [h] at hj ⊢
    rw [← Nat.add_assoc, c3, ← q3, hj]
theorem app_atoms (B : Nat) (u : Value) (v : Value) (L l : List Atm) (wr : World) (hu : wr.ownsRow B 80 4 u L.length (acs L)) (hB : B ≤ wr.heap.size) (hw : RdA wr v l) (hx : L.length + l.length ≤ 3298534883328) (ty : TypeId) :
    ∃ v' w', (Builtin.append_ #[73, 73] ty #[u, v]).run Tryd.prog wr = .ok v' w' ∧ w'.ownsRow B 80 4 v' (L ++ l).length (acs (L ++ l)) ∧ wr.grownBy w' u.ownBlock := by
  obtain ⟨i0, hin, hz0, hz1, hz2⟩ := info_parts Tryd.infoAtm
  by_cases h0 : l.length = 0
  · have : l = [] := List.eq_nil_of_length_eq_zero h0
    subst this
    obtain ⟨ao, cp, rfl, _, _⟩ := hw
    refine ⟨u, wr, ?_, by simpa using hu, ⟨rfl, rfl, rfl, Nat.le_refl _, fun _ _ _ => rfl⟩⟩
    obtain ⟨a2, c2, rfl⟩ := own_form hu
    have hc2 : L.length ≤ c2 := by
      rcases hu.2 with ⟨e, h⟩ | ⟨g, cap, cur, e, _, _, hn, _⟩
      · omega
      · injection e with _ _ e3
        omega
    cases a2 <;> cases ao <;> simp [Builtin.append_, run_underlying Tryd.underlying73, sizeOf, typeInfo, hin, Builtin.lenOf, Builtin.firstCells, loadCells, loadCellsFrom, storeCells, hc2]
  · have hw' := hw
    obtain ⟨ao, cp, rfl, _, hc⟩ := hw
    obtain ⟨b, off, rfl, _⟩ := hc 0 l[0] (by simp [show 0 < l.length by omega])
    obtain ⟨v', w', h1, h2, h3, h4⟩ := run_append_own (P := Tryd.prog) wr B 73 ty 80 i0 (.agg #[.int .i64 0, .int .i64 0, .int .i64 0, .int .i64 0]) 4 32 Tryd.underlying73 hin hz0 hz1 hz2 rfl (by decide) u L.length _ hu ⟨b, off, none⟩ l.length cp (acs l) (by rw [acs_length]) (rda_cells hw') (acs_one' l)
      (by unfold maxLen; omega) (by omega) hB
    refine ⟨v', w', h1, ?_, h3⟩
    rw [acs_append, List.length_append]
    exact h2
theorem wpList_app_atoms {ops : Array Oper} {rest : List Oper} {o : Oper} {a : Act} {Q : Exit → Act → World → Prop} (wr : World) (hgd : o.guard = none) (sl x : Operand)
    (ho : o.op = .call { callee := .builtin .append, args := #[sl, x], argTypes := #[73, 73] }) (B : Nat) (u v : Value) (L l : List Atm) (hs : a.eval sl = u) (hx : a.eval x = v)
    (hu : wr.ownsRow B 80 4 u L.length (acs L)) (hB : B ≤ wr.heap.size) (hw : RdA wr v l) (hl : L.length + l.length ≤ 3298534883328)
    (h : ∀ v' w', w'.ownsRow B 80 4 v' (L ++ l).length (acs (L ++ l)) → wr.grownBy w' u.ownBlock → wpList Tryd.prog ops Q rest (a.put o.dst v') w') : wpList Tryd.prog ops Q (o :: rest) a wr := by
  refine wpList_plain hgd fun K hK => ?_
  obtain ⟨v', w', hr, h2, h3⟩ := app_atoms B u v L l wr hu hB hw hl o.type
  unfold Oper.wp execOp
  simp only [ho, resolve, invoke, builtin, Sem.run_bind, Sem.run_pure, Result.andThen_ok, List.map_toArray, List.map_cons, List.map_nil, hs, hx, hr]
  exact hK _ _ (h v' w' h2 h3)
set_option maxRecDepth 20000 in
/-- A part of a row of atoms. -/
theorem rda_mid {W : World} {ao : Option Addr} {cp : Nat} {l : List Atm} (h : RdA W (.slice ao l.length cp) l) (lo n : Nat) (hn : lo + n ≤ l.length) :
    ∃ v', (∀ W' : World, (Instr.slice 73 (.slice ao l.length cp) (some (.int .i64 (lo : Int))) (some (.int .i64 ((lo : Int) + (n : Int)))) none).run Tryd.prog W' = .ok v' W') ∧ RdA W v' ((l.drop lo).take n) := by
  obtain ⟨a, c, e, hcp, hc⟩ := h
  injection e with e1 _ e3
  subst e1 e3
  have e : Tryd.prog.elem 73 = 80 := by kernel_rfl
  have e2 : ((lo : Int) + (n : Int)).toNat = lo + n := by omega
  refine ⟨sliced ao lo (lo + n) cp 4, fun W' => ?_, ?_⟩
  · rw [run_slice_lh (P := Tryd.prog) W' 73 ao l.length cp Tryd.underlying73 .i64 .i64 (lo : Int) ((lo : Int) + (n : Int)) (by omega) (by omega) (by omega), e, sizeAtm]
    simp only [Result.andThen, Int.toNat_natCast, e2]
  · have hlen : ((l.drop lo).take n).length = n := by simp; omega
    refine ⟨if cp = lo then ao else ao.map (·.add (lo * 4)), cp - lo, ?_, by omega, fun i x hx => ?_⟩
    · unfold sliced
      rw [hlen, show lo + n - lo = n by omega]
    · have hi : i < n := by
        have := (List.getElem?_eq_some_iff.1 hx).1
        omega
      rw [List.getElem?_take_of_lt hi, List.getElem?_drop] at hx
      obtain ⟨b, off, rfl, hb, c0, c1, c2, c3⟩ := hc (lo + i) x hx
      refine ⟨b, off + lo * 4, ?_, hb, ?_⟩
      · rw [if_neg (by omega)]
        simp only [Option.map_some, addr_add]
      · have ee : off + lo * 4 + i * 4 = off + (lo + i) * 4 := by omega
        rw [ee]
        exact ⟨c0, c1, c2, c3⟩

theorem bd_of {l : List RunD} (hc : Can l) (hm : ∀ x ∈ ats l, x.May) : ∀ r ∈ l, r.Bd := fun r hr => by
  have ho := hc.all r hr
  have hp := pts_pos ho
  obtain ⟨x, hx, e1, e2, e3⟩ := atG_has r.c r.q (pts r.t) r.f 0 hp
  have hxm : x ∈ ats l := by
    simp only [ats, List.mem_flatten, List.mem_map]
    exact ⟨_, ⟨r, hr, rfl⟩, hx⟩
  obtain ⟨m1, m2, m3⟩ := hm x hxm
  have m1 := orM_iff.1 m1
  rw [e1, e2] at m1
  exact ⟨by omega, by omega, by omega, by omega, by omega, by omega⟩
theorem jn_bd {a b : List RunD} (ha : Good a) (hb : Good b) : ∀ r ∈ jn2 a b, r.Bd := by
  have hj := jn_ats ha hb
  refine bd_of hj.1 (fun x hx => ?_)
  rw [hj.2] at hx
  rcases List.mem_append.1 hx with h | h
  · exact (good_ats.1 ha).2.1 x h
  · exact (good_ats.1 hb).2.1 x h


theorem jn_len (a b : List RunD) : (jnL a b).length ≤ 1125899906842624 := by
  unfold jnL
  split
  · rename_i h
    unfold jnB at h
    simp only [Bool.and_eq_true] at h
    have := ((good_iff _).1 h.2).bound.2
    omega
  · simp
end Go.Proofs.YtjimolafoihnpaaDoor
