/-
  Documents and origins that came in, opened.
-/
import Derived.Test.YtffbkgmagjkogaaDoorDoU
import Derived.Deep.Slices
import Derived.SizedLaws
namespace Go.Proofs.YtffbkgmagjkogaaDoor
open Go.ChangeShapes Go.WideShapes Go.ChangeAt Go.RowKit Go.PlainAid

/-- The numbers of a run fit. -/
structure RunD.Bd (r : RunD) : Prop where
  c0 : -9223372036854775808 ≤ r.c
  c1 : r.c ≤ 9223372036854775807
  q0 : -9223372036854775808 ≤ r.q
  q1 : r.q ≤ 9223372036854775807
  f0 : -9223372036854775808 ≤ r.f
  f1 : r.f ≤ 9223372036854775807

set_option maxRecDepth 20000 in
/-- An origin, out of its cells. -/
theorem open_or {H : Type} {enc : TypeId × Value → H} {w : World} {spare : Nat → Bool} {held : Bool} {n : Nat} {cs : List Value} {x : DataW H × List MemPlace} (h : DataW.trod enc Tryd.prog w 0 spare held n 40 cs = some x) :
    ∃ c q : Int, cs = [.int .i64 c, .int .i64 q] ∧ (-9223372036854775808 ≤ c ∧ c ≤ 9223372036854775807) ∧ (-9223372036854775808 ≤ q ∧ q ≤ 9223372036854775807) := by
  obtain ⟨xs, m, _, hx, hl, _, hf⟩ := DataW.trod_struct Tryd.underlying40 h
  have h4 : Tryd.prog.cellsOf 40 = 2 := by kernel_rfl
  have c3 : Tryd.prog.cellsOf 3 = 1 := by kernel_rfl
  rw [h4] at hl
  have hxl : xs.length = 2 := by assumption
  match xs, hxl, cs, hl with
  | [y0, y1], _, [v0, v1], _ =>
    have g0 := hf 0 _ rfl
    have g1 := hf 1 _ rfl
    simp [c3] at g0 g1
    obtain ⟨a0, e0, _, w0⟩ := DataW.trod_int Tryd.underlying3 g0
    obtain ⟨a1, e1, _, w1⟩ := DataW.trod_int Tryd.underlying3 g1
    simp at e0 e1
    exact ⟨a0, a1, by rw [e0, e1], wf_bd w0, wf_bd w1⟩

theorem or_val {v : Value} {c q : Int} (h : v.cells.toList = [.int .i64 c, .int .i64 q]) : v = .agg #[.int .i64 c, .int .i64 q] := by
  cases v with
  | agg a =>
    simp only [Value.cells] at h
    congr 1
    apply Array.ext'
    rw [h]
  | _ => simp [Value.cells] at h

set_option maxRecDepth 20000 in
/-- One run, out of its cells; B bounds what its Text weighs. -/
theorem open_rn {H : Type} {enc : TypeId × Value → H} {w : World} {spare : Nat → Bool} {held : Bool} {n : Nat} {cs : List Value} {x : DataW H × List MemPlace} (h : DataW.trod enc Tryd.prog w 0 spare held n 65 cs = some x) :
    ∃ (r : RunD) (d0 d1 : DataW H), cs = [.int .i64 r.c, .int .i64 r.q, .int .i64 r.f, .string r.t] ∧ r.Bd ∧ x.1 = .agg [d0, d1, .lit (.string r.t.data.toList)] := by
  obtain ⟨xs, m, _, hx, hl, _, hf⟩ := DataW.trod_struct Tryd.underlying65 h
  have h4 : Tryd.prog.cellsOf 65 = 4 := by kernel_rfl
  have c2 : Tryd.prog.cellsOf 40 = 2 := by kernel_rfl
  have c3 : Tryd.prog.cellsOf 3 = 1 := by kernel_rfl
  have c9 : Tryd.prog.cellsOf 9 = 1 := by kernel_rfl
  rw [h4] at hl
  have hxl : xs.length = 3 := by assumption
  match xs, hxl, cs, hl with
  | [y0, y1, y2], _, [v0, v1, v2, v3], _ =>
    have g0 := hf 0 _ rfl
    have g1 := hf 1 _ rfl
    have g2 := hf 2 _ rfl
    simp [c2, c3, c9] at g0 g1 g2
    obtain ⟨a, b, e0, ba, bb⟩ := open_or g0
    obtain ⟨a1, e1, _, w1⟩ := DataW.trod_int Tryd.underlying3 g1
    obtain ⟨a2, e2, f2, w2⟩ := DataW.trod_string Tryd.underlying9 g2
    simp at e0 e1 e2
    refine ⟨⟨a, b, a1, a2⟩, y0.1, y1.1, by rw [e0.1, e0.2, e1, e2], ⟨ba.1, ba.2, bb.1, bb.2, (wf_bd w1).1, (wf_bd w1).2⟩, ?_⟩
    rw [hx]
    simp only [List.map]
    rw [f2]

set_option maxRecDepth 20000 in
/-- Runs, out of their value; K is what is known of each run's datum. -/
theorem open_rns {H : Type} {enc : TypeId × Value → H} {w : World} {spare : Nat → Bool} {held : Bool} {fuel : Nat} {ao : Option Addr} {len cap : Nat} {x : DataW H × List MemPlace} (N : Nat) (K : DataW H → Prop)
    (h : DataW.trod enc Tryd.prog w 0 spare held fuel 22 (Value.slice ao len cap).cells.toList = some x)
    (hN : ∀ (D : Nat → DataW H) (sp : List (DataW H)), x.1 = .slice ((List.range len).map D) sp → len ≤ N ∧ ∀ i, i < len → K (D i)) :
    ∃ l : List RunD, RdN w (.slice ao len cap) l ∧ l.length ≤ N ∧ ∀ r ∈ l, r.Bd ∧ ∃ d0 d1 : DataW H, K (.agg [d0, d1, .lit (.string r.t.data.toList)]) := by
  rcases Go.Deep.open_slice Tryd.underlying22 h with ⟨hcs, _⟩ | ⟨a, l, c, m, n, D, Pl, hcs, _, hl, hmx, hmm, hx, hall⟩
  · simp [Value.cells] at hcs
    obtain ⟨rfl, rfl, rfl⟩ := hcs
    exact ⟨[], RdN.nil w, Nat.zero_le _, by simp⟩
  · simp [Value.cells] at hcs
    obtain ⟨rfl, rfl, rfl⟩ := hcs
    have hlm : len ≤ m := by rw [hmm]; split <;> omega
    have h4 : Tryd.prog.cellsOf 65 = 4 := by kernel_rfl
    obtain ⟨hln, hK⟩ := hN D _ (by rw [hx])
    rw [h4] at hall
    obtain ⟨b, off, spot⟩ := a
    have hsp : ∀ i, i < len → spot = none := by
      intro i hi
      obtain ⟨cs', h1, h2⟩ := hall 0 (by omega)
      obtain ⟨o, _, _, rfl, _⟩ := open_rn h2
      obtain ⟨_, _, hcell⟩ := World.cells?_some h1
      have e0 := hcell 0 (by omega)
      simp at e0
      have := World.cell?_spot e0
      simpa [Addr.add] using this
    have each : ∀ i, i < len → ∃ o : RunD, (o.Bd ∧ ∃ d0 d1 : DataW H, K (.agg [d0, d1, .lit (.string o.t.data.toList)])) ∧ spot = none ∧ b < w.heap.size ∧ w.cell? ⟨b, off + i * 4, none⟩ = some (.int .i64 o.c) ∧ w.cell? ⟨b, off + i * 4 + 1, none⟩ = some (.int .i64 o.q) ∧ w.cell? ⟨b, off + i * 4 + 2, none⟩ = some (.int .i64 o.f) ∧ w.cell? ⟨b, off + i * 4 + 3, none⟩ = some (.string o.t) := by
      intro i hi
      obtain ⟨cs', h1, h2⟩ := hall i (by omega)
      obtain ⟨o, d0, d1, rfl, ho, hd⟩ := open_rn h2
      obtain ⟨_, _, hcell⟩ := World.cells?_some h1
      have e0 := hcell 0 (by omega)
      have e1 := hcell 1 (by omega)
      have e2 := hcell 2 (by omega)
      have e3 := hcell 3 (by omega)
      rw [Go.Deep.add_add] at e0 e1 e2 e3
      simp at e0 e1 e2 e3
      obtain rfl := hsp i hi
      have hadd : ∀ k, (⟨b, off, none⟩ : Addr).add k = ⟨b, off + k, none⟩ := fun k => by unfold Addr.add; split <;> simp_all
      rw [hadd] at e0 e1 e2 e3
      have hk := hK i hi
      simp only at hd
      rw [hd] at hk
      exact ⟨o, ⟨ho, d0, d1, hk⟩, rfl, World.block_lt_of_cell? w _ e0, e0, by rw [Nat.add_assoc]; exact e1, by rw [Nat.add_assoc]; exact e2, by rw [Nat.add_assoc]; exact e3⟩
    obtain ⟨f, hf⟩ := @Go.Deep.choose_lt RunD ⟨⟨0, 0, 0, ⟨#[]⟩⟩⟩ _ _ each
    have hlen : ((List.range len).map f).length = len := by simp
    refine ⟨(List.range len).map f, ⟨some ⟨b, off, spot⟩, cap, by rw [hlen], by rw [hlen]; omega, fun i o ho => ?_⟩, by rw [hlen]; omega, fun o ho => ?_⟩
    · have hi : i < len := by
        have := (List.getElem?_eq_some_iff.1 ho).1
        simpa using this
      simp [hi] at ho
      subst ho
      obtain ⟨_, rfl, r⟩ := hf i hi
      exact ⟨b, off, rfl, r⟩
    · obtain ⟨i, hi, rfl⟩ := List.mem_map.1 ho
      exact (hf i (List.mem_range.1 hi)).1

set_option maxRecDepth 20000 in
/-- A document, out of its value: the whole form. -/
theorem open_rnz {H : Type} {enc : TypeId × Value → H} {w : World} {spare : Nat → Bool} {held : Bool} {fuel : Nat} {ao : Option Addr} {len cap : Nat} {x : DataW H × List MemPlace}
    (h : DataW.trod enc Tryd.prog w 0 spare held fuel 22 (Value.slice ao len cap).cells.toList = some x) (hz : ∀ n ∈ x.1.weights Tryd.prog 22, n ≤ reachBytes) :
    ∃ l : List RunD, RdN w (.slice ao len cap) l ∧ l.length ≤ 4398046511104 ∧ ∀ r ∈ l, r.Bd ∧ r.In := by
  have hb : Tryd.prog.bytesOf 65 = 40 := by kernel_rfl
  obtain ⟨l, h1, h2, h3⟩ := open_rns 4398046511104 (fun d => ∀ n ∈ d.weights Tryd.prog 65, n ≤ reachBytes) h (fun D sp hx => by
    refine ⟨?_, fun i hi n hn => ?_⟩
    · have := hz ((len + sp.length) * 40) (by rw [hx]; simp [DataW.weights, Tryd.underlying22, hb])
      unfold reachBytes at this
      omega
    · refine hz n ?_
      rw [hx]
      unfold DataW.weights
      rw [Tryd.underlying22]
      exact List.mem_cons_of_mem _ (List.mem_append_left _ (wAll_mem (List.mem_map.2 ⟨i, List.mem_range.2 hi, rfl⟩) n hn)))
  refine ⟨l, h1, h2, fun r hr => ⟨(h3 r hr).1, ?_⟩⟩
  obtain ⟨_, d0, d1, hk⟩ := h3 r hr
  have := hk r.t.size (by
    unfold DataW.weights
    rw [Tryd.underlying65]
    exact DataW.weights_mem_each (j := 2) (t := 9) (d := .lit (.string r.t.data.toList)) rfl rfl _ (by simp [DataW.weights]))
  unfold reachBytes at this
  show _ ≤ _
  omega
end Go.Proofs.YtffbkgmagjkogaaDoor
