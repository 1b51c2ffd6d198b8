/-
  Deltas that came in, opened.
-/
import Derived.Test.YtjimolafoihnpaaDoorDlP
import Derived.Deep.Slices
import Derived.SizedLaws
namespace Go.Proofs.YtjimolafoihnpaaDoor
open Go.ChangeShapes Go.WideShapes Go.ChangeAt Go.RowKit Go.PlainAid

theorem wf_bd {k : Int} (h : (Lit.int .i64 k).wf = true) : -9223372036854775808 ≤ k ∧ k ≤ 9223372036854775807 := by
  have e0 : IntKind.i64.min = -9223372036854775808 := by decide
  have e1 : IntKind.i64.max = 9223372036854775807 := by decide
  simpa [Lit.wf, e0, e1] using h

theorem wAll_mem {H : Type} {P : Program} {e : TypeId} : ∀ {l : List (DataW H)} {d : DataW H}, d ∈ l → ∀ n ∈ d.weights P e, n ∈ DataW.weightsAll P e l
  | x :: r, d, hd, n, hn => by
    simp only [DataW.weightsAll, List.mem_append]
    rcases List.mem_cons.1 hd with rfl | h
    · exact Or.inl hn
    · exact Or.inr (wAll_mem h n hn)

set_option maxRecDepth 20000 in
/-- One operation, out of its cells. -/
theorem open_dl {H : Type} {enc : TypeId × Value → H} {w : World} {spare : Nat → Bool} {held : Bool} {n : Nat} {cs : List Value} {x : DataW H × List MemPlace} (h : DataW.trod enc Tryd.prog w 0 spare held n 106 cs = some x) (hz : ∀ n ∈ x.1.weights Tryd.prog 106, n ≤ reachBytes) :
    ∃ o : OpD, cs = [.int .i64 o.k, .int .i64 o.n, .string o.t] ∧ o.In ∧ o.Ok := by
  obtain ⟨xs, m, _, hx, hl, _, hf⟩ := DataW.trod_struct Tryd.underlying106 h
  have h4 : Tryd.prog.cellsOf 106 = 3 := by kernel_rfl
  have c3 : Tryd.prog.cellsOf 3 = 1 := by kernel_rfl
  have c9 : Tryd.prog.cellsOf 9 = 1 := by kernel_rfl
  rw [h4] at hl
  have hxl : xs.length = 3 := by assumption
  match xs, hxl, cs, hl with
  | [y0, y1, y2], _, [v0, v1, v2], _ =>
    have g0 := hf 0 _ rfl
    have g1 := hf 1 _ rfl
    have g2 := hf 2 _ rfl
    simp [c3, c9] at g0 g1 g2
    have z2 : ∀ n ∈ y2.1.weights Tryd.prog 9, n ≤ reachBytes := fun n hn => hz n (by
      rw [hx]
      simp only [List.map]
      unfold DataW.weights
      rw [Tryd.underlying106]
      exact DataW.weights_mem_each (j := 2) (t := 9) (d := y2.1) rfl rfl n hn)
    obtain ⟨a0, e0, _, w0⟩ := DataW.trod_int Tryd.underlying3 g0
    obtain ⟨a1, e1, _, w1⟩ := DataW.trod_int Tryd.underlying3 g1
    obtain ⟨a2, e2, f2, w2⟩ := DataW.trod_string Tryd.underlying9 g2
    simp at e0 e1 e2
    have hb : a2.size ≤ 140737488355328 := by
      have := z2 a2.size (by rw [f2]; simp [DataW.weights])
      unfold reachBytes at this
      omega
    exact ⟨⟨a0, a1, a2⟩, by rw [e0, e1, e2], hb, ⟨(wf_bd w0).1, (wf_bd w0).2, (wf_bd w1).1, (wf_bd w1).2, w2⟩⟩

set_option maxRecDepth 20000 in
/-- A delta, out of its value. -/
theorem open_dlz {H : Type} {enc : TypeId × Value → H} {w : World} {spare : Nat → Bool} {held : Bool} {fuel : Nat} {ao : Option Addr} {len cap : Nat} {x : DataW H × List MemPlace}
    (h : DataW.trod enc Tryd.prog w 0 spare held fuel 33 (Value.slice ao len cap).cells.toList = some x) (hz : ∀ n ∈ x.1.weights Tryd.prog 33, n ≤ reachBytes) :
    ∃ l : List OpD, RdD w (.slice ao len cap) l ∧ l.length ≤ 4398046511104 ∧ ∀ o ∈ l, o.In ∧ o.Ok := by
  rcases Go.Deep.open_slice Tryd.underlying33 h with ⟨hcs, _⟩ | ⟨a, l, c, m, n, D, Pl, hcs, _, hl, hmx, hmm, hx, hall⟩
  · simp [Value.cells] at hcs
    obtain ⟨rfl, rfl, rfl⟩ := hcs
    exact ⟨[], RdD.nil w, Nat.zero_le _, by simp⟩
  · simp [Value.cells] at hcs
    obtain ⟨rfl, rfl, rfl⟩ := hcs
    have hlm : len ≤ m := by rw [hmm]; split <;> omega
    have h4 : Tryd.prog.cellsOf 106 = 3 := by kernel_rfl
    have hb : Tryd.prog.bytesOf 106 = 32 := by kernel_rfl
    have hln : len ≤ 4398046511104 := by
      have := hz ((len + (m - len)) * 32) (by rw [hx]; simp [DataW.weights, Tryd.underlying33, hb])
      unfold reachBytes at this
      omega
    have hzD : ∀ i, i < len → ∀ n ∈ (D i).weights Tryd.prog 106, n ≤ reachBytes := fun i hi n hn => hz n (by
      rw [hx]
      unfold DataW.weights
      rw [Tryd.underlying33]
      exact List.mem_cons_of_mem _ (List.mem_append_left _ (wAll_mem (List.mem_map.2 ⟨i, List.mem_range.2 hi, rfl⟩) n hn)))
    rw [h4] at hall
    obtain ⟨b, off, spot⟩ := a
    have hsp : ∀ i, i < len → spot = none := by
      intro i hi
      obtain ⟨cs', h1, h2⟩ := hall 0 (by omega)
      obtain ⟨o, rfl, ho⟩ := open_dl h2 (hzD 0 (by omega))
      obtain ⟨_, _, hcell⟩ := World.cells?_some h1
      have e0 := hcell 0 (by omega)
      simp at e0
      have := World.cell?_spot e0
      simpa [Addr.add] using this
    have each : ∀ i, i < len → ∃ o : OpD, (o.In ∧ o.Ok) ∧ spot = none ∧ b < w.heap.size ∧ w.cell? ⟨b, off + i * 3, none⟩ = some (.int .i64 o.k) ∧ w.cell? ⟨b, off + i * 3 + 1, none⟩ = some (.int .i64 o.n) ∧ w.cell? ⟨b, off + i * 3 + 2, none⟩ = some (.string o.t) := by
      intro i hi
      obtain ⟨cs', h1, h2⟩ := hall i (by omega)
      obtain ⟨o, rfl, ho⟩ := open_dl h2 (hzD i hi)
      obtain ⟨_, _, hcell⟩ := World.cells?_some h1
      have e0 := hcell 0 (by omega)
      have e1 := hcell 1 (by omega)
      have e2 := hcell 2 (by omega)
      rw [Go.Deep.add_add] at e0 e1 e2
      simp at e0 e1 e2
      obtain rfl := hsp i hi
      have hadd : ∀ k, (⟨b, off, none⟩ : Addr).add k = ⟨b, off + k, none⟩ := fun k => by unfold Addr.add; split <;> simp_all
      rw [hadd] at e0 e1 e2
      exact ⟨o, ho, rfl, World.block_lt_of_cell? w _ e0, e0, by rw [Nat.add_assoc]; exact e1, by rw [Nat.add_assoc]; exact e2⟩
    obtain ⟨f, hf⟩ := @Go.Deep.choose_lt OpD ⟨⟨0, 0, ⟨#[]⟩⟩⟩ _ _ each
    have hlen : ((List.range len).map f).length = len := by simp
    refine ⟨(List.range len).map f, ⟨some ⟨b, off, spot⟩, cap, by rw [hlen], ⟨by rw [hlen]; omega, fun h => by cases h⟩, fun i o ho => ?_⟩, by rw [hlen]; omega, fun o ho => ?_⟩
    · have hi : i < len := by
        have := (List.getElem?_eq_some_iff.1 ho).1
        simpa using this
      simp [hi] at ho
      subst ho
      obtain ⟨_, rfl, r⟩ := hf i hi
      exact ⟨b, off, rfl, r⟩
    · obtain ⟨i, hi, rfl⟩ := List.mem_map.1 ho
      exact (hf i (List.mem_range.1 hi)).1

/-! ### live -/

theorem lit_rdd (ds : List OpD) (u : World) : RdD (u.alloc (.cells (ocs ds).toArray 106)) (.slice (some ⟨u.heap.size, 0, none⟩) ds.length ds.length) ds := by
  refine ⟨_, _, rfl, ⟨Nat.le_refl _, fun h => by cases h⟩, fun i o ho => ⟨u.heap.size, 0, rfl, by simp, ?_⟩⟩
  obtain ⟨c0, c1, c2⟩ := ocs_at ds i o ho
  have g0 := many_new u (ocs ds) 106 _ _ c0
  have g1 := many_new u (ocs ds) 106 _ _ c1
  have g2 := many_new u (ocs ds) 106 _ _ c2
  rw [addr_add] at g0 g1 g2
  exact ⟨g0, by rw [Nat.add_assoc]; exact g1, by rw [Nat.add_assoc]; exact g2⟩
theorem grow1 (w : World) (o : Obj) : Below w.heap.size w (w.alloc o) := (Below.refl _ _).alloc (Nat.le_refl _) _

def liveD : List OpD := [⟨3, 1, ⟨#[]⟩⟩, ⟨2, 0, ⟨#[120]⟩⟩, ⟨3, 1, ⟨#[]⟩⟩, ⟨1, 1, ⟨#[]⟩⟩, ⟨1, 2, ⟨#[]⟩⟩]
def liveN : List OpD := [⟨2, 0, ⟨#[120]⟩⟩, ⟨3, 2, ⟨#[]⟩⟩, ⟨1, 3, ⟨#[]⟩⟩]
theorem live_chk : chk liveD = 0 := by decide
theorem live_st : stR liveD = [.rem 1, .ins ⟨#[120]⟩, .rem 1, .keep 1, .keep 2] := by rw [stR, if_pos live_chk]; rfl
theorem live_jn : jn (stR liveD) = liveN := by rw [live_st]; rfl
theorem live_ap : apR ⟨#[97, 98, 99, 100, 101]⟩ liveD = (⟨#[120, 99, 100, 101]⟩, 0) := by
  have h5 : cpl ⟨#[97, 98, 99, 100, 101]⟩ = 5 := by decide
  rw [apR, h5, if_neg (by decide), if_neg (fun h => h live_chk), live_st, if_neg (by decide)]
  rfl
theorem live_in : ∀ o ∈ liveD, o.In := by
  intro o ho
  simp only [liveD, List.mem_cons, List.not_mem_nil, or_false] at ho
  rcases ho with rfl | rfl | rfl | rfl | rfl <;> (show ByteArray.size _ ≤ _; decide)

end Go.Proofs.YtjimolafoihnpaaDoor
