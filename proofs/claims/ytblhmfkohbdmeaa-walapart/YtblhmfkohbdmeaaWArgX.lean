/-
  A script that came in, opened.
-/
import Derived.Test.YtblhmfkohbdmeaaWArgs
import Derived.Test.YtblhmfkohbdmeaaWLawR
import Derived.SizedLaws
namespace Go.Proofs.Ytblhmfkohbdmeaa
open Go.RowKit Go.Maps Go.ChangeShapes Go.WideShapes

theorem open_ints {H : Type} {enc : TypeId × Value → H} {w : World} {base : Nat} {spare : Nat → Bool} {held : Bool} {fuel : Nat} {v : Value} {x : DataW H × List MemPlace}
    (h : DataW.trod enc Try.prog w base spare held fuel 35 [v] = some x) :
    ∃ l : List Int, RdI w v l ∧ ∀ c ∈ l, -9223372036854775808 ≤ c ∧ c ≤ 9223372036854775807 := by
  rcases Go.Deep.open_slice1 Try.underlying35 (by kernel_rfl) h with ⟨hcs, _⟩ | ⟨a, len, c, m, n, V, D, Pl, hcs, _, hl, hmx, hmm, _, hall⟩
  · simp at hcs
    subst hcs
    exact ⟨[], ⟨none, 0, rfl, fun i o h => by simp at h⟩, by simp⟩
  · simp at hcs
    subst hcs
    have hlm : len ≤ m := by rw [hmm]; split <;> omega
    obtain ⟨b, off, spot⟩ := a
    have hsp0 : 0 < len → spot = none := fun h => by
      have := World.cell?_spot (hall 0 (by omega)).1
      simpa [Addr.add] using this
    have each : ∀ i, i < len → ∃ o : Int, (-9223372036854775808 ≤ o ∧ o ≤ 9223372036854775807) ∧ spot = none ∧ b < w.heap.size ∧ w.cell? ⟨b, off + i, none⟩ = some (.int .i64 o) := by
      intro i hi
      obtain ⟨h1, h2⟩ := hall i (by omega)
      obtain ⟨a0, e0, _, w0⟩ := DataW.trod_int Try.underlying3 h2
      simp at e0
      rw [e0] at h1
      have hsp : spot = none := hsp0 (by omega)
      subst hsp
      have hadd : ∀ k, (⟨b, off, none⟩ : Addr).add k = ⟨b, off + k, none⟩ := fun k => by unfold Addr.add; split <;> simp_all
      rw [hadd] at h1
      exact ⟨a0, wf_bd w0, rfl, World.block_lt_of_cell? w _ h1, h1⟩
    obtain ⟨f, hf⟩ := @Go.Deep.choose_lt Int ⟨0⟩ _ _ each
    have hlen : ((List.range len).map f).length = len := by simp
    refine ⟨(List.range len).map f, ⟨some ⟨b, off, spot⟩, c, by rw [hlen], fun i o ho => ?_⟩, fun o ho => ?_⟩
    · have hi : i < len := by
        have := (List.getElem?_eq_some_iff.1 ho).1
        simpa using this
      simp [hi] at ho
      subst ho
      obtain ⟨_, rfl, r⟩ := hf i hi
      exact ⟨b, off, rfl, r⟩
    · obtain ⟨i, hi, rfl⟩ := List.mem_map.1 ho
      exact (hf i (List.mem_range.1 hi)).1

theorem wAll_mem {H : Type} {P : Program} {e : TypeId} : ∀ {l : List (DataW H)} {d : DataW H}, d ∈ l → ∀ n ∈ d.weights P e, n ∈ DataW.weightsAll P e l
  | x :: r, d, hd, n, hn => by
    simp only [DataW.weightsAll, List.mem_append]
    rcases List.mem_cons.1 hd with rfl | h
    · exact Or.inl hn
    · exact Or.inr (wAll_mem h n hn)

theorem wr_sized {H : Type} {enc : TypeId × Value → H} {w : World} {base : Nat} {spare : Nat → Bool} {held : Bool} {fuel : Nat} {ao : Option Addr} {len cap : Nat} {x : DataW H × List MemPlace}
    (h : DataW.trod enc Try.prog w base spare held fuel 48 [.slice ao len cap] = some x) (hz : ∀ n ∈ x.1.weights Try.prog 48, n ≤ reachBytes) : len ≤ 5864062014800 := by
  rcases Go.Deep.open_slice Try.underlying48 h with ⟨hcs, _⟩ | ⟨a, l, c, m, n, D, Pl, hcs, _, hl, hmx, hmm, hx, hall⟩
  · simp at hcs
    omega
  · simp at hcs
    obtain ⟨rfl, rfl, rfl⟩ := hcs
    subst hx
    have hb : Try.prog.bytesOf 57 = 24 := by kernel_rfl
    have := hz ((len + (m - len)) * 24) (by simp [DataW.weights, Try.underlying48, hb])
    unfold reachBytes at this
    omega

theorem open_wrz {H : Type} {enc : TypeId × Value → H} {w : World} {spare : Nat → Bool} {held : Bool} {fuel : Nat} {v : Value} {x : DataW H × List MemPlace}
    (h : DataW.trod enc Try.prog w 0 spare held fuel 48 [v] = some x) (hz : ∀ n ∈ x.1.weights Try.prog 48, n ≤ reachBytes) :
    ∃ l : List WrD, RdWr w v l ∧ l.length ≤ 5864062014800 ∧ ∀ o ∈ l, o.Ok := by
  obtain ⟨ao, len, cap, rfl⟩ : ∃ ao len cap, v = .slice ao len cap := by
    rcases Go.Deep.open_slice Try.underlying48 h with ⟨hcs, _⟩ | ⟨a, l, c, m, n, D, Pl, hcs, _⟩
    · simp at hcs
      exact ⟨_, _, _, hcs⟩
    · simp at hcs
      exact ⟨_, _, _, hcs⟩
  obtain ⟨l, rd, _, ok⟩ := open_wrs (ao := ao) (len := len) (cap := cap) h
  have hl := wr_sized h hz
  obtain ⟨_, _, e, _⟩ := id rd
  cases e
  exact ⟨l, rd, hl, ok⟩

set_option maxRecDepth 20000 in
/-- One call of a script, out of its cells. -/
theorem open_opx {H : Type} {enc : TypeId × Value → H} {w : World} {spare : Nat → Bool} {held : Bool} {n : Nat} {cs : List Value} {x : DataW H × List MemPlace} (h : DataW.trod enc Try.prog w 0 spare held n 87 cs = some x) (hz : ∀ n ∈ x.1.weights Try.prog 87, n ≤ reachBytes) :
    ∃ o : OpX, cs = [.int .i64 o.d, .int .i64 o.k, o.vl, .string o.x, o.vc] ∧ o.Ok w := by
  obtain ⟨xs, m, _, hx, hl, _, hf⟩ := DataW.trod_struct Try.underlying87 h
  have h4 : Try.prog.cellsOf 87 = 5 := by kernel_rfl
  have c3 : Try.prog.cellsOf 3 = 1 := by kernel_rfl
  have c9 : Try.prog.cellsOf 9 = 1 := by kernel_rfl
  have c5 : Try.prog.cellsOf 48 = 1 := by kernel_rfl
  have c6 : Try.prog.cellsOf 35 = 1 := by kernel_rfl
  rw [h4] at hl
  have hxl : xs.length = 5 := by assumption
  match xs, hxl, cs, hl with
  | [y0, y1, y2, y3, y4], _, [v0, v1, v2, v3, v4], _ =>
    have g0 := hf 0 _ rfl
    have g1 := hf 1 _ rfl
    have g2 := hf 2 _ rfl
    have g3 := hf 3 _ rfl
    have g4 := hf 4 _ rfl
    simp [c3, c9, c5, c6] at g0 g1 g2 g3 g4
    have z2 : ∀ n ∈ y2.1.weights Try.prog 48, n ≤ reachBytes := fun n hn => hz n (by
      rw [hx]
      simp only [List.map]
      unfold DataW.weights
      rw [Try.underlying87]
      exact DataW.weights_mem_each (j := 2) (t := 48) (d := y2.1) rfl rfl n hn)
    obtain ⟨a0, e0, _, w0⟩ := DataW.trod_int Try.underlying3 g0
    obtain ⟨a1, e1, _, w1⟩ := DataW.trod_int Try.underlying3 g1
    obtain ⟨l2, rd2, ll2, ok2⟩ := open_wrz g2 z2
    obtain ⟨a3, e3, _, w3⟩ := DataW.trod_string Try.underlying9 g3
    obtain ⟨l4, rd4, b4⟩ := open_ints g4
    simp at e0 e1 e3
    refine ⟨⟨a0, a1, v2, l2, a3, v4, l4⟩, by rw [e0, e1, e3], ⟨(wf_bd w1).1, (wf_bd w1).2, w3, ll2, ok2, rd2, rd4, b4⟩⟩

set_option maxRecDepth 20000 in
/-- A script, out of its value. -/
theorem open_opxs {H : Type} {enc : TypeId × Value → H} {w : World} {spare : Nat → Bool} {held : Bool} {fuel : Nat} {ao : Option Addr} {len cap : Nat} {x : DataW H × List MemPlace}
    (h : DataW.trod enc Try.prog w 0 spare held fuel 42 (Value.slice ao len cap).cells.toList = some x) (hz : ∀ n ∈ x.1.weights Try.prog 42, n ≤ reachBytes) :
    ∃ l : List OpX, RdX w (.slice ao len cap) l ∧ l.length ≤ 1900000000000 ∧ ∀ o ∈ l, o.Ok w := by
  rcases Go.Deep.open_slice Try.underlying42 h with ⟨hcs, _⟩ | ⟨a, l, c, m, n, D, Pl, hcs, _, hl, hmx, hmm, hx, hall⟩
  · simp [Value.cells] at hcs
    obtain ⟨rfl, rfl, rfl⟩ := hcs
    exact ⟨[], ⟨none, 0, rfl, fun i o h => by simp at h⟩, Nat.zero_le _, by simp⟩
  · simp [Value.cells] at hcs
    obtain ⟨rfl, rfl, rfl⟩ := hcs
    have hlm : len ≤ m := by rw [hmm]; split <;> omega
    have h4 : Try.prog.cellsOf 87 = 5 := by kernel_rfl
    have hb : Try.prog.bytesOf 87 = 80 := by kernel_rfl
    have hln : len ≤ 1900000000000 := by
      have := hz ((len + (m - len)) * 80) (by rw [hx]; simp [DataW.weights, Try.underlying42, hb])
      unfold reachBytes at this
      omega
    have hzD : ∀ i, i < len → ∀ n ∈ (D i).weights Try.prog 87, n ≤ reachBytes := fun i hi n hn => hz n (by
      rw [hx]
      unfold DataW.weights
      rw [Try.underlying42]
      exact List.mem_cons_of_mem _ (List.mem_append_left _ (wAll_mem (List.mem_map.2 ⟨i, List.mem_range.2 hi, rfl⟩) n hn)))
    rw [h4] at hall
    obtain ⟨b, off, spot⟩ := a
    have hsp : ∀ i, i < len → spot = none := by
      intro i hi
      obtain ⟨cs', h1, h2⟩ := hall 0 (by omega)
      obtain ⟨o, rfl, ho⟩ := open_opx h2 (hzD 0 (by omega))
      obtain ⟨_, _, hcell⟩ := World.cells?_some h1
      have e0 := hcell 0 (by omega)
      simp at e0
      have := World.cell?_spot e0
      simpa [Addr.add] using this
    have each : ∀ i, i < len → ∃ o : OpX, o.Ok w ∧ spot = none ∧ b < w.heap.size ∧ w.cell? ⟨b, off + i * 5, none⟩ = some (.int .i64 o.d) ∧ w.cell? ⟨b, off + i * 5 + 1, none⟩ = some (.int .i64 o.k) ∧ w.cell? ⟨b, off + i * 5 + 2, none⟩ = some o.vl ∧ w.cell? ⟨b, off + i * 5 + 3, none⟩ = some (.string o.x) ∧ w.cell? ⟨b, off + i * 5 + 4, none⟩ = some o.vc := by
      intro i hi
      obtain ⟨cs', h1, h2⟩ := hall i (by omega)
      obtain ⟨o, rfl, ho⟩ := open_opx h2 (hzD i hi)
      obtain ⟨_, _, hcell⟩ := World.cells?_some h1
      have e0 := hcell 0 (by omega)
      have e1 := hcell 1 (by omega)
      have e2 := hcell 2 (by omega)
      have e3 := hcell 3 (by omega)
      have e4 := hcell 4 (by omega)
      rw [Go.Deep.add_add] at e0 e1 e2 e3 e4
      simp at e0 e1 e2 e3 e4
      obtain rfl := hsp i hi
      have hadd : ∀ k, (⟨b, off, none⟩ : Addr).add k = ⟨b, off + k, none⟩ := fun k => by unfold Addr.add; split <;> simp_all
      rw [hadd] at e0 e1 e2 e3 e4
      exact ⟨o, ho, rfl, World.block_lt_of_cell? w _ e0, e0, by rw [Nat.add_assoc]; exact e1, by rw [Nat.add_assoc]; exact e2, by rw [Nat.add_assoc]; exact e3, by rw [Nat.add_assoc]; exact e4⟩
    obtain ⟨f, hf⟩ := @Go.Deep.choose_lt OpX ⟨⟨0, 0, .slice none 0 0, [], ⟨#[]⟩, .slice none 0 0, []⟩⟩ _ _ each
    have hlen : ((List.range len).map f).length = len := by simp
    refine ⟨(List.range len).map f, ⟨some ⟨b, off, spot⟩, cap, by rw [hlen], fun i o ho => ?_⟩, by rw [hlen]; exact hln, fun o ho => ?_⟩
    · have hi : i < len := by
        have := (List.getElem?_eq_some_iff.1 ho).1
        simpa using this
      simp [hi] at ho
      subst ho
      obtain ⟨_, rfl, r⟩ := hf i hi
      exact ⟨b, off, rfl, r⟩
    · obtain ⟨i, hi, rfl⟩ := List.mem_map.1 ho
      exact (hf i (List.mem_range.1 hi)).1
end Go.Proofs.Ytblhmfkohbdmeaa
