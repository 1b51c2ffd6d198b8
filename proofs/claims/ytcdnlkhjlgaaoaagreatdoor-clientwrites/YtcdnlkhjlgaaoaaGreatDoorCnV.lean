/-
  The laid tables; a world that holds them. No walk.
-/
import Derived.Test.YtcdnlkhjlgaaoaaGreatDoorDiV
import Derived.Test.YtcdnlkhjlgaaoaaGreatDoorLayV
import Derived.Shelf.Unicode.ValidAny
import Derived.Test.YtcdnlkhjlgaaoaaGreatDoorCards
import Derived.Test.YtcdnlkhjlgaaoaaGreatDoorTie
import Derived.Lib.LaidIn
import Derived.Lib.LaidU8T
import Derived.Deep.DeepHandedRow
import Derived.Deep.DeepWitnessRowRef
import Derived.ProofKit
import Derived.SizedLaws
import Derived.Test.YtcdnlkhjlgaaoaaGreatDoorCmB
import Derived.Test.YtcdnlkhjlgaaoaaGreatDoorClR
import Derived.Test.YtcdnlkhjlgaaoaaGreatDoorDArU
import Derived.ChangeOld
namespace Go.Proofs.YtcdnlkhjlgaaoaaGreatDoor
open Go.ChangeShapes Go.WideShapes Go.ChangeAt Go.RowKit Go.PlainAid Go.Lib Go.Shelf

def Tabs (w : World) : Prop := Lib.Utf8Tabs (Tryz.laysValid_ren.g 3) (Tryz.laysValid_ren.g 4) w
theorem vs_of {w : World} (h : Tabs w) : VS w := fun t W ht hb => Any.utf8_ValidString Tryz.laysValid t W (by omega) (Utf8Tabs_below h hb)

theorem first_eq : Rows.laid_unicode_utf8_first = Lib.firstData := by kernel_rfl
theorem accept_eq : (Rows.laid_unicode_utf8_acceptRanges : DataW Unit) = Lib.acceptData := by kernel_rfl
theorem tabs_of {W : World} (hL : laidMetH Tryz.prog [("unicode/utf8.acceptRanges", Rows.laid_unicode_utf8_acceptRanges), ("unicode/utf8.first", Rows.laid_unicode_utf8_first)] W) : Tabs W := by
  rw [first_eq, accept_eq] at hL
  exact utf8Tabs_of_readsT (U8Types.of196 Tryz.laysValid) ⟨by kernel_rfl, by kernel_rfl, by kernel_rfl, by kernel_rfl, by kernel_rfl, by kernel_rfl, by kernel_rfl⟩ (Lib.laidMet.reads hL (.tail _ (.head _))) (Lib.laidMet.reads hL (.head _))

/-- A world for the witness: the settled one, the two tables holding what is laid. -/
noncomputable def laidWorld (os : Os) : World :=
  let w0 := World.holding Tryz.prog os ⟨#[], #[], []⟩
  let put (h : Array Obj) (g : Nat) (cs : Array Value) : Array Obj := h.modify g fun
    | .cells _ t frozen => .cells cs t frozen
    | o => o
  let h1 := put w0.heap (Tryz.laysValid_ren.g 3) (Lib.firstTab.map fun z => Value.int .u8 z).toArray
  let h2 := put h1 (Tryz.laysValid_ren.g 4) ((List.range 16).flatMap fun i => [Value.int .u8 (Lib.accLo i), Value.int .u8 (Lib.accHi i)]).toArray
  { w0 with heap := h2 }
end Go.Proofs.YtcdnlkhjlgaaoaaGreatDoor

/-
  The reference: Begin. What comes in: a beginning.
-/
namespace Go.Proofs.YtcdnlkhjlgaaoaaGreatDoor
open Go.ChangeShapes Go.WideShapes Go.ChangeAt Go.RowKit Go.PlainAid

theorem agg_val {v : Value} {x y : Value} {l : List Value} (h : v.cells.toList = x :: y :: l) : v = .agg (x :: y :: l).toArray := by
  cases v with
  | agg a =>
    simp only [Value.cells] at h
    congr 1
    apply Array.ext'
    rw [h]
  | _ => simp [Value.cells] at h
theorem beg_p (c b r : Int) (t : ByteArray) : (begE c b r t).1.p = [] := by unfold begE; split <;> rfl
theorem open_dlw {H : Type} {enc : TypeId × Value → H} {w : World} {spare : Nat → Bool} {held : Bool} {fuel : Nat} {v : Value} {x : DataW H × List MemPlace}
    (h : DataW.trod enc Tryz.prog w 0 spare held fuel 39 [v] = some x) (hz : Rows.uptoBulk x.1 ≤ 1048576) :
    ∃ l : List OpD, RdD w v l ∧ l.length ≤ 1048576 ∧ ∀ o ∈ l, o.Sm := by
  obtain ⟨ao, len, cap, rfl⟩ : ∃ ao len cap, v = .slice ao len cap := by
    rcases Go.Deep.open_slice Tryz.underlying39 h with ⟨hcs, _⟩ | ⟨a, l, c, m, n, D, Pl, hcs, _⟩
    · simp at hcs
      exact ⟨_, _, _, hcs⟩
    · simp at hcs
      exact ⟨_, _, _, hcs⟩
  exact open_dlu (ao := ao) (len := len) (cap := cap) h hz
set_option maxRecDepth 20000 in
theorem open_edt {H : Type} {enc : TypeId × Value → H} {w : World} {spare : Nat → Bool} {held : Bool} {n : Nat} {cs : List Value} {x : DataW H × List MemPlace} (h : DataW.trod enc Tryz.prog w 0 spare held n 41 cs = some x) (hz : Rows.uptoBulk x.1 ≤ 1048576) :
    ∃ (e : EdW) (u : Value), cs = [.int .i64 e.q, u] ∧ RdD w u e.d ∧ (e.Fit ∧ (∀ o ∈ e.d, o.Sm) ∧ e.d.length ≤ 1048576) ∧ 2 ≤ Rows.uptoBulk x.1 := by
  obtain ⟨xs, m, _, hx, hl, _, hf⟩ := DataW.trod_struct Tryz.underlying41 h
  have h4 : Tryz.prog.cellsOf 41 = 2 := by kernel_rfl
  have c3 : Tryz.prog.cellsOf 3 = 1 := by kernel_rfl
  have c9 : Tryz.prog.cellsOf 39 = 1 := by kernel_rfl
  rw [h4] at hl
  have hxl : xs.length = 2 := by assumption
  match xs, hxl, cs, hl with
  | [y0, y1], _, [v0, v1], _ =>
    have g0 := hf 0 _ rfl
    have g1 := hf 1 _ rfl
    simp [c3, c9] at g0 g1
    obtain ⟨a0, e0, -, w0⟩ := DataW.trod_int Tryz.underlying3 g0
    simp at e0
    have z1 : Rows.uptoBulk y1.1 ≤ 1048576 := by
      rw [hx] at hz
      simp only [List.map, Rows.uptoBulk, Rows.uptoBulkAll] at hz
      omega
    obtain ⟨A, rA, mA, oA⟩ := open_dlw g1 z1
    have hw := wf_bd w0
    have hb2 : 2 ≤ Rows.uptoBulk x.1 := by
      rw [hx]
      simp only [List.map, Rows.uptoBulk, Rows.uptoBulkAll]
      have := bulk_pos y0.1
      have := bulk_pos y1.1
      omega
    exact ⟨⟨a0, A⟩, v1, by rw [e0], rA, ⟨⟨hw.1, hw.2, by simp only; unfold maxLen; omega, fun o ho => sm_in (oA o ho)⟩, oA, mA⟩, hb2⟩
theorem bulk_len2 {H : Type} : ∀ (l : List (DataW H)), (∀ d ∈ l, 2 ≤ Rows.uptoBulk d) → 2 * l.length ≤ Rows.uptoBulkAll l
  | [], _ => by simp
  | x :: r, h => by
    have := h x (by simp)
    have := bulk_len2 r (fun d hd => h d (by simp [hd]))
    simp only [Rows.uptoBulkAll, List.length_cons]; omega
set_option maxRecDepth 20000 in
theorem open_edl {H : Type} {enc : TypeId × Value → H} {w : World} {spare : Nat → Bool} {held : Bool} {fuel : Nat} {v : Value} {x : DataW H × List MemPlace}
    (h : DataW.trod enc Tryz.prog w 0 spare held fuel 22 [v] = some x) (hz : Rows.uptoBulk x.1 ≤ 1048576) :
    ∃ l : List EdW, RdEd w v l ∧ l.length ≤ 524288 ∧ ∀ e ∈ l, e.Fit ∧ (∀ o ∈ e.d, o.Sm) ∧ e.d.length ≤ 1048576 := by
  rcases Go.Deep.open_slice Tryz.underlying22 h with ⟨hcs, _⟩ | ⟨a, len, cap, m, n, D, Pl, hcs, _, hl, hmx, hmm, hx, hall⟩
  · simp at hcs
    subst hcs
    exact ⟨[], RdEd.nil w, Nat.zero_le _, by simp⟩
  · simp at hcs
    subst hcs
    have hlm : len ≤ m := by rw [hmm]; split <;> omega
    have h4 : Tryz.prog.cellsOf 41 = 2 := by kernel_rfl
    rw [hx] at hz
    simp only [Rows.uptoBulk] at hz
    have hzD : ∀ i, i < len → Rows.uptoBulk (D i) ≤ 1048576 := fun i hi => by
      have := bulk_mem (l := (List.range len).map D) (d := D i) (List.mem_map.2 ⟨i, List.mem_range.2 hi, rfl⟩)
      omega
    rw [h4] at hall
    have hln : len ≤ 524288 := by
      have := bulk_len2 ((List.range len).map D) (fun d hd => by
        obtain ⟨i, hi, rfl⟩ := List.mem_map.1 hd
        have hi := List.mem_range.1 hi
        obtain ⟨cs', h1, h2⟩ := hall i (by omega)
        obtain ⟨_, _, _, _, _, hb⟩ := open_edt h2 (hzD i hi)
        exact hb)
      simp only [List.length_map, List.length_range] at this
      omega
    obtain ⟨b, off, spot⟩ := a
    have hsp : ∀ i, i < len → spot = none := by
      intro i hi
      obtain ⟨cs', h1, h2⟩ := hall 0 (by omega)
      obtain ⟨o, u, rfl, ho⟩ := open_edt h2 (hzD 0 (by omega))
      obtain ⟨_, _, hcell⟩ := World.cells?_some h1
      have e0 := hcell 0 (by omega)
      simp at e0
      have := World.cell?_spot e0
      simpa [Addr.add] using this
    have each : ∀ i, i < len → ∃ e : EdW, (e.Fit ∧ (∀ o ∈ e.d, o.Sm) ∧ e.d.length ≤ 1048576) ∧ spot = none ∧ b < w.heap.size ∧ w.cell? ⟨b, off + i * 2, none⟩ = some (.int .i64 e.q) ∧ ∃ u, w.cell? ⟨b, off + i * 2 + 1, none⟩ = some u ∧ RdD w u e.d := by
      intro i hi
      obtain ⟨cs', h1, h2⟩ := hall i (by omega)
      obtain ⟨o, u, rfl, hr, ho, -⟩ := open_edt h2 (hzD i hi)
      obtain ⟨_, _, hcell⟩ := World.cells?_some h1
      have e0 := hcell 0 (by omega)
      have e1 := hcell 1 (by omega)
      rw [Go.Deep.add_add] at e0 e1
      simp at e0 e1
      obtain rfl := hsp i hi
      have hadd : ∀ k, (⟨b, off, none⟩ : Addr).add k = ⟨b, off + k, none⟩ := fun k => by unfold Addr.add; split <;> simp_all
      rw [hadd] at e0 e1
      exact ⟨o, ho, rfl, World.block_lt_of_cell? w _ e0, e0, u, by rw [Nat.add_assoc]; exact e1, hr⟩
    obtain ⟨f, hf⟩ := @Go.Deep.choose_lt EdW ⟨⟨0, []⟩⟩ _ _ each
    have hlen : ((List.range len).map f).length = len := by simp
    refine ⟨(List.range len).map f, ⟨some ⟨b, off, spot⟩, cap, by rw [hlen], ⟨by rw [hlen]; omega, fun h => by cases h⟩, fun i o ho => ?_⟩, by rw [hlen]; omega, fun o ho => ?_⟩
    · have hi : i < len := by
        have := (List.getElem?_eq_some_iff.1 ho).1
        simpa using this
      simp [hi] at ho
      subst ho
      obtain ⟨_, rfl, r1, r2, u, r3, r4⟩ := hf i hi
      exact ⟨b, off, u, rfl, r1, r2, r3, r4⟩
    · obtain ⟨i, hi, rfl⟩ := List.mem_map.1 ho
      exact (hf i (List.mem_range.1 hi)).1
set_option maxRecDepth 20000 in
/-- What came in, as an editor. -/
theorem open_edr {H : Type} {enc : TypeId × Value → H} {w : World} {spare : Nat → Bool} {held : Bool} {n : Nat} {cs : List Value} {x : DataW H × List MemPlace} (h : DataW.trod enc Tryz.prog w 0 spare held n 24 cs = some x) (hz : Rows.uptoBulk x.1 ≤ 1048576) :
    ∃ (E : EdD) (v : Value), cs = [.int .i64 E.c, .int .i64 E.b, .int .i64 E.r, .string E.t, .int .i64 E.s, v] ∧ RdEd w v E.p ∧ E.Fit ∧ E.t.size ≤ 1048576 ∧ E.p.length ≤ 524288 ∧ (∀ e ∈ E.p, ∀ o ∈ e.d, o.Sm) ∧ ∀ e ∈ E.p, e.d.length ≤ 1048576 := by
  obtain ⟨xs, m, _, hx, hl, _, hf⟩ := DataW.trod_struct Tryz.underlying24 h
  have h4 : Tryz.prog.cellsOf 24 = 6 := by kernel_rfl
  have c3 : Tryz.prog.cellsOf 3 = 1 := by kernel_rfl
  have c8 : Tryz.prog.cellsOf 9 = 1 := by kernel_rfl
  have c9 : Tryz.prog.cellsOf 22 = 1 := by kernel_rfl
  rw [h4] at hl
  have hxl : xs.length = 6 := by assumption
  match xs, hxl, cs, hl with
  | [y0, y1, y2, y3, y4, y5], _, [v0, v1, v2, v3, v4, v5], _ =>
    have g0 := hf 0 _ rfl
    have g1 := hf 1 _ rfl
    have g2 := hf 2 _ rfl
    have g3 := hf 3 _ rfl
    have g4 := hf 4 _ rfl
    have g5 := hf 5 _ rfl
    simp [c3, c8, c9] at g0 g1 g2 g3 g4 g5
    obtain ⟨a0, e0, -, -⟩ := DataW.trod_int Tryz.underlying3 g0
    obtain ⟨a1, e1, -, -⟩ := DataW.trod_int Tryz.underlying3 g1
    obtain ⟨a2, e2, -, -⟩ := DataW.trod_int Tryz.underlying3 g2
    obtain ⟨a3, e3, f3, -⟩ := DataW.trod_string Tryz.underlying9 g3
    obtain ⟨a4, e4, -, w4⟩ := DataW.trod_int Tryz.underlying3 g4
    simp at e0 e1 e2 e3 e4
    rw [hx] at hz
    simp only [List.map, Rows.uptoBulk, Rows.uptoBulkAll] at hz
    have z5 : Rows.uptoBulk y5.1 ≤ 1048576 := by omega
    have ht : a3.size ≤ 1048576 := by
      rw [f3] at hz
      simp only [Rows.uptoBulk] at hz
      rw [← data_len]
      omega
    obtain ⟨A, rA, mA, oA⟩ := open_edl g5 z5
    have hw := wf_bd w4
    exact ⟨⟨a0, a1, a2, a3, a4, A⟩, v5, by rw [e0, e1, e2, e3, e4], rA, ⟨hw.1, hw.2, by simp only; omega, by simp only; unfold maxLen; omega, fun e he => (oA e he).1⟩, ht, mA, fun e he => (oA e he).2.1, fun e he => (oA e he).2.2⟩
end Go.Proofs.YtcdnlkhjlgaaoaaGreatDoor
