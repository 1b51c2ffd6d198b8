/-
  A message that came in; messages that are the same; live.
-/
import Derived.Test.YtaopfdgebibpeaaWrI
import Derived.Test.YtaopfdgebibpeaaDArU
import Derived.BigQuiet
namespace Go.Proofs.Ytaopfdgebibpeaa
open Go.ChangeShapes Go.WideShapes Go.ChangeAt Go.RowKit Go.PlainAid

theorem ms_val {v u : Value} {m : MsD} (h : v.cells.toList = [.int .i64 m.k, .int .i64 m.b, .int .i64 m.c, .int .i64 m.s, .int .i64 m.r, .int .i64 m.y, u]) : v = .agg (m.fs u) := by
  cases v <;> simp [Value.cells] at h
  rename_i cs
  congr 1
  exact Array.toList_inj.1 (by simpa [MsD.fs] using h)
theorem open_dlv {H : Type} {enc : TypeId × Value → H} {w : World} {spare : Nat → Bool} {held : Bool} {fuel : Nat} {v : Value} {x : DataW H × List MemPlace}
    (h : DataW.trod enc Try.prog w 0 spare held fuel 32 [v] = some x) (hz : ∀ n ∈ x.1.weights Try.prog 32, n ≤ reachBytes) :
    ∃ l : List OpD, RdD w v l ∧ l.length ≤ 4398046511104 ∧ ∀ o ∈ l, o.In ∧ o.Ok := by
  obtain ⟨ao, len, cap, rfl⟩ : ∃ ao len cap, v = .slice ao len cap := by
    rcases Go.Deep.open_slice Try.underlying32 h with ⟨hcs, _⟩ | ⟨a, l, c, m, n, D, Pl, hcs, _⟩
    · simp at hcs
      exact ⟨_, _, _, hcs⟩
    · simp at hcs
      exact ⟨_, _, _, hcs⟩
  exact open_dlz (ao := ao) (len := len) (cap := cap) h hz
theorem open_dlw {H : Type} {enc : TypeId × Value → H} {w : World} {spare : Nat → Bool} {held : Bool} {fuel : Nat} {v : Value} {x : DataW H × List MemPlace}
    (h : DataW.trod enc Try.prog w 0 spare held fuel 32 [v] = some x) (hz : Rows.uptoBulk x.1 ≤ 1048576) :
    ∃ l : List OpD, RdD w v l ∧ l.length ≤ 1048576 ∧ ∀ o ∈ l, o.Sm := by
  obtain ⟨ao, len, cap, rfl⟩ : ∃ ao len cap, v = .slice ao len cap := by
    rcases Go.Deep.open_slice Try.underlying32 h with ⟨hcs, _⟩ | ⟨a, l, c, m, n, D, Pl, hcs, _⟩
    · simp at hcs
      exact ⟨_, _, _, hcs⟩
    · simp at hcs
      exact ⟨_, _, _, hcs⟩
  exact open_dlu (ao := ao) (len := len) (cap := cap) h hz

set_option maxRecDepth 20000 in
theorem open_msz {H : Type} {enc : TypeId × Value → H} {w : World} {spare : Nat → Bool} {held : Bool} {n : Nat} {cs : List Value} {x : DataW H × List MemPlace} (h : DataW.trod enc Try.prog w 0 spare held n 34 cs = some x) (hz : ∀ n ∈ x.1.weights Try.prog 34, n ≤ reachBytes) :
    ∃ (m : MsD) (v : Value), cs = [.int .i64 m.k, .int .i64 m.b, .int .i64 m.c, .int .i64 m.s, .int .i64 m.r, .int .i64 m.y, v] ∧ RdD w v m.d ∧ m.d.length ≤ 4398046511104 ∧ ∀ o ∈ m.d, o.In ∧ o.Ok := by
  obtain ⟨xs, m, _, hx, hl, _, hf⟩ := DataW.trod_struct Try.underlying34 h
  have h4 : Try.prog.cellsOf 34 = 7 := by kernel_rfl
  have c3 : Try.prog.cellsOf 3 = 1 := by kernel_rfl
  have c9 : Try.prog.cellsOf 32 = 1 := by kernel_rfl
  rw [h4] at hl
  have hxl : xs.length = 7 := by assumption
  match xs, hxl, cs, hl with
  | [y0, y1, y2, y3, y4, y5, y6], _, [v0, v1, v2, v3, v4, v5, v6], _ =>
    have g0 := hf 0 _ rfl
    have g1 := hf 1 _ rfl
    have g2 := hf 2 _ rfl
    have g3 := hf 3 _ rfl
    have g4 := hf 4 _ rfl
    have g5 := hf 5 _ rfl
    have g6 := hf 6 _ rfl
    simp [c3, c9] at g0 g1 g2 g3 g4 g5 g6
    obtain ⟨a0, e0, -, -⟩ := DataW.trod_int Try.underlying3 g0
    obtain ⟨a1, e1, -, -⟩ := DataW.trod_int Try.underlying3 g1
    obtain ⟨a2, e2, -, -⟩ := DataW.trod_int Try.underlying3 g2
    obtain ⟨a3, e3, -, -⟩ := DataW.trod_int Try.underlying3 g3
    obtain ⟨a4, e4, -, -⟩ := DataW.trod_int Try.underlying3 g4
    obtain ⟨a5, e5, -, -⟩ := DataW.trod_int Try.underlying3 g5
    simp at e0 e1 e2 e3 e4 e5
    have z6 : ∀ n ∈ y6.1.weights Try.prog 32, n ≤ reachBytes := fun n hn => hz n (by
      rw [hx]
      simp only [List.map]
      unfold DataW.weights
      rw [Try.underlying34]
      exact DataW.weights_mem_each (j := 6) (t := 32) (d := y6.1) rfl rfl n hn)
    obtain ⟨A, rA, mA, oA⟩ := open_dlv g6 z6
    exact ⟨⟨a0, a1, a2, a3, a4, a5, A⟩, v6, by rw [e0, e1, e2, e3, e4, e5], rA, mA, oA⟩

set_option maxRecDepth 20000 in
theorem open_msu {H : Type} {enc : TypeId × Value → H} {w : World} {spare : Nat → Bool} {held : Bool} {n : Nat} {cs : List Value} {x : DataW H × List MemPlace} (h : DataW.trod enc Try.prog w 0 spare held n 34 cs = some x) (hz : Rows.uptoBulk x.1 ≤ 1048576) :
    ∃ (m : MsD) (v : Value), cs = [.int .i64 m.k, .int .i64 m.b, .int .i64 m.c, .int .i64 m.s, .int .i64 m.r, .int .i64 m.y, v] ∧ RdD w v m.d ∧ m.d.length ≤ 1048576 ∧ ∀ o ∈ m.d, o.Sm := by
  obtain ⟨xs, m, _, hx, hl, _, hf⟩ := DataW.trod_struct Try.underlying34 h
  have h4 : Try.prog.cellsOf 34 = 7 := by kernel_rfl
  have c3 : Try.prog.cellsOf 3 = 1 := by kernel_rfl
  have c9 : Try.prog.cellsOf 32 = 1 := by kernel_rfl
  rw [h4] at hl
  have hxl : xs.length = 7 := by assumption
  match xs, hxl, cs, hl with
  | [y0, y1, y2, y3, y4, y5, y6], _, [v0, v1, v2, v3, v4, v5, v6], _ =>
    have g0 := hf 0 _ rfl
    have g1 := hf 1 _ rfl
    have g2 := hf 2 _ rfl
    have g3 := hf 3 _ rfl
    have g4 := hf 4 _ rfl
    have g5 := hf 5 _ rfl
    have g6 := hf 6 _ rfl
    simp [c3, c9] at g0 g1 g2 g3 g4 g5 g6
    obtain ⟨a0, e0, -, -⟩ := DataW.trod_int Try.underlying3 g0
    obtain ⟨a1, e1, -, -⟩ := DataW.trod_int Try.underlying3 g1
    obtain ⟨a2, e2, -, -⟩ := DataW.trod_int Try.underlying3 g2
    obtain ⟨a3, e3, -, -⟩ := DataW.trod_int Try.underlying3 g3
    obtain ⟨a4, e4, -, -⟩ := DataW.trod_int Try.underlying3 g4
    obtain ⟨a5, e5, -, -⟩ := DataW.trod_int Try.underlying3 g5
    simp at e0 e1 e2 e3 e4 e5
    have z6 : Rows.uptoBulk y6.1 ≤ 1048576 := by
      rw [hx] at hz
      simp only [List.map, Rows.uptoBulk, Rows.uptoBulkAll] at hz
      omega
    obtain ⟨A, rA, mA, oA⟩ := open_dlw g6 z6
    exact ⟨⟨a0, a1, a2, a3, a4, a5, A⟩, v6, by rw [e0, e1, e2, e3, e4, e5], rA, mA, oA⟩

set_option maxRecDepth 20000 in
set_option maxHeartbeats 1000000 in
theorem sameM_true (m : MsD) (u v : Value) (w : World) (hm : m.d.length ≤ maxLen) (hu : RdD w u m.d) (hv : RdD w v m.d) :
    Calls Try.prog 14 #[.agg (m.fs u), .agg (m.fs v)] w fun e w' => e = .returned (.bool true) ∧ Below w.heap.size w w' := by
  have hB : Below w.heap.size w ((w.alloc (.cells (m.fs u) 34)).alloc (.cells (m.fs v) 34)) := ((Below.refl _ w).alloc (Nat.le_refl _) _).alloc (by simp) _
  have hS := same_true u v m.d _ hm (hu.below hB) (hv.below hB)
  obtain ⟨ao, ac, rfl, -⟩ := hu
  obtain ⟨bo, bc, rfl, -⟩ := hv
  unfold MsD.fs at hB hS ⊢
  go_enter Try.func14, Try.ntmps14
  go_wp2_with fail
  refine hS.mono ?_
  rintro e w1 ⟨rfl, hb1⟩
  clear hS
  go_wp2_with fail
  go_ret
  exact ⟨rfl, hB.trans (hb1.mono hB.size)⟩

/-- The messages of live. -/
def lvA : MsD := ⟨2, 1, 2, 0, 300, 0, []⟩
def lvB : MsD := ⟨1, 1, 2, 1, 0, 0, [⟨2, 0, ⟨#[120]⟩⟩]⟩
theorem lvA_may : mayM lvA = true := by decide
theorem lvB_may : mayM lvB = true := by decide
theorem lvA_form : weR lvA = (⟨#[2, 1, 2, 172, 2]⟩, 0) := by
  rw [weR, if_pos lvA_may]
  rfl
theorem lvB_in : ∀ o ∈ lvB.d, o.In := by
  intro o ho
  simp only [lvB, List.mem_cons, List.not_mem_nil, or_false] at ho
  subst ho
  show ByteArray.size _ ≤ _
  decide
theorem lvB_form : wdR ⟨#[1, 1, 2, 0, 1, 4, 1, 2, 1, 120]⟩ = (lvB, 0) := by
  have h := wd_form lvB_may lvB_in
  have e : mk (frmB lvB) = ⟨#[1, 1, 2, 0, 1, 4, 1, 2, 1, 120]⟩ := by rfl
  rw [e] at h
  exact h
end Go.Proofs.Ytaopfdgebibpeaa
