/-
  A state that came in: by weights, or of small bulk.
-/
import Derived.Test.YtdheddgdlindmaaRcO
import Derived.Test.YtdheddgdlindmaaDArg
import Derived.Test.YtdheddgdlindmaaRows
namespace Go.Proofs.Ytdheddgdlindmaa
open Go.ChangeShapes Go.WideShapes Go.ChangeAt Go.RowKit Go.PlainAid

section
variable {H : Type}
/-- What came in is not too great. -/
def Sz (up : Bool) (t : TypeId) (d : DataW H) : Prop := match up with
  | false => ∀ n ∈ d.weights Try.prog t, n ≤ reachBytes
  | true => Rows.uptoBulk d ≤ 1048576
theorem bulkR_pos (d : DataW H) : 1 ≤ Rows.uptoBulk d := by
  unfold Rows.uptoBulk
  split <;> omega
theorem bulkR_len : ∀ l : List (DataW H), l.length ≤ Rows.uptoBulkAll l
  | [] => Nat.zero_le _
  | d :: l => by
    have h1 := bulkR_pos d
    have h2 := bulkR_len l
    rw [Rows.uptoBulkAll, List.length_cons]
    omega
theorem bulkR_mem {d : DataW H} : ∀ {l : List (DataW H)}, d ∈ l → Rows.uptoBulk d ≤ Rows.uptoBulkAll l
  | [], h => by cases h
  | e :: l, h => by
    rw [Rows.uptoBulkAll]
    rcases List.mem_cons.1 h with rfl | h
    · omega
    · have := bulkR_mem h
      omega
theorem sz_elem {up : Bool} {t e : TypeId} {l r : List (DataW H)} {d : DataW H} (hu : Try.prog.underlying t = some (.slice e)) (h : Sz up t (.slice l r)) (hd : d ∈ l) : Sz up e d := by
  cases up with
  | false =>
    intro n hn
    refine h n ?_
    unfold DataW.weights
    rw [hu]
    exact List.mem_cons_of_mem _ (List.mem_append_left _ (wAll_mem hd n hn))
  | true =>
    have := bulkR_mem hd
    unfold Sz at h ⊢
    rw [Rows.uptoBulk] at h
    omega
/-- How long a row may be. -/
def Ln (up : Bool) (n : Nat) : Prop := n ≤ 17592186044416 ∧ (up = true → n ≤ 1048576)
theorem sz_len {up : Bool} {t e : TypeId} {l r : List (DataW H)} (hu : Try.prog.underlying t = some (.slice e)) (hb : 8 ≤ Try.prog.bytesOf e) (h : Sz up t (.slice l r)) : Ln up l.length := by
  cases up with
  | false =>
    have := h ((l.length + r.length) * Try.prog.bytesOf e) (by unfold DataW.weights; rw [hu]; exact List.mem_cons_self ..)
    have h2 : (l.length + r.length) * 8 ≤ (l.length + r.length) * Try.prog.bytesOf e := Nat.mul_le_mul_left _ hb
    unfold reachBytes at this
    exact ⟨by omega, fun h => by cases h⟩
  | true =>
    have := bulkR_len l
    unfold Sz at h
    rw [Rows.uptoBulk] at h
    exact ⟨by omega, fun _ => by omega⟩
theorem sz_part {up : Bool} {t f : TypeId} {fs : Array Field} {ps : List (DataW H)} {d : DataW H} {j : Nat} (hu : Try.prog.underlying t = some (.struct fs)) (h : Sz up t (.agg ps)) (hf : (fs.toList.map (·.type))[j]? = some f) (hd : ps[j]? = some d) : Sz up f d := by
  cases up with
  | false =>
    intro n hn
    refine h n ?_
    unfold DataW.weights
    rw [hu]
    exact DataW.weights_mem_each hf hd n hn
  | true =>
    have := bulkR_mem (List.mem_of_getElem? hd)
    unfold Sz at h ⊢
    rw [Rows.uptoBulk] at h
    omega
variable {enc : TypeId × Value → H} {w : World} {spare : Nat → Bool} {held : Bool}
/-- A row that came in. -/
theorem open_rowG {α : Type} [Inhabited α] {up : Bool} {t e : TypeId} {sz fuel : Nat} {v : Value} {x : DataW H × List MemPlace} (C : α → List Value → Prop) (hu : Try.prog.underlying t = some (.slice e)) (h4 : Try.prog.cellsOf e = sz) (h0 : 0 < sz) {by8 : Nat} (hb : Try.prog.bytesOf e = by8) (h8 : 8 ≤ by8)
    (ho : ∀ {n : Nat} {cs : List Value} {y : DataW H × List MemPlace}, DataW.trod enc Try.prog w 0 spare held n e cs = some y → Sz up e y.1 → ∃ a, C a cs)
    (h : DataW.trod enc Try.prog w 0 spare held fuel t [v] = some x) (hz : Sz up t x.1) :
    ∃ (l : List α) (ao : Option Addr) (cp : Nat), v = .slice ao l.length cp ∧ (l.length ≤ cp ∧ (ao = none → cp = 0)) ∧ Ln up l.length ∧ ∀ (i : Nat) (a : α), l[i]? = some a → ∃ b off cs, ao = some ⟨b, off, none⟩ ∧ b < w.heap.size ∧ C a cs ∧ ∀ j u, cs[j]? = some u → w.cell? ⟨b, off + i * sz + j, none⟩ = some u := by
  rcases Go.Deep.open_slice hu h with ⟨hcs, _⟩ | ⟨a, len, cap, m, n, D, Pl, hcs, _, hl, hmx, hmm, hx, hall⟩
  · simp at hcs
    subst hcs
    exact ⟨[], none, 0, rfl, ⟨Nat.le_refl _, fun _ => rfl⟩, ⟨Nat.zero_le _, fun _ => Nat.zero_le _⟩, fun i a h => by simp at h⟩
  · simp at hcs
    subst hcs
    have hlm : len ≤ m := by rw [hmm]; split <;> omega
    rw [hx] at hz
    have hL := sz_len hu (by rw [hb]; exact h8) hz
    simp only [List.length_map, List.length_range] at hL
    rw [h4] at hall
    obtain ⟨b, off, spot⟩ := a
    have hadd : ∀ k, (⟨b, off, none⟩ : Addr).add k = ⟨b, off + k, none⟩ := fun k => by unfold Addr.add; split <;> simp_all
    have each : ∀ i, i < len → ∃ a : α, spot = none ∧ ∃ cs, C a cs ∧ b < w.heap.size ∧ ∀ j u, cs[j]? = some u → w.cell? ⟨b, off + i * sz + j, none⟩ = some u := by
      intro i hi
      obtain ⟨cs', h1, h2⟩ := hall i (by omega)
      obtain ⟨o, hC⟩ := ho h2 (sz_elem hu hz (List.mem_map.2 ⟨i, List.mem_range.2 hi, rfl⟩))
      obtain ⟨-, hcl, hcell⟩ := World.cells?_some h1
      have hs : spot = none := by
        obtain ⟨cs0, g1, -⟩ := hall 0 (by omega)
        obtain ⟨-, gcl, gcell⟩ := World.cells?_some g1
        have e0 := gcell 0 h0
        rw [List.getElem?_eq_getElem (by omega)] at e0
        have := World.cell?_spot e0
        simpa [Addr.add] using this
      subst hs
      have e0 := hcell 0 h0
      rw [List.getElem?_eq_getElem (by omega)] at e0
      rw [Go.Deep.add_add] at e0
      have hbl := World.block_lt_of_cell? w _ e0
      rw [hadd] at hbl
      refine ⟨o, rfl, cs', hC, hbl, fun j u hj => ?_⟩
      have hjl := (List.getElem?_eq_some_iff.1 hj).1
      have ej := hcell j (by omega)
      rw [Go.Deep.add_add, hadd, hj] at ej
      rw [Nat.add_assoc]
      exact ej
    obtain ⟨f, hf⟩ := @Go.Deep.choose_lt α _ _ _ each
    have hlen : ((List.range len).map f).length = len := by simp
    refine ⟨(List.range len).map f, some ⟨b, off, spot⟩, cap, by rw [hlen], ⟨by rw [hlen]; omega, fun h => by cases h⟩, by rw [hlen]; exact hL, fun i o ho => ?_⟩
    have hi : i < len := by
      have := (List.getElem?_eq_some_iff.1 ho).1
      simpa using this
    simp [hi] at ho
    subst ho
    obtain ⟨rfl, cs, r1, r2, r3⟩ := hf i hi
    exact ⟨b, off, cs, rfl, r2, r1, r3⟩
theorem row_mem {α : Type} {l : List α} {P : α → Prop} (h : ∀ (i : Nat) (a : α), l[i]? = some a → P a) : ∀ a ∈ l, P a := fun a ha => by
  obtain ⟨i, hi, rfl⟩ := List.mem_iff_getElem.1 ha
  exact h i _ (List.getElem?_eq_getElem hi)
/-- Numbers that came in. -/
theorem open_intsR {up : Bool} {fuel : Nat} {v : Value} {x : DataW H × List MemPlace} (h : DataW.trod enc Try.prog w 0 spare held fuel 45 [v] = some x) (hz : Sz up 45 x.1) : ∃ l : List Int, RdI w v l ∧ Ln up l.length := by
  obtain ⟨l, ao, cp, rfl, -, hL, hc⟩ := open_rowG (α := Int) (sz := 1) (by8 := 8) (fun a cs => cs = [.int .i64 a]) Try.underlying45 (by kernel_rfl) (by decide) (by kernel_rfl) (by decide) (fun h _ => by
    obtain ⟨a, e, -, -⟩ := DataW.trod_int Try.underlying3 h
    exact ⟨a, e⟩) h hz
  refine ⟨l, ⟨ao, cp, rfl, fun i a hi => ?_⟩, hL⟩
  obtain ⟨b, off, cs, rfl, h1, rfl, h2⟩ := hc i a hi
  have := h2 0 _ rfl
  rw [Nat.mul_one] at this
  exact ⟨b, off, rfl, h1, this⟩
/-- What a delta that came in is. -/
def Dl (up : Bool) (l : List OpD) : Prop := l.length ≤ maxLen ∧ (∀ o ∈ l, o.In) ∧ (up = true → l.length ≤ 1048576 ∧ ∀ o ∈ l, o.Sm)
def Od (up : Bool) (enc : TypeId × Value → H) (w : World) (spare : Nat → Bool) (held : Bool) : Prop := ∀ {fuel : Nat} {v : Value} {x : DataW H × List MemPlace}, DataW.trod enc Try.prog w 0 spare held fuel 46 [v] = some x → Sz up 46 x.1 → ∃ l : List OpD, RdD w v l ∧ Dl up l
theorem od_false : Od (H := H) false enc w spare held := by
  intro fuel v x h hz
  obtain ⟨ao, len, cap, rfl⟩ : ∃ ao len cap, v = .slice ao len cap := by
    rcases Go.Deep.open_slice Try.underlying46 h with ⟨hcs, _⟩ | ⟨a, l, c, m, n, D, Pl, hcs, _⟩
    · simp at hcs
      exact ⟨_, _, _, hcs⟩
    · simp at hcs
      exact ⟨_, _, _, hcs⟩
  obtain ⟨l, h1, h2, h3⟩ := open_dlz (ao := ao) (len := len) (cap := cap) h hz
  exact ⟨l, h1, by unfold maxLen; omega, fun o ho => (h3 o ho).1, fun h => by cases h⟩
/-- A commit, a branch, a client that came in. -/
def CoU (up : Bool) (x : CoD) : Prop := x.Fit ∧ Dl up x.d ∧ Dl up x.o ∧ Ln up x.ps.length
def BrU (up : Bool) (x : BrD) : Prop := x.Fit ∧ Ln up x.lg.length ∧ (up = true → x.nm.size ≤ 1048576)
set_option maxRecDepth 20000 in
theorem open_co {up : Bool} {n : Nat} {cs : List Value} {x : DataW H × List MemPlace} (od : Od up enc w spare held) (h : DataW.trod enc Try.prog w 0 spare held n 48 cs = some x) (hz : Sz up 48 x.1) :
    ∃ (c : CoD), ∃ u1 u2 u3, cs = [.int .i64 c.n, u1, u2, u3, .int .i64 c.c, .int .i64 c.s] ∧ RdI w u1 c.ps ∧ RdD w u2 c.d ∧ RdD w u3 c.o ∧ CoU up c := by
  obtain ⟨xs, m, _, hx, hl, _, hf⟩ := DataW.trod_struct Try.underlying48 h
  have h4 : Try.prog.cellsOf 48 = 6 := by kernel_rfl
  have c3 : Try.prog.cellsOf 3 = 1 := by kernel_rfl
  have c8 : Try.prog.cellsOf 45 = 1 := by kernel_rfl
  have c9 : Try.prog.cellsOf 46 = 1 := by kernel_rfl
  rw [h4] at hl
  have hxl : xs.length = 6 := by assumption
  match xs, hxl, cs, hl with
  | [y0, y1, y2, y3, y4, y5], _, [v0, v1, v2, v3, v4, v5], _ =>
    have g0 := hf 0 _ rfl
    have g1 := hf 1 _ rfl
    have g2 := hf 2 _ rfl
    have g3 := hf 3 _ rfl
    have g4 := hf 4 _ rfl
    have g5 := hf 5 _ rfl
    simp [c3, c8, c9] at g0 g1 g2 g3 g4 g5
    obtain ⟨a0, e0, -, -⟩ := DataW.trod_int Try.underlying3 g0
    obtain ⟨a4, e4, -, -⟩ := DataW.trod_int Try.underlying3 g4
    obtain ⟨a5, e5, -, -⟩ := DataW.trod_int Try.underlying3 g5
    simp at e0 e4 e5
    rw [hx] at hz
    simp only [List.map] at hz
    obtain ⟨A, rA, lA⟩ := open_intsR g1 (sz_part (j := 1) (d := y1.1) Try.underlying48 hz rfl rfl)
    obtain ⟨B, rB, lB⟩ := od g2 (sz_part (j := 2) (d := y2.1) Try.underlying48 hz rfl rfl)
    obtain ⟨C, rC, lC⟩ := od g3 (sz_part (j := 3) (d := y3.1) Try.underlying48 hz rfl rfl)
    exact ⟨⟨a0, A, B, C, a4, a5⟩, v1, v2, v3, by rw [e0, e4, e5], rA, rB, rC, ⟨by have := lA.1; simp only; omega, lB.1, lB.2.1, lC.1, lC.2.1⟩, lB, lC, lA⟩
set_option maxRecDepth 20000 in
theorem open_br {up : Bool} {n : Nat} {cs : List Value} {x : DataW H × List MemPlace} (h : DataW.trod enc Try.prog w 0 spare held n 50 cs = some x) (hz : Sz up 50 x.1) :
    ∃ (c : BrD), ∃ u1, cs = [.int .i64 c.i, .string c.nm, u1] ∧ RdI w u1 c.lg ∧ BrU up c := by
  obtain ⟨xs, m, _, hx, hl, _, hf⟩ := DataW.trod_struct Try.underlying50 h
  have h4 : Try.prog.cellsOf 50 = 3 := by kernel_rfl
  have c3 : Try.prog.cellsOf 3 = 1 := by kernel_rfl
  have c8 : Try.prog.cellsOf 45 = 1 := by kernel_rfl
  have c9 : Try.prog.cellsOf 9 = 1 := by kernel_rfl
  rw [h4] at hl
  have hxl : xs.length = 3 := by assumption
  match xs, hxl, cs, hl with
  | [y0, y1, y2], _, [v0, v1, v2], _ =>
    have g0 := hf 0 _ rfl
    have g1 := hf 1 _ rfl
    have g2 := hf 2 _ rfl
    simp [c3, c8, c9] at g0 g1 g2
    obtain ⟨a0, e0, -, -⟩ := DataW.trod_int Try.underlying3 g0
    obtain ⟨a1, e1, f1, -⟩ := DataW.trod_string Try.underlying9 g1
    simp at e0 e1
    rw [hx] at hz
    simp only [List.map] at hz
    obtain ⟨A, rA, lA⟩ := open_intsR g2 (sz_part (j := 2) (d := y2.1) Try.underlying50 hz rfl rfl)
    have z1 : Sz up 9 y1.1 := sz_part (j := 1) (d := y1.1) Try.underlying50 hz rfl rfl
    have ht : a1.size ≤ 140737488355328 ∧ (up = true → a1.size ≤ 1048576) := by
      cases up with
      | false =>
        have := z1 a1.size (by rw [f1]; simp [DataW.weights])
        unfold reachBytes at this
        exact ⟨by omega, fun h => by cases h⟩
      | true =>
        unfold Sz at z1
        rw [f1] at z1
        simp only [Rows.uptoBulk] at z1
        have := data_len a1
        exact ⟨by omega, fun _ => by omega⟩
    exact ⟨⟨a0, a1, A⟩, v2, by rw [e0, e1], rA, ⟨ht.1, by have := lA.1; simp only; omega⟩, lA, ht.2⟩
set_option maxRecDepth 20000 in
theorem open_cu {up : Bool} {n : Nat} {cs : List Value} {x : DataW H × List MemPlace} (h : DataW.trod enc Try.prog w 0 spare held n 61 cs = some x) (_hz : Sz up 61 x.1) :
    ∃ (c : CuD), cs = [.int .i64 c.c, .int .i64 c.b, .int .i64 c.s] := by
  obtain ⟨xs, m, _, hx, hl, _, hf⟩ := DataW.trod_struct Try.underlying61 h
  have h4 : Try.prog.cellsOf 61 = 3 := by kernel_rfl
  have c3 : Try.prog.cellsOf 3 = 1 := by kernel_rfl
  rw [h4] at hl
  have hxl : xs.length = 3 := by assumption
  match xs, hxl, cs, hl with
  | [y0, y1, y2], _, [v0, v1, v2], _ =>
    have g0 := hf 0 _ rfl
    have g1 := hf 1 _ rfl
    have g2 := hf 2 _ rfl
    simp [c3] at g0 g1 g2
    obtain ⟨a0, e0, -, -⟩ := DataW.trod_int Try.underlying3 g0
    obtain ⟨a1, e1, -, -⟩ := DataW.trod_int Try.underlying3 g1
    obtain ⟨a2, e2, -, -⟩ := DataW.trod_int Try.underlying3 g2
    simp at e0 e1 e2
    exact ⟨⟨a0, a1, a2⟩, by rw [e0, e1, e2]⟩
instance : Inhabited CoD := ⟨⟨0, [], [], [], 0, 0⟩⟩
instance : Inhabited BrD := ⟨⟨0, ⟨#[]⟩, []⟩⟩
instance : Inhabited CuD := ⟨⟨0, 0, 0⟩⟩
/-- A state that came in. -/
structure StU (up : Bool) (S : StD) : Prop where
  fit : S.Fit
  cl : Ln up S.cs.length
  bl : Ln up S.bs.length
  ul : Ln up S.us.length
  co : ∀ x ∈ S.cs, CoU up x
  br : ∀ x ∈ S.bs, BrU up x
set_option maxRecDepth 20000 in
theorem open_st {up : Bool} {n : Nat} {cs : List Value} {x : DataW H × List MemPlace} (od : Od up enc w spare held) (h : DataW.trod enc Try.prog w 0 spare held n 26 cs = some x) (hz : Sz up 26 x.1) :
    ∃ (S : StD) (v1 v2 v3 : Value), cs = [.int .i64 S.nc, .int .i64 S.nb, v1, v2, v3] ∧ RdSt w v1 v2 v3 S ∧ StU up S := by
  obtain ⟨xs, m, _, hx, hl, _, hf⟩ := DataW.trod_struct Try.underlying26 h
  have h4 : Try.prog.cellsOf 26 = 5 := by kernel_rfl
  have c3 : Try.prog.cellsOf 3 = 1 := by kernel_rfl
  have c7 : Try.prog.cellsOf 22 = 1 := by kernel_rfl
  have c8 : Try.prog.cellsOf 23 = 1 := by kernel_rfl
  have c9 : Try.prog.cellsOf 24 = 1 := by kernel_rfl
  rw [h4] at hl
  have hxl : xs.length = 5 := by assumption
  match xs, hxl, cs, hl with
  | [y0, y1, y2, y3, y4], _, [v0, v1, v2, v3, v4], _ =>
    have g0 := hf 0 _ rfl
    have g1 := hf 1 _ rfl
    have g2 := hf 2 _ rfl
    have g3 := hf 3 _ rfl
    have g4 := hf 4 _ rfl
    simp [c3, c7, c8, c9] at g0 g1 g2 g3 g4
    obtain ⟨a0, e0, -, w0⟩ := DataW.trod_int Try.underlying3 g0
    obtain ⟨a1, e1, -, w1⟩ := DataW.trod_int Try.underlying3 g1
    simp at e0 e1
    rw [hx] at hz
    simp only [List.map] at hz
    have z2 : Sz up 22 y2.1 := sz_part (j := 2) (d := y2.1) Try.underlying26 hz rfl rfl
    have z3 : Sz up 23 y3.1 := sz_part (j := 3) (d := y3.1) Try.underlying26 hz rfl rfl
    have z4 : Sz up 24 y4.1 := sz_part (j := 4) (d := y4.1) Try.underlying26 hz rfl rfl
    obtain ⟨A, aA, kA, rfl, -, lA, hA⟩ := open_rowG (α := CoD) (sz := 6) (by8 := 96) (fun c cs => ∃ u1 u2 u3, cs = [.int .i64 c.n, u1, u2, u3, .int .i64 c.c, .int .i64 c.s] ∧ RdI w u1 c.ps ∧ RdD w u2 c.d ∧ RdD w u3 c.o ∧ CoU up c) Try.underlying22 (by kernel_rfl) (by decide) (by kernel_rfl) (by decide) (fun h hz => open_co od h hz) g2 z2
    obtain ⟨B, aB, kB, rfl, -, lB, hB⟩ := open_rowG (α := BrD) (sz := 3) (by8 := 48) (fun c cs => ∃ u1, cs = [.int .i64 c.i, .string c.nm, u1] ∧ RdI w u1 c.lg ∧ BrU up c) Try.underlying23 (by kernel_rfl) (by decide) (by kernel_rfl) (by decide) (fun h hz => open_br h hz) g3 z3
    obtain ⟨C, aC, kC, rfl, -, lC, hC⟩ := open_rowG (α := CuD) (sz := 3) (by8 := 24) (fun c cs => cs = [.int .i64 c.c, .int .i64 c.b, .int .i64 c.s]) Try.underlying24 (by kernel_rfl) (by decide) (by kernel_rfl) (by decide) (fun h hz => open_cu h hz) g4 z4
    have b0 := wf_bd w0
    have b1 := wf_bd w1
    have mA : ∀ x ∈ A, CoU up x := row_mem (fun i a hi => by obtain ⟨b, off, cs, -, -, ⟨u1, u2, u3, -, -, -, -, h⟩, -⟩ := hA i a hi; exact h)
    have mB : ∀ x ∈ B, BrU up x := row_mem (fun i a hi => by obtain ⟨b, off, cs, -, -, ⟨u1, -, -, h⟩, -⟩ := hB i a hi; exact h)
    refine ⟨⟨a0, a1, A, B, C⟩, _, _, _, by rw [e0, e1], ⟨⟨aA, kA, rfl, fun i a hi => ?_⟩, ⟨aB, kB, rfl, fun i a hi => ?_⟩, ⟨aC, kC, rfl, fun i a hi => ?_⟩⟩, ⟨⟨b0.1, b0.2, b1.1, b1.2, fun x hx => (mA x hx).1, fun x hx => (mB x hx).1⟩, lA, lB, lC, mA, mB⟩⟩
    · obtain ⟨b, off, cs, rfl, h1, ⟨u1, u2, u3, rfl, r1, r2, r3, -⟩, h2⟩ := hA i a hi
      exact ⟨b, off, u1, u2, u3, rfl, h1, ⟨h2 0 _ rfl, h2 1 _ rfl, h2 2 _ rfl, h2 3 _ rfl, h2 4 _ rfl, h2 5 _ rfl⟩, r1, r2, r3⟩
    · obtain ⟨b, off, cs, rfl, h1, ⟨u1, rfl, r1, -⟩, h2⟩ := hB i a hi
      exact ⟨b, off, u1, rfl, h1, ⟨h2 0 _ rfl, h2 1 _ rfl, h2 2 _ rfl⟩, r1⟩
    · obtain ⟨b, off, cs, rfl, h1, rfl, h2⟩ := hC i a hi
      exact ⟨b, off, rfl, h1, ⟨h2 0 _ rfl, h2 1 _ rfl, h2 2 _ rfl⟩⟩
end
end Go.Proofs.Ytdheddgdlindmaa
