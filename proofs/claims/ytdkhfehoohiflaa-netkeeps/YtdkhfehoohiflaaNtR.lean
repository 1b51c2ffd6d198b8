/-
  Scripts that came in, opened; nets side by side.
-/
import Derived.Test.YtdkhfehoohiflaaNtQ
import Derived.Deep.Slices
import Derived.SizedLaws
namespace Go.Proofs.Ytdkhfehoohiflaa.nt
open Go.Maps Go.WideShapes Go.RowKit Go.ChangeShapes Go.ChangeAt Go.PlainAid

/-- A call of a script. -/
structure CaD where
  k : Int
  n : Int
  x : LtD
structure CaD.Bd (o : CaD) : Prop where
  k0 : -9223372036854775808 ≤ o.k
  k1 : o.k ≤ 9223372036854775807
  n0 : -9223372036854775808 ≤ o.n
  n1 : o.n ≤ 9223372036854775807
/-- A script in the world. -/
def RdC (w : World) (v : Value) (l : List CaD) : Prop :=
  ∃ (ao : Option Addr) (cp : Nat), v = .slice ao l.length cp ∧ ∀ i o, l[i]? = some o → ∃ b off, ao = some ⟨b, off, none⟩ ∧ b < w.heap.size ∧
    w.cell? ⟨b, off + i * 4, none⟩ = some (.int .i64 o.k) ∧ w.cell? ⟨b, off + i * 4 + 1, none⟩ = some (.int .i64 o.n) ∧ w.cell? ⟨b, off + i * 4 + 2, none⟩ = some (.int .i64 o.x.to) ∧ w.cell? ⟨b, off + i * 4 + 3, none⟩ = some (.string o.x.t)

theorem wAll_mem {H : Type} {P : Program} {e : TypeId} : ∀ {l : List (DataW H)} {d : DataW H}, d ∈ l → ∀ n ∈ d.weights P e, n ∈ DataW.weightsAll P e l
  | x :: r, d, hd, n, hn => by
    simp only [DataW.weightsAll, List.mem_append]
    rcases List.mem_cons.1 hd with rfl | h
    · exact Or.inl hn
    · exact Or.inr (wAll_mem h n hn)

set_option maxRecDepth 20000 in
theorem open_ca {H : Type} {enc : TypeId × Value → H} {w : World} {spare : Nat → Bool} {held : Bool} {n : Nat} {cs : List Value} {x : DataW H × List MemPlace} (h : DataW.trod enc Try.prog w 0 spare held n 39 cs = some x) :
    ∃ o : CaD, cs = [.int .i64 o.k, .int .i64 o.n, .int .i64 o.x.to, .string o.x.t] ∧ o.Bd := by
  obtain ⟨xs, m, _, hx, hl, _, hf⟩ := DataW.trod_struct Try.underlying39 h
  have h4 : Try.prog.cellsOf 39 = 4 := by kernel_rfl
  have c2 : Try.prog.cellsOf 37 = 2 := by kernel_rfl
  have c3 : Try.prog.cellsOf 3 = 1 := by kernel_rfl
  have c9 : Try.prog.cellsOf 9 = 1 := by kernel_rfl
  rw [h4] at hl
  have hxl : xs.length = 3 := by assumption
  match xs, hxl, cs, hl with
  | [y0, y1, y2], _, [v0, v1, v2, v3], _ =>
    have g0 := hf 0 _ rfl
    have g1 := hf 1 _ rfl
    have g2 := hf 2 _ rfl
    simp [c2, c3] at g0 g1 g2
    obtain ⟨a0, e0, _, w0⟩ := DataW.trod_int Try.underlying3 g0
    obtain ⟨a1, e1, _, w1⟩ := DataW.trod_int Try.underlying3 g1
    obtain ⟨zs, m2, _, hz, hl2, _, hf2⟩ := DataW.trod_struct Try.underlying37 g2
    have hzl : zs.length = 2 := by assumption
    match zs, hzl with
    | [z0, z1], _ =>
      have k0 := hf2 0 _ rfl
      have k1 := hf2 1 _ rfl
      simp [c3, c9] at k0 k1
      obtain ⟨a2, e2, _, w2⟩ := DataW.trod_int Try.underlying3 k0
      obtain ⟨a3, e3, _, w3⟩ := DataW.trod_string Try.underlying9 k1
      simp at e0 e1 e2 e3
      exact ⟨⟨a0, a1, ⟨a2, a3⟩⟩, by rw [e0, e1, e2, e3], (wf_bd w0).1, (wf_bd w0).2, (wf_bd w1).1, (wf_bd w1).2⟩

set_option maxRecDepth 20000 in
/-- A script, out of its value. -/
theorem open_nop {H : Type} {enc : TypeId × Value → H} {w : World} {spare : Nat → Bool} {held : Bool} {fuel : Nat} {ao : Option Addr} {len cap : Nat} {x : DataW H × List MemPlace}
    (h : DataW.trod enc Try.prog w 0 spare held fuel 34 (Value.slice ao len cap).cells.toList = some x) (hz : ∀ n ∈ x.1.weights Try.prog 34, n ≤ reachBytes) :
    ∃ l : List CaD, RdC w (.slice ao len cap) l ∧ l.length ≤ 4398046511104 ∧ ∀ o ∈ l, o.Bd := by
  rcases Go.Deep.open_slice Try.underlying34 h with ⟨hcs, _⟩ | ⟨a, l, c, m, n, D, Pl, hcs, _, hl, hmx, hmm, hx, hall⟩
  · simp [Value.cells] at hcs
    obtain ⟨rfl, rfl, rfl⟩ := hcs
    exact ⟨[], ⟨none, 0, rfl, fun i o h => by simp at h⟩, Nat.zero_le _, by simp⟩
  · simp [Value.cells] at hcs
    obtain ⟨rfl, rfl, rfl⟩ := hcs
    have hlm : len ≤ m := by rw [hmm]; split <;> omega
    have h4 : Try.prog.cellsOf 39 = 4 := by kernel_rfl
    have hb : Try.prog.bytesOf 39 = 40 := by kernel_rfl
    have hln : len ≤ 4398046511104 := by
      have := hz ((len + (m - len)) * 40) (by rw [hx]; simp [DataW.weights, Try.underlying34, hb])
      unfold reachBytes at this
      omega
    rw [h4] at hall
    obtain ⟨b, off, spot⟩ := a
    have hsp : ∀ i, i < len → spot = none := by
      intro i hi
      obtain ⟨cs', h1, h2⟩ := hall 0 (by omega)
      obtain ⟨o, rfl, _⟩ := open_ca h2
      obtain ⟨_, _, hcell⟩ := World.cells?_some h1
      have e0 := hcell 0 (by omega)
      simp at e0
      have := World.cell?_spot e0
      simpa [Addr.add] using this
    have each : ∀ i, i < len → ∃ o : CaD, o.Bd ∧ spot = none ∧ b < w.heap.size ∧ w.cell? ⟨b, off + i * 4, none⟩ = some (.int .i64 o.k) ∧ w.cell? ⟨b, off + i * 4 + 1, none⟩ = some (.int .i64 o.n) ∧ w.cell? ⟨b, off + i * 4 + 2, none⟩ = some (.int .i64 o.x.to) ∧ w.cell? ⟨b, off + i * 4 + 3, none⟩ = some (.string o.x.t) := by
      intro i hi
      obtain ⟨cs', h1, h2⟩ := hall i (by omega)
      obtain ⟨o, rfl, ho⟩ := open_ca h2
      obtain ⟨_, _, hcell⟩ := World.cells?_some h1
      have e0 := hcell 0 (by omega)
      have e1 := hcell 1 (by omega)
      have e2 := hcell 2 (by omega)
      have e3 := hcell 3 (by omega)
      rw [Go.Deep.add_add] at e0 e1 e2 e3
      simp at e0 e1 e2 e3
      obtain rfl := hsp i hi
      rw [addr4] at e0 e1 e2 e3
      exact ⟨o, ho, rfl, World.block_lt_of_cell? w _ e0, e0, by rw [Nat.add_assoc]; exact e1, by rw [Nat.add_assoc]; exact e2, by rw [Nat.add_assoc]; exact e3⟩
    obtain ⟨f, hf⟩ := @Go.Deep.choose_lt CaD ⟨⟨0, 0, ⟨0, ⟨#[]⟩⟩⟩⟩ _ _ each
    have hlen : ((List.range len).map f).length = len := by simp
    refine ⟨(List.range len).map f, ⟨some ⟨b, off, spot⟩, cap, by rw [hlen], fun i o ho => ?_⟩, by rw [hlen]; omega, fun o ho => ?_⟩
    · have hi : i < len := by
        have := (List.getElem?_eq_some_iff.1 ho).1
        simpa using this
      simp [hi] at ho
      subst ho
      obtain ⟨_, rfl, r⟩ := hf i hi
      exact ⟨b, off, rfl, r⟩
    · obtain ⟨i, hi, rfl⟩ := List.mem_map.1 ho
      exact (hf i (List.mem_range.1 hi)).1

/-- A call's box. -/
def PB (W : World) (q : Nat) (o : CaD) : Prop := W.heap[q]? = some (.cells #[.int .i64 o.k, .int .i64 o.n, .int .i64 o.x.to, .string o.x.t] 39)
theorem PB.facts {W : World} {q : Nat} {o : CaD} (h : PB W q o) : W.cell? ⟨q, 0, none⟩ = some (.int .i64 o.k) ∧ W.cell? ⟨q, 1, none⟩ = some (.int .i64 o.n) ∧ W.cell? ⟨q, 2, none⟩ = some (.int .i64 o.x.to) ∧ W.cell? ⟨q, 3, none⟩ = some (.string o.x.t) :=
  ⟨cell_of_row _ _ 0 _ _ (0, 0) h, cell_of_row _ _ 1 _ _ (0, 0) h, cell_of_row _ _ 2 _ _ (0, 0) h, cell_of_row _ _ 3 _ _ (0, 0) h⟩

theorem PB.only {S : List Nat} {W W' : World} {q : Nat} {o : CaD} (h : PB W q o) (ho : Only S W W') (hq : q ∉ S) : PB W' q o := only_heap h ho hq
/-- A net, the reference's net, and another net, side by side; they were made behind w. -/
structure Sd (w W : World) (N : NtS) (R : RfS) (O : NtS) : Prop where
  fn : Fr w W N
  fo : Fr w W O
  rf : IsRf W R
  rn : ∀ b ∈ R.bl, w.heap.size ≤ b
  d1 : ∀ b ∈ N.bl, b ∉ R.bl
  d2 : ∀ b ∈ N.bl, b ∉ O.bl
  d3 : ∀ b ∈ R.bl, b ∉ O.bl
theorem Sd.stepN {w W W' : World} {N N' O : NtS} {R : RfS} {L : List LtD} (h : Sd w W N R O) (ha : Aft W W' N L N') : Sd w W' N' R O := by
  have f' := h.fn.aft ha
  refine ⟨f', ⟨f'.bel, h.fo.net.only ha.on (fun b hb e => h.d2 b e hb), h.fo.new⟩, h.rf.only ha.on (fun b hb e => h.d1 b e hb), h.rn, fun b hb => ?_, fun b hb => ?_, h.d3⟩
  · rcases ha.bl b hb with hb | hb
    · exact h.d1 b hb
    · intro e; have := h.rf.lt b e; omega
  · rcases ha.bl b hb with hb | hb
    · exact h.d2 b hb
    · intro e; have := h.fo.net.lt b e; omega
theorem Sd.stepR {w W W' : World} {N O : NtS} {R R' : RfS} {L : List LtD} (h : Sd w W N R O) (ha : RAft W W' R L R') : Sd w W' N R' O := by
  have hb : Below w.heap.size w W' := h.fn.bel.trans (ha.on.below h.fn.bel.size h.rn)
  refine ⟨⟨hb, h.fn.net.only ha.on (fun b hb => h.d1 b hb), h.fn.new⟩, ⟨hb, h.fo.net.only ha.on (fun b hb e => h.d3 b e hb), h.fo.new⟩, ha.net, fun b hb => ?_, fun b hb e => ?_, h.d2, fun b hb => ?_⟩
  · rcases ha.bl b hb with hb | hb
    · exact h.rn b hb
    · have := h.fn.bel.size; omega
  · rcases ha.bl b e with e | e
    · exact h.d1 b hb e
    · have := h.fn.net.lt b hb; omega
  · rcases ha.bl b hb with hb | hb
    · exact h.d3 b hb
    · intro e; have := h.fo.net.lt b e; omega
/-- What is done to blocks of none of them changes nothing of them. -/
theorem Sd.only {S : List Nat} {w W W' : World} {N O : NtS} {R : RfS} (h : Sd w W N R O) (ho : Only S W W') (hb : Below w.heap.size w W') (h1 : ∀ b ∈ N.bl, b ∉ S) (h2 : ∀ b ∈ R.bl, b ∉ S) (h3 : ∀ b ∈ O.bl, b ∉ S) : Sd w W' N R O :=
  ⟨⟨hb, h.fn.net.only ho h1, h.fn.new⟩, ⟨hb, h.fo.net.only ho h3, h.fo.new⟩, h.rf.only ho h2, h.rn, h.d1, h.d2, h.d3⟩
theorem Sd.below {w W W' : World} {N O : NtS} {R : RfS} (h : Sd w W N R O) (hb : Below W.heap.size W W') : Sd w W' N R O := h.only (Only.of_below (S := []) hb) (chain h.fn.bel hb) (by simp) (by simp) (by simp)
theorem Sd.drew {w W : World} {N O : NtS} {R : RfS} (h : Sd w W N R O) : Sd w W.drew N R O := h.only (Only.drew [] _) (Below.drew h.fn.bel) (by simp) (by simp) (by simp)
/-- Behind what changed only blocks that were new behind an older world. -/
theorem Sd.bel {w V W W' : World} {N O : NtS} {R : RfS} (hv : Sd w V N R O) (h : Sd w W N R O) (hb : Below V.heap.size W W') : Sd w W' N R O := by
  have hs := hv.fn.bel.size
  have t : ∀ b, b < V.heap.size → b < W.heap.size → W'.heap[b]? = W.heap[b]? := fun b h1 _ => hb.block b h1
  have k : Only (((List.range W.heap.size).filter (fun b => decide (V.heap.size ≤ b)))) W W' := ⟨hb.os, hb.tape, hb.output, hb.size, fun b hw hn => hb.block b (by
    rcases Nat.lt_or_ge b V.heap.size with h | h
    · exact h
    · exact absurd (List.mem_filter.2 ⟨List.mem_range.2 hw, by simpa using h⟩) hn)⟩
  refine h.only k (h.fn.bel.trans (hb.mono hs)) (fun b hb e => ?_) (fun b hb e => ?_) (fun b hb e => ?_)
  · have := hv.fn.net.lt b hb; have := (List.mem_filter.1 e).2; simp at this; omega
  · have := hv.rf.lt b hb; have := (List.mem_filter.1 e).2; simp at this; omega
  · have := hv.fo.net.lt b hb; have := (List.mem_filter.1 e).2; simp at this; omega
theorem sdE_eq {N : NtS} {R : RfS} (hr : N.room = R.room) (hL : N.L = R.L) (x : LtD) : R.N.sdE x = N.sdE x ∧ R.N.sdL x = N.sdL x := by
  have e : R.N.sdE x = N.sdE x := by unfold NtS.sdE; rw [hr, hL]; rfl
  exact ⟨e, by unfold NtS.sdL; rw [e, hL]; rfl⟩
theorem dbE_eq {N : NtS} {R : RfS} (hr : N.room = R.room) (hL : N.L = R.L) (i : Int) : R.N.dbE i = N.dbE i ∧ R.N.dbL i = N.dbL i := by
  have e : R.N.dbE i = N.dbE i := by unfold NtS.dbE NtS.hasI; rw [hr, hL]; rfl
  exact ⟨e, by unfold NtS.dbL; rw [e, hL]; rfl⟩
theorem tkE_eq {N : NtS} {R : RfS} (hL : N.L = R.L) (i : Int) : R.N.tkV i = N.tkV i ∧ R.N.tkE i = N.tkE i ∧ R.N.tkL i = N.tkL i := by
  have e : R.N.hasI i = N.hasI i := by unfold NtS.hasI; rw [hL]; rfl
  exact ⟨by unfold NtS.tkV; rw [e, hL]; rfl, by unfold NtS.tkE; rw [e], by unfold NtS.tkL; rw [e, hL]; rfl⟩
end Go.Proofs.Ytdkhfehoohiflaa.nt
