/-
  Messages in a row, opened; what one of them is found by.
-/
import Derived.Test.YtaopfdgebibpeaaWrI
import Derived.Test.YtaopfdgebibpeaaWrJ
import Derived.Test.YtaopfdgebibpeaaNtQNtRNtS
import Derived.Deep.Slices
import Derived.SizedLaws
namespace Go.Proofs.Ytaopfdgebibpeaa
open Go.ChangeShapes Go.WideShapes Go.ChangeAt Go.RowKit Go.PlainAid

/-- Messages in a row. -/
def RdMs (w : World) (v : Value) (l : List MsD) : Prop :=
  ∃ (ao : Option Addr) (cp : Nat), v = .slice ao l.length cp ∧ ∀ (i : Nat) (m : MsD), l[i]? = some m → ∃ b off u, ao = some ⟨b, off, none⟩ ∧ b < w.heap.size ∧
    w.cell? ⟨b, off + i * 7, none⟩ = some (.int .i64 m.k) ∧ w.cell? ⟨b, off + i * 7 + 1, none⟩ = some (.int .i64 m.b) ∧ w.cell? ⟨b, off + i * 7 + 2, none⟩ = some (.int .i64 m.c) ∧ w.cell? ⟨b, off + i * 7 + 3, none⟩ = some (.int .i64 m.s) ∧ w.cell? ⟨b, off + i * 7 + 4, none⟩ = some (.int .i64 m.r) ∧ w.cell? ⟨b, off + i * 7 + 5, none⟩ = some (.int .i64 m.y) ∧ w.cell? ⟨b, off + i * 7 + 6, none⟩ = some u ∧ RdD w u m.d
theorem rdms_at {w : World} {ao : Option Addr} {n cp : Nat} {l : List MsD} (h : RdMs w (.slice ao n cp) l) {i : Nat} {m : MsD} (hm : l[i]? = some m) : ∃ b off u, ao = some ⟨b, off, none⟩ ∧ ∀ W, Below w.heap.size w W →
    W.cell? ⟨b, off + i * 7, none⟩ = some (.int .i64 m.k) ∧ W.cell? ⟨b, off + i * 7 + 1, none⟩ = some (.int .i64 m.b) ∧ W.cell? ⟨b, off + i * 7 + 2, none⟩ = some (.int .i64 m.c) ∧ W.cell? ⟨b, off + i * 7 + 3, none⟩ = some (.int .i64 m.s) ∧ W.cell? ⟨b, off + i * 7 + 4, none⟩ = some (.int .i64 m.r) ∧ W.cell? ⟨b, off + i * 7 + 5, none⟩ = some (.int .i64 m.y) ∧ W.cell? ⟨b, off + i * 7 + 6, none⟩ = some u ∧ RdD W u m.d := by
  obtain ⟨a, c, e, h⟩ := h
  injection e with e1 _ _
  subst e1
  obtain ⟨b, off, u, e, hb, c0, c1, c2, c3, c4, c5, c6, hd⟩ := h i m hm
  have g : ∀ W, Below w.heap.size w W → ∀ j, W.cell? ⟨b, j, none⟩ = w.cell? ⟨b, j, none⟩ := fun W hW j => hW.cell (p := ⟨b, j, none⟩) hb
  exact ⟨b, off, u, e, fun W hW => ⟨(g W hW _).trans c0, (g W hW _).trans c1, (g W hW _).trans c2, (g W hW _).trans c3, (g W hW _).trans c4, (g W hW _).trans c5, (g W hW _).trans c6, hd.below hW⟩⟩

set_option maxRecDepth 20000 in
/-- Messages, out of their value. -/
theorem open_mss {H : Type} {enc : TypeId × Value → H} {w : World} {spare : Nat → Bool} {held : Bool} {fuel : Nat} {ao : Option Addr} {len cap : Nat} {x : DataW H × List MemPlace}
    (h : DataW.trod enc Try.prog w 0 spare held fuel 22 (Value.slice ao len cap).cells.toList = some x) (hz : ∀ n ∈ x.1.weights Try.prog 22, n ≤ reachBytes) :
    ∃ l : List MsD, RdMs w (.slice ao len cap) l ∧ l.length ≤ 4398046511104 ∧ ∀ m ∈ l, m.d.length ≤ 4398046511104 ∧ ∀ o ∈ m.d, o.In := by
  rcases Go.Deep.open_slice Try.underlying22 h with ⟨hcs, _⟩ | ⟨a, l, c, m, n, D, Pl, hcs, _, hl, hmx, hmm, hx, hall⟩
  · simp [Value.cells] at hcs
    obtain ⟨rfl, rfl, rfl⟩ := hcs
    exact ⟨[], ⟨none, 0, rfl, fun i o h => by simp at h⟩, Nat.zero_le _, by simp⟩
  · simp [Value.cells] at hcs
    obtain ⟨rfl, rfl, rfl⟩ := hcs
    have hlm : len ≤ m := by rw [hmm]; split <;> omega
    have h4 : Try.prog.cellsOf 34 = 7 := by kernel_rfl
    have hb : Try.prog.bytesOf 34 = 72 := by kernel_rfl
    have hln : len ≤ 4398046511104 := by
      have := hz ((len + (m - len)) * 72) (by rw [hx]; simp [DataW.weights, Try.underlying22, hb])
      unfold reachBytes at this
      omega
    rw [h4] at hall
    obtain ⟨b, off, spot⟩ := a
    have hwt : ∀ i, i < len → ∀ n ∈ (D i).weights Try.prog 34, n ≤ reachBytes := fun i hi n hn => by
      refine hz n ?_
      rw [hx]
      unfold DataW.weights
      rw [Try.underlying22]
      exact List.mem_cons_of_mem _ (List.mem_append_left _ (nt.wAll_mem (List.mem_map.2 ⟨i, List.mem_range.2 hi, rfl⟩) n hn))
    have hsp : ∀ i, i < len → spot = none := by
      intro i hi
      obtain ⟨cs', h1, h2⟩ := hall 0 (by omega)
      obtain ⟨o, v, rfl, -⟩ := open_msz h2 (hwt 0 (by omega))
      obtain ⟨_, _, hcell⟩ := World.cells?_some h1
      have e0 := hcell 0 (by omega)
      simp at e0
      have := World.cell?_spot e0
      simpa [Addr.add] using this
    have each : ∀ i, i < len → ∃ q : MsD × Value, (q.1.d.length ≤ 4398046511104 ∧ ∀ o ∈ q.1.d, o.In) ∧ spot = none ∧ b < w.heap.size ∧ w.cell? ⟨b, off + i * 7, none⟩ = some (.int .i64 q.1.k) ∧ w.cell? ⟨b, off + i * 7 + 1, none⟩ = some (.int .i64 q.1.b) ∧ w.cell? ⟨b, off + i * 7 + 2, none⟩ = some (.int .i64 q.1.c) ∧ w.cell? ⟨b, off + i * 7 + 3, none⟩ = some (.int .i64 q.1.s) ∧ w.cell? ⟨b, off + i * 7 + 4, none⟩ = some (.int .i64 q.1.r) ∧ w.cell? ⟨b, off + i * 7 + 5, none⟩ = some (.int .i64 q.1.y) ∧ w.cell? ⟨b, off + i * 7 + 6, none⟩ = some q.2 ∧ RdD w q.2 q.1.d := by
      intro i hi
      obtain ⟨cs', h1, h2⟩ := hall i (by omega)
      obtain ⟨o, v, rfl, hd, hdl, ho⟩ := open_msz h2 (hwt i hi)
      obtain ⟨_, _, hcell⟩ := World.cells?_some h1
      have e0 := hcell 0 (by omega)
      have e1 := hcell 1 (by omega)
      have e2 := hcell 2 (by omega)
      have e3 := hcell 3 (by omega)
      have e4 := hcell 4 (by omega)
      have e5 := hcell 5 (by omega)
      have e6 := hcell 6 (by omega)
      rw [Go.Deep.add_add] at e0 e1 e2 e3 e4 e5 e6
      simp at e0 e1 e2 e3 e4 e5 e6
      obtain rfl := hsp i hi
      rw [nt.addr4] at e0 e1 e2 e3 e4 e5 e6
      exact ⟨⟨o, v⟩, ⟨hdl, fun o' h' => (ho o' h').1⟩, rfl, World.block_lt_of_cell? w _ e0, e0, by rw [Nat.add_assoc]; exact e1, by rw [Nat.add_assoc]; exact e2, by rw [Nat.add_assoc]; exact e3, by rw [Nat.add_assoc]; exact e4, by rw [Nat.add_assoc]; exact e5, by rw [Nat.add_assoc]; exact e6, hd⟩
    obtain ⟨f, hf⟩ := @Go.Deep.choose_lt (MsD × Value) ⟨⟨⟨0, 0, 0, 0, 0, 0, []⟩, undef⟩⟩ _ _ each
    have hlen : ((List.range len).map fun i => (f i).1).length = len := by simp
    refine ⟨(List.range len).map fun i => (f i).1, ⟨some ⟨b, off, spot⟩, cap, by rw [hlen], fun i o ho => ?_⟩, by rw [hlen]; omega, fun o ho => ?_⟩
    · have hi : i < len := by
        have := (List.getElem?_eq_some_iff.1 ho).1
        simpa using this
      simp [hi] at ho
      subst ho
      obtain ⟨_, rfl, r⟩ := hf i hi
      exact ⟨b, off, _, rfl, r⟩
    · obtain ⟨i, hi, rfl⟩ := List.mem_map.1 ho
      exact (hf i (List.mem_range.1 hi)).1

/-- Is this text the form of that message? -/
def fdM (t : ByteArray) (m : MsD) : Bool := mayM m && decide (mk (frmB m) = t)
theorem fd_same {t : ByteArray} {m n : MsD} (hm : fdM t m = true) (hn : fdM t n = true) (im : ∀ o ∈ m.d, o.In) (in_ : ∀ o ∈ n.d, o.In) : m = n := by
  simp only [fdM, Bool.and_eq_true, decide_eq_true_eq] at hm hn
  have h1 := wd_form hm.1 im
  have h2 := wd_form hn.1 in_
  rw [hm.2] at h1
  rw [hn.2, h1] at h2
  exact congrArg Prod.fst h2
theorem fd_take {t : ByteArray} {l : List MsD} {k : Nat} (hk : k < l.length) : (l.take (k + 1)).any (fdM t) = ((l.take k).any (fdM t) || fdM t l[k]) := by
  rw [List.take_succ_eq_append_getElem hk, List.any_append]
  simp
/-- What was sent: forms of the first messages. -/
def Snt (l : List MsD) (A : List nt.LtD) : Prop := ∀ x ∈ A, ∃ m ∈ l.take 40, fdM x.t m = true ∧ x.to = m.c
end Go.Proofs.Ytaopfdgebibpeaa
