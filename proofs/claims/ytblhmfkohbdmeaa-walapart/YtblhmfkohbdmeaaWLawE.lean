/-
  Commits in halves; rows of texts.
-/
import Derived.Test.YtblhmfkohbdmeaaWLawD
namespace Go.Proofs.Ytblhmfkohbdmeaa
open Go.RowKit Go.Maps

theorem put_nil (x : Nat → Sec) : put [] x = x := rfl
theorem put_append (a b : List WrD) (x : Nat → Sec) (i : Nat) : put b (put a x) i = put (a ++ b) x i := by
  unfold put
  rw [fOf_append]
  unfold orF
  cases fOf b i <;> simp
theorem put_halves (l : List WrD) (n : Nat) (x : Nat → Sec) (i : Nat) : put (l.drop n) (put (l.take n) x) i = put l x i := by
  rw [put_append, List.take_append_drop]
theorem put_swap {N : Nat} {l : List WrD} (h : OkW N l) (n : Nat) (x : Nat → Sec) (i : Nat) : put (l.take n) (put (l.drop n) x) i = put l x i := by
  rw [← put_halves l n x i]
  unfold put
  cases h1 : fOf (l.take n) i with
  | none => simp
  | some t1 =>
    cases h2 : fOf (l.drop n) i with
    | none => simp
    | some t2 =>
      exfalso
      obtain ⟨o1, m1, e1, _⟩ := fOf_some h1
      obtain ⟨o2, m2, e2, _⟩ := fOf_some h2
      have hp := h.2
      rw [← List.take_append_drop n l, List.pairwise_append] at hp
      have hne := hp.2.2 o1 m1 o2 m2
      have g1 := good_parts (h.1 o1 (List.mem_of_mem_take m1))
      have g2 := good_parts (h.1 o2 (List.mem_of_mem_drop m2))
      omega

theorem put_congr (l : List WrD) {x y : Nat → Sec} {i : Nat} (h : x i = y i) : put l x i = put l y i := by unfold put; rw [h]
theorem apartE_ok {N : Nat} {l : List WrD} (h : OkW N l) (h24 : l.length ≤ 24) : apartE N l = 0 := by
  unfold apartE
  rw [if_pos h, if_neg (by omega)]
theorem rd_nil (W : World) : RdWr W (.slice none 0 0) [] := ⟨none, 0, rfl, ⟨Nat.le_refl _, fun _ => rfl⟩, fun i o h => by simp at h⟩
theorem based_nil : based [] = fun _ => zeroS := rfl
theorem Clean.at_rest {N : Nat} {x : Nat → Sec} {s : DevS} (h : Clean N x s) (hk : s.keys = []) : Rest N s x :=
  ⟨h.n, hk, [], LOK.nil N, by rw [h.hr]; exact hd_nil'.symm, fun i hi => (h.rest i hi).2.symm⟩

/-- Texts in a row of texts. -/
def RdT (W : World) (v : Value) (l : List ByteArray) : Prop :=
  ∃ ao cp, v = .slice ao l.length cp ∧ l.length ≤ cp ∧ ∀ (i : Nat) (x : ByteArray), l[i]? = some x → ∃ g cur, ao = some ⟨g, 0, none⟩ ∧ W.heap[g]? = some (.cells cur 9) ∧ cur[i]? = some (.string x)
theorem RdT.rd {W : World} {v : Value} {l : List ByteArray} (h : RdT W v l) : RdS W 0 W.heap.size v l := by
  obtain ⟨ao, cp, e, hc, h1⟩ := h
  refine ⟨ao, cp, e, hc, Nat.le_refl _, fun i x hx => ?_⟩
  obtain ⟨g, cur, e1, hg, hcur⟩ := h1 i x hx
  exact ⟨g, e1, Nat.zero_le _, heap_lt hg, by rw [cell_at hg]; exact hcur⟩
theorem RdT.keep {W W' : World} {v : Value} {l : List ByteArray} (h : RdT W v l) (hk : ∀ (g : Nat) (cur : Array Value), W.heap[g]? = some (.cells cur 9) → W'.heap[g]? = some (.cells cur 9)) : RdT W' v l := by
  obtain ⟨ao, cp, e, hc, h1⟩ := h
  refine ⟨ao, cp, e, hc, fun i x hx => ?_⟩
  obtain ⟨g, cur, e1, hg, hcur⟩ := h1 i x hx
  exact ⟨g, cur, e1, hk g cur hg, hcur⟩
theorem RdT.below {W W' : World} {v : Value} {l : List ByteArray} (h : RdT W v l) (hb : Below W.heap.size W W') : RdT W' v l := h.keep fun g _ hg => (hb.block g (heap_lt hg)).trans hg
theorem RdT.of_own {W : World} {B : Nat} {v : Value} {l : List ByteArray} (h : W.ownsRow B 9 1 v l.length (sv l)) : RdT W v l := by
  rcases h.2 with ⟨rfl, h0⟩ | ⟨g, cap, cur, rfl, hb, hg, hn, _, hc, ht⟩
  · exact ⟨none, 0, by rw [h0], by omega, fun i x hx => by have := (List.getElem?_eq_some_iff.1 hx).1; omega⟩
  · refine ⟨_, cap, rfl, hn, fun i x hx => ⟨g, cur, rfl, hg, ?_⟩⟩
    have hi := (List.getElem?_eq_some_iff.1 hx).1
    have : (sv l)[i]? = some (.string x) := by simp [sv, hx]
    rw [← ht, List.getElem?_take_of_lt (by omega)] at this
    simpa using this

/-- k rows, all of the same texts. -/
def Al (W : World) (B : Nat) (v : Value) (k : Nat) (T : List ByteArray) : Prop := ∃ V : List Value, V.length = k ∧ W.ownsRow B 62 1 v k V ∧ ∀ u ∈ V, RdT W u T
theorem Al.below {W W' : World} {B : Nat} {v : Value} {k : Nat} {T : List ByteArray} (h : Al W B v k T) (hb : Below W.heap.size W W') : Al W' B v k T := by
  obtain ⟨V, h1, h2, h3⟩ := h
  exact ⟨V, h1, own_only h2 (Only.of_below (S := []) hb) (by simp), fun u hu => (h3 u hu).below hb⟩

theorem grown_keep {W W' : World} {B : Nat} {v : Value} {k : Nat} {V : List Value} {o : Obj} (h : W.ownsRow B 62 1 v k V) (hg : (W.alloc o).grownBy W' v.ownBlock) :
    ∀ (g : Nat) (cur : Array Value), W.heap[g]? = some (.cells cur 9) → W'.heap[g]? = some (.cells cur 9) := by
  intro g cur hc
  have hlt := heap_lt hc
  rw [hg.block g (by simp; omega) ?_]
  · rw [Below.heap_alloc _ _ _ hlt]; exact hc
  · intro e
    rcases h.2 with ⟨rfl, _⟩ | ⟨g', cap, cur', rfl, _, hg', _⟩
    · cases e
    · have : g = g' := by simpa [Value.ownBlock] using e
      subst this
      rw [hc] at hg'
      simp at hg'

theorem rd_take {W : World} {ao : Option Addr} {cp : Nat} {l : List WrD} (h : RdWr W (.slice ao l.length cp) l) (n : Nat) (hn : n ≤ l.length) : RdWr W (sliced ao 0 n cp 2) (l.take n) := by
  have h0 := h.take n hn
  obtain ⟨ao', cp', e, ⟨h1, h2⟩, h3⟩ := h
  cases e
  have e : sliced ao 0 n cp 2 = .slice ao n cp ∨ (n = 0 ∧ ∃ ao', sliced ao 0 n cp 2 = .slice ao' 0 cp ∧ (ao' = none → cp = 0)) := by
    by_cases hl : n = 0
    · right
      refine ⟨hl, _, by unfold sliced; rw [hl]; rfl, fun hh => ?_⟩
      by_cases hc : cp = 0
      · exact hc
      · rw [if_neg (by omega)] at hh
        cases ao with
        | none => exact h2 rfl
        | some a => cases hh
    · left
      have hlt : 0 < l.length := by omega
      obtain ⟨b, off, rfl, _⟩ := h3 0 l[0] (by simp [hlt])
      unfold sliced
      have hc : ¬ cp = 0 := by omega
      rw [if_neg (by omega)]
      simp [Addr.add_mid]
  rcases e with e | ⟨hl, ao', e, hz⟩
  · rw [e]; exact h0
  · rw [e]
    subst hl
    exact ⟨ao', cp, rfl, ⟨Nat.zero_le _, hz⟩, fun i o hi => by simp at hi⟩

theorem rd_drop {W : World} {ao : Option Addr} {cp : Nat} {l : List WrD} (h : RdWr W (.slice ao l.length cp) l) (n : Nat) (hn : n ≤ l.length) : RdWr W (sliced ao n l.length cp 2) (l.drop n) := by
  have hr := h
  obtain ⟨ao', cp', e, ⟨h1, h2⟩, h3⟩ := h
  cases e
  by_cases hl : n = l.length
  · have e : sliced ao n l.length cp 2 = .slice (if cp = n then ao else ao.map (·.add (n * 2))) (l.drop n).length (cp - n) := by unfold sliced; rw [List.length_drop]
    rw [e]
    refine ⟨_, _, rfl, ⟨by rw [List.length_drop]; omega, fun hh => ?_⟩, fun i o hi => by rw [hl] at hi; simp at hi⟩
    by_cases hc : cp = n
    · omega
    · rw [if_neg hc] at hh
      cases ao with
      | none => have := h2 rfl; omega
      | some a => cases hh
  · have hlt : 0 < l.length := by omega
    obtain ⟨b, off, rfl, _⟩ := h3 0 l[0] (by simp [hlt])
    have e : sliced (some ⟨b, off, none⟩) n l.length cp 2 = .slice (some ⟨b, off + n * 2, none⟩) (l.length - n) (cp - n) := by
      unfold sliced
      rw [if_neg (by omega)]
      simp [Addr.add_mid]
    rw [e]
    exact hr.drop n hn

section
variable {P : Program} {ops : Array Oper} {rest : List Oper} {o : Oper} {a : Act} {w : World} {Q : Exit → Act → World → Prop}
theorem at_slice (t : TypeId) (x : Operand) (lo hi mx : Option Operand) (_ : o.op = Op.slice t x lo hi mx) (h : wpList P ops Q (o :: rest) a w) : wpList P ops Q (o :: rest) a w := h
theorem wpList_slice_run (hg : o.guard = none) (t : TypeId) (x : Operand) (lo hi mx : Option Operand) (hop : o.op = Op.slice t x lo hi mx) (v : Value) (hrun : (Instr.sliceAt t (a.eval x) (lo.map a.eval) (hi.map a.eval) (mx.map a.eval)).run P w = .ok v w)
    (hK : wpList P ops Q rest (a.put o.dst v) w) : wpList P ops Q (o :: rest) a w := by
  refine wpList_plain hg fun K hK' => ?_
  unfold Oper.wp
  simp [execOp, hop, hrun, Result.andThen]
  exact hK' _ _ hK
end

theorem Try.sizeWr (w : World) : (sizeOf 57).run Try.prog w = .ok 2 w := Try.sizeOf57 w
theorem Try.uWr : Try.prog.underlying 48 = some (.slice (Try.prog.elem 48)) := by kernel_rfl
theorem run_take (ao : Option Addr) (len cp n : Nat) (hn : n ≤ cp) (w : World) : (Instr.sliceAt 48 (.slice ao len cp) none (some (.int .i64 (n : Int))) none).run Try.prog w = .ok (sliced ao 0 n cp 2) w := by
  rw [run_sliceAt_slice _ _ _ _ _ _ Try.uWr, run_slice_h w 48 ao len cp Try.uWr .i64 (n : Int) (by omega) (by omega)]
  have e : Try.prog.elem 48 = 57 := by kernel_rfl
  rw [e, Try.sizeWr]
  simp [Result.andThen]
theorem run_drop (ao : Option Addr) (len cp n : Nat) (hn : n ≤ len) (w : World) : (Instr.sliceAt 48 (.slice ao len cp) (some (.int .i64 (n : Int))) none none).run Try.prog w = .ok (sliced ao n len cp 2) w := by
  rw [run_sliceAt_slice _ _ _ _ _ _ Try.uWr, run_slice_l w 48 ao len cp Try.uWr .i64 (n : Int) (by omega) (by omega)]
  have e : Try.prog.elem 48 = 57 := by kernel_rfl
  rw [e, Try.sizeWr]
  simp [Result.andThen]

theorem Try.infoSS : (Try.prog.info? 62).map (fun i => (i.zero, i.size, i.bytes)) = some (some (.slice none 0 0), 1, 24) := by kernel_rfl
end Go.Proofs.Ytblhmfkohbdmeaa
