/-
  Documents, their atoms and names: as data.
-/
import Derived.Test.YtjimolafoihnpaaDoorDqA
import Derived.Test.YtjimolafoihnpaaDoorTrA
import Derived.Maps.Own
import Derived.Maps.OwnSet
import Derived.Maps.OwnOps
import Derived.DeepKeys4
namespace Go.Proofs.YtjimolafoihnpaaDoor.tc
open Go.Maps Go.ChangeShapes Go.WideShapes Go.ChangeAt Go.RowKit Go.PlainAid

theorem chain {w a b : World} (h : Below w.heap.size w a) (k : Below a.heap.size a b) : Below w.heap.size w b := h.trans (k.mono h.size)
/-- Does a run's From count? -/
def fOk (r : RunD) : Bool := decide (0 ≤ r.f) && decide (r.f ≤ 1000000)
/-- The atoms of a run that counts; of a document; of documents. -/
def atR (r : RunD) : List Atm := if fOk r = true then r.ats else []
def aT (l : List RunD) : List Atm := (l.map atR).flatten
def aTs (L : List (List RunD)) : List Atm := (L.map aT).flatten
theorem aT_take {l : List RunD} {k : Nat} (h : k < l.length) : aT (l.take (k + 1)) = aT (l.take k) ++ atR l[k] := by
  rw [List.take_succ_eq_append_getElem h]
  simp only [aT, List.map_append, List.flatten_append, List.map_cons, List.map_nil, List.flatten_cons, List.flatten_nil, List.append_nil]
theorem aTs_take {L : List (List RunD)} {k : Nat} (h : k < L.length) : aTs (L.take (k + 1)) = aTs (L.take k) ++ aT L[k] := by
  rw [List.take_succ_eq_append_getElem h]
  simp only [aTs, List.map_append, List.flatten_append, List.map_cons, List.map_nil, List.flatten_cons, List.flatten_nil, List.append_nil]
theorem aT_le (l : List RunD) (k : Nat) : (aT (l.take k)).length ≤ (aT l).length := by
  have h : aT l = aT (l.take k) ++ aT (l.drop k) := by
    conv => lhs; rw [← List.take_append_drop k l]
    simp only [aT, List.map_append, List.flatten_append]
  rw [h, List.length_append]
  omega
theorem aTs_le (L : List (List RunD)) (k : Nat) : (aTs (L.take k)).length ≤ (aTs L).length := by
  have h : aTs L = aTs (L.take k) ++ aTs (L.drop k) := by
    conv => lhs; rw [← List.take_append_drop k L]
    simp only [aTs, List.map_append, List.flatten_append]
  rw [h, List.length_append]
  omega
/-- The names of keys, in the order in which they are met, behind names that are there. -/
def nms : List AtK → List AtK → List AtK
  | N, [] => N
  | N, k :: ks => nms (if k ∈ N then N else N ++ [k]) ks
theorem nms_app : ∀ (a N b : List AtK), nms N (a ++ b) = nms (nms N a) b
  | [], _, _ => rfl
  | k :: a, N, b => by
    rw [List.cons_append]
    simp only [nms]
    exact nms_app a _ b
theorem nms_pre : ∀ (ks N : List AtK), ∃ t, nms N ks = N ++ t
  | [], N => ⟨[], by simp [nms]⟩
  | k :: ks, N => by
    simp only [nms]
    obtain ⟨t, h⟩ := nms_pre ks (if k ∈ N then N else N ++ [k])
    split at h <;> rename_i hk
    · rw [if_pos hk]; exact ⟨t, h⟩
    · rw [if_neg hk]; exact ⟨k :: t, by rw [h]; simp⟩
theorem nms_nodup : ∀ (ks N : List AtK), N.Nodup → (nms N ks).Nodup
  | [], _, h => h
  | k :: ks, N, h => by
    simp only [nms]
    apply nms_nodup
    split
    · exact h
    · rename_i hk
      rw [List.nodup_append]
      exact ⟨h, by simp, fun a ha b hb => by simp at hb; subst hb; intro e; exact hk (e ▸ ha)⟩
theorem nms_mem {x : AtK} : ∀ (ks N : List AtK), x ∈ nms N ks ↔ x ∈ N ∨ x ∈ ks
  | [], N => by simp [nms]
  | k :: ks, N => by
    simp only [nms]
    rw [nms_mem ks]
    split
    · rename_i hk
      constructor
      · rintro (h | h)
        · exact .inl h
        · exact .inr (by simp [h])
      · rintro (h | h)
        · exact .inl h
        · rcases List.mem_cons.1 h with rfl | h
          · exact .inl hk
          · exact .inr h
    · simp only [List.mem_append, List.mem_cons, List.not_mem_nil, or_false, or_assoc]
theorem nms_len : ∀ (ks N : List AtK), (nms N ks).length ≤ N.length + ks.length
  | [], N => by simp [nms]
  | k :: ks, N => by
    simp only [nms]
    have := nms_len ks (if k ∈ N then N else N ++ [k])
    split at this <;> rename_i hk
    · rw [if_pos hk, List.length_cons]; omega
    · rw [if_neg hk, List.length_cons]; rw [List.length_append, List.length_singleton] at this; omega
/-- The names of atoms. -/
def nmA (l : List Atm) : List AtK := nms [] (l.map Atm.key)
theorem nmA_nodup (l : List Atm) : (nmA l).Nodup := nms_nodup _ _ (by simp)
theorem nmA_mem {l : List Atm} {k : AtK} : k ∈ nmA l ↔ ∃ x ∈ l, x.key = k := by
  rw [nmA, nms_mem]
  simp
theorem nmA_len (l : List Atm) : (nmA l).length ≤ l.length := by
  have := nms_len (l.map Atm.key) []
  rw [List.length_map] at this
  simpa [nmA] using this
theorem nmA_one (l : List Atm) (x : Atm) : nmA (l ++ [x]) = if x.key ∈ nmA l then nmA l else nmA l ++ [x.key] := by
  have e : nmA (l ++ [x]) = nms (nmA l) [x.key] := by simp only [nmA, List.map_append, nms_app, List.map_cons, List.map_nil]
  rw [e, nms]
  by_cases h : x.key ∈ nmA l
  · rw [if_pos h]; rfl
  · rw [if_neg h]; rfl
theorem idx_pre {N t : List AtK} {k : AtK} (h : k ∈ N) : (N ++ t).idxOf k = N.idxOf k := by rw [List.idxOf_append, if_pos h]
theorem nmA_pre (a b : List Atm) : ∃ t, nmA (a ++ b) = nmA a ++ t := by
  simp only [nmA, List.map_append, nms_app]
  exact nms_pre _ _
/-- An atom by its name's place. -/
def dA (N : List AtK) (l : List Atm) : List (Nat × Int) := l.map fun x => (N.idxOf x.key, x.z)
/-- Its cells; the cells of a name. -/
def cA (x : Nat × Int) : List Value := [.int .i64 (x.1 : Int), .int .i64 x.2]
def cN (k : AtK) : List Value := [.int .i64 k.1, .int .i64 k.2.1, .int .i64 k.2.2]
theorem cA_len (x : Nat × Int) : (cA x).length = 2 := rfl
theorem cN_len (k : AtK) : (cN k).length = 3 := rfl

/-! ### The map of names -/
theorem laidOutT : laidOutB Tryd.prog = true := by kernel_rfl
theorem nmLaw : WideMaps.KeyLaw Tryd.prog 111 := deep_law_laid laidOutT (m := 3) (by decide) (by decide +kernel) (by kernel_rfl) (by kernel_rfl)
theorem nmKeyed : Keyed Tryd.prog 111 := Keyed.of_law nmLaw
/-- A key may be. -/
def Wf (k : AtK) : Prop := (Lit.int .i64 k.1).wf = true ∧ (Lit.int .i64 k.2.1).wf = true ∧ (Lit.int .i64 k.2.2).wf = true
def kN (k : AtK) : Lit := .string (keyBytes [.int .i64 k.1, .int .i64 k.2.1, .int .i64 k.2.2])
theorem lits_int {e : Nat} {c : Int} (hc : (Lit.int .i64 c).wf = true) : Tryd.prog.keyLits (e + 1) 3 [.int .i64 c] = some [.int .i64 c] := by
  simp [Program.keyLits, Tryd.underlying3, hc]
theorem lits_or {e : Nat} {c q : Int} (hc : (Lit.int .i64 c).wf = true) (hq : (Lit.int .i64 q).wf = true) : Tryd.prog.keyLits (e + 1 + 1) 29 [.int .i64 c, .int .i64 q] = some [.int .i64 c, .int .i64 q] := by
  have k2 : Tryd.prog.cellsOf 29 = 2 := by kernel_rfl
  have k3 : Tryd.prog.cellsOf 3 = 1 := by kernel_rfl
  unfold Program.keyLits
  simp only [Tryd.underlying29]
  rw [if_pos ⟨by rw [k2]; rfl, by kernel_rfl⟩]
  simp [k3, lits_int hc, lits_int hq]
theorem lits_nm {e : Nat} {c q n : Int} (hc : (Lit.int .i64 c).wf = true) (hq : (Lit.int .i64 q).wf = true) (hn : (Lit.int .i64 n).wf = true) : Tryd.prog.keyLits (e + 1 + 1 + 1) 111 [.int .i64 c, .int .i64 q, .int .i64 n] = some [.int .i64 c, .int .i64 q, .int .i64 n] := by
  have k1 : Tryd.prog.cellsOf 111 = 3 := by kernel_rfl
  have k2 : Tryd.prog.cellsOf 29 = 2 := by kernel_rfl
  have k3 : Tryd.prog.cellsOf 3 = 1 := by kernel_rfl
  unfold Program.keyLits
  simp only [Tryd.underlying111]
  rw [if_pos ⟨by rw [k1]; rfl, by kernel_rfl⟩]
  simp [k2, k3, lits_or hc hq, lits_int hn]
theorem kN_key {k : AtK} (h : Wf k) : keyOf Tryd.prog 111 (.agg #[.int .i64 k.1, .int .i64 k.2.1, .int .i64 k.2.2]) = some (kN k) := by
  have h1 : Tryd.prog.keyType 111 = true := by kernel_rfl
  obtain ⟨m, hts⟩ : ∃ m, Tryd.prog.types.size + 1 = m + 1 + 1 + 1 := by
    have h0 : 2 ≤ Tryd.prog.types.size := by decide +kernel
    exact ⟨Tryd.prog.types.size - 2, by omega⟩
  have k1 : Tryd.prog.cellsOf 111 = 3 := by kernel_rfl
  have hf : Value.formed Tryd.prog 111 (.agg #[.int .i64 k.1, .int .i64 k.2.1, .int .i64 k.2.2]) = true := by
    simp [Value.formed, Tryd.underlying111, k1]
  unfold keyOf
  rw [Tryd.underlying111]
  simp only [h1, Bool.true_and]
  rw [if_pos hf, hts, show (Value.agg #[.int .i64 k.1, .int .i64 k.2.1, .int .i64 k.2.2]).cells.toList = [.int .i64 k.1, .int .i64 k.2.1, .int .i64 k.2.2] from rfl, lits_nm h.1 h.2.1 h.2.2]
  rfl
theorem kN_inj {k l : AtK} (hk : Wf k) (hl : Wf l) (h : kN k = kN l) : k = l := by
  have h1 := kN_key hk
  have h2 := kN_key hl
  rw [h] at h1
  have e := keyOf_inj_deep (P := Tryd.prog) (m := 3) (by kernel_rfl) (by kernel_rfl) h1 h2
  simp only [Value.agg.injEq] at e
  have e1 := congrArg (fun a : Array Value => (a[0]?, a[1]?, a[2]?)) e
  simp at e1
  obtain ⟨a, b, c⟩ := k
  obtain ⟨a', b', c'⟩ := l
  simp only at e1
  rw [e1.1, e1.2.1, e1.2.2]
/-- The map in block b tells of each name its place. -/
def Kn (W : World) (b : Nat) (N : List AtK) : Prop :=
  (∀ k ∈ N, Wf k) ∧ ∃ D : DataW Unit, W.ownsMap Tryd.prog 111 (plainElem (H := Unit) Tryd.prog 3) b N.length D ∧ ∀ k, Wf k → Maps.has D (kN k) = decide (k ∈ N) ∧ (k ∈ N → D.atKey (kN k) (.lit (.int .i64 0)) = .lit (.int .i64 (N.idxOf k : Int)))
theorem Kn.new (w : World) : Kn (w.alloc (.map #[] 0)) w.heap.size [] :=
  ⟨by simp, .map [], World.ownsMap_made w _ _ _, fun k _ => ⟨by simp [Maps.has], fun h => by simp at h⟩⟩
theorem Kn.grown {w w' : World} {b : Nat} {N : List AtK} {o : Option Nat} (h : Kn w b N) (hg : w.grownBy w' o) (ho : o ≠ some b) : Kn w' b N := by
  obtain ⟨h1, D, h2, h3⟩ := h
  exact ⟨h1, D, h2.kept hg (fun e => ho e.symm), h3⟩
theorem Kn.lt {w : World} {b : Nat} {N : List AtK} (h : Kn w b N) : b < w.heap.size := by
  obtain ⟨h1, D, h2, h3⟩ := h
  exact h2.lt
theorem Kn.obj {w : World} {b : Nat} {N : List AtK} (h : Kn w b N) : ∃ es clock, w.heap[b]? = some (.map es clock) := by
  obtain ⟨h1, D, ⟨es, clock, hh, -⟩, h3⟩ := h
  exact ⟨es, clock, hh⟩
/-- A name more. -/
theorem Kn.put {w w' : World} {b : Nat} {N : List AtK} {k : AtK} {D : DataW Unit} (hN : ∀ k ∈ N, Wf k) (hk : Wf k) (hn : k ∉ N) (ho : w.ownsMap Tryd.prog 111 (plainElem (H := Unit) Tryd.prog 3) b N.length D)
    (hh : ∀ k, Wf k → Maps.has D (kN k) = decide (k ∈ N) ∧ (k ∈ N → D.atKey (kN k) (.lit (.int .i64 0)) = .lit (.int .i64 (N.idxOf k : Int))))
    (ho' : w'.ownsMap Tryd.prog 111 (plainElem (H := Unit) Tryd.prog 3) b (N.length + 1) (D.put (kN k) (.lit (.int .i64 (N.length : Int))))) : Kn w' b (N ++ [k]) := by
  refine ⟨fun x hx => ?_, D.put (kN k) (.lit (.int .i64 (N.length : Int))), by simpa using ho', fun x hx => ?_⟩
  · rcases List.mem_append.1 hx with h | h
    · exact hN x h
    · simp at h; rw [h]; exact hk
  · by_cases he : x = k
    · subst he
      refine ⟨?_, fun _ => ?_⟩
      · rw [Maps.has_put_same ho.isMap (nmKeyed.key (kN_key hk))]
        simp
      · rw [Maps.atKey_put_same ho.isMap (nmKeyed.key (kN_key hk)), List.idxOf_append, if_neg hn]
        simp
    · obtain ⟨h1, h2⟩ := hh x hx
      refine ⟨?_, fun hm => ?_⟩
      · rw [Maps.has_put_other (fun e => he (kN_inj hx hk e)), h1]
        simp [he]
      · have hm2 : x ∈ N := by
          rcases List.mem_append.1 hm with h | h
          · exact h
          · simp at h; exact absurd h he
        rw [Maps.atKey_put_other (fun e => he (kN_inj hx hk e)), h2 hm2, List.idxOf_append, if_pos hm2]
theorem zeroIT (u : World) : (zeroValue 3).run Tryd.prog u = .ok (.int .i64 0) u := by kernel_rfl
end Go.Proofs.YtjimolafoihnpaaDoor.tc
