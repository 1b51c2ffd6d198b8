/-
  Marks of atoms: a map keyed by structs, as a set.
-/
import Derived.Test.YtnfnacjadmhclaaDoorDoT
import Derived.Maps.Own
import Derived.Maps.OwnSet
import Derived.Maps.OwnOps
import Derived.DeepKeys4
namespace Go.Proofs.YtnfnacjadmhclaaDoor
open Go.Maps Go.WideShapes Go.RowKit Go.ChangeShapes Go.ChangeAt Go.PlainAid

theorem laidOutP : laidOutB Tryd.prog = true := by kernel_rfl
theorem atomKeyed : Keyed Tryd.prog 91 := Keyed.of_law (deep_law_laid laidOutP (m := 3) (by decide) (by decide +kernel) (by kernel_rfl) (by kernel_rfl))
/-- An atom as a key. -/
def atV (c q n : Int) : Value := .agg #[.int .i64 c, .int .i64 q, .int .i64 n]
/-- A key of the marks: Client, Seq, number. -/
abbrev AtK := Int × Int × Int
def AtK.Wf (k : AtK) : Prop := (Lit.int .i64 k.1).wf = true ∧ (Lit.int .i64 k.2.1).wf = true ∧ (Lit.int .i64 k.2.2).wf = true
/-- What it reads as. -/
def kA (k : AtK) : Lit := .string (keyBytes [.int .i64 k.1, .int .i64 k.2.1, .int .i64 k.2.2])
theorem lits_int {e : Nat} {c : Int} (hc : (Lit.int .i64 c).wf = true) : Tryd.prog.keyLits (e + 1) 3 [.int .i64 c] = some [.int .i64 c] := by
  simp [Program.keyLits, Tryd.underlying3, hc]
theorem lits_or {e : Nat} {c q : Int} (hc : (Lit.int .i64 c).wf = true) (hq : (Lit.int .i64 q).wf = true) : Tryd.prog.keyLits (e + 1 + 1) 29 [.int .i64 c, .int .i64 q] = some [.int .i64 c, .int .i64 q] := by
  have k2 : Tryd.prog.cellsOf 29 = 2 := by kernel_rfl
  have k3 : Tryd.prog.cellsOf 3 = 1 := by kernel_rfl
  unfold Program.keyLits
  simp only [Tryd.underlying29]
  rw [if_pos ⟨by rw [k2]; rfl, by kernel_rfl⟩]
  simp [k3, lits_int hc, lits_int hq]
theorem lits_at {e : Nat} {c q n : Int} (hc : (Lit.int .i64 c).wf = true) (hq : (Lit.int .i64 q).wf = true) (hn : (Lit.int .i64 n).wf = true) : Tryd.prog.keyLits (e + 1 + 1 + 1) 91 [.int .i64 c, .int .i64 q, .int .i64 n] = some [.int .i64 c, .int .i64 q, .int .i64 n] := by
  have k1 : Tryd.prog.cellsOf 91 = 3 := by kernel_rfl
  have k2 : Tryd.prog.cellsOf 29 = 2 := by kernel_rfl
  have k3 : Tryd.prog.cellsOf 3 = 1 := by kernel_rfl
  unfold Program.keyLits
  simp only [Tryd.underlying91]
  rw [if_pos ⟨by rw [k1]; rfl, by kernel_rfl⟩]
  simp [k2, k3, lits_or hc hq, lits_int hn]
theorem kA_key {k : AtK} (h : AtK.Wf k) : keyOf Tryd.prog 91 (atV k.1 k.2.1 k.2.2) = some (kA k) := by
  have h1 : Tryd.prog.keyType 91 = true := by kernel_rfl
  have hts : Tryd.prog.types.size + 1 = 138 + 1 + 1 + 1 := by kernel_rfl
  have k1 : Tryd.prog.cellsOf 91 = 3 := by kernel_rfl
  have hf : Value.formed Tryd.prog 91 (.agg #[.int .i64 k.1, .int .i64 k.2.1, .int .i64 k.2.2]) = true := by
    simp [Value.formed, Tryd.underlying91, k1]
  unfold keyOf atV
  rw [Tryd.underlying91]
  simp only [h1, Bool.true_and]
  rw [if_pos hf, hts, show (Value.agg #[.int .i64 k.1, .int .i64 k.2.1, .int .i64 k.2.2]).cells.toList = [.int .i64 k.1, .int .i64 k.2.1, .int .i64 k.2.2] from rfl, lits_at h.1 h.2.1 h.2.2]
  rfl
theorem kA_inj {k l : AtK} (hk : AtK.Wf k) (hl : AtK.Wf l) (h : kA k = kA l) : k = l := by
  have h1 := kA_key hk
  have h2 := kA_key hl
  rw [h] at h1
  have e := keyOf_inj_deep (P := Tryd.prog) (m := 3) (by kernel_rfl) (by kernel_rfl) h1 h2
  simp only [atV, Value.agg.injEq] at e
  have e1 := congrArg (fun a : Array Value => (a[0]?, a[1]?, a[2]?)) e
  simp at e1
  obtain ⟨a, b, c⟩ := k
  obtain ⟨a', b', c'⟩ := l
  simp only at e1
  rw [e1.1, e1.2.1, e1.2.2]

/-- The map in block b has just these marks. -/
def Seen (w : World) (b : Nat) (S : List AtK) : Prop :=
  (∀ k ∈ S, AtK.Wf k) ∧ ∃ D : DataW Unit, w.ownsMap Tryd.prog 91 (unitElem (H := Unit)) b S.length D ∧ Maps.size D = S.length ∧ ∀ k, AtK.Wf k → Maps.has D (kA k) = decide (k ∈ S)
theorem seen_new (w : World) : Seen (w.alloc (.map #[] 0)) w.heap.size [] :=
  ⟨by simp, .map [], World.ownsMap_made w _ _ _, rfl, fun k _ => by simp [Maps.has]⟩
/-- One mark more. -/
theorem seen_put {w w' : World} {b : Nat} {S : List AtK} {k : AtK} {D : DataW Unit} (hS : ∀ k ∈ S, AtK.Wf k) (hk : AtK.Wf k) (hn : k ∉ S) (ho : w.ownsMap Tryd.prog 91 (unitElem (H := Unit)) b S.length D) (hs : Maps.size D = S.length) (hh : ∀ k, AtK.Wf k → Maps.has D (kA k) = decide (k ∈ S))
    (ho' : w'.ownsMap Tryd.prog 91 (unitElem (H := Unit)) b (S.length + 1) (D.put (kA k) (.agg []))) : Seen w' b (S ++ [k]) := by
  refine ⟨fun x hx => ?_, D.put (kA k) (.agg []), by simpa using ho', ?_, fun x hx => ?_⟩
  · rcases List.mem_append.1 hx with h | h
    · exact hS x h
    · simp at h; rw [h]; exact hk
  · rw [Maps.size_put (ho.tidy atomKeyed), hh k hk, decide_eq_false hn, hs, List.length_append]
    rfl
  · by_cases he : x = k
    · subst he
      rw [Maps.has_put_same ho.isMap (atomKeyed.key (kA_key hk))]
      simp
    · rw [Maps.has_put_other (fun e => he (kA_inj hx hk e)), hh x hx]
      simp [he]
end Go.Proofs.YtnfnacjadmhclaaDoor
