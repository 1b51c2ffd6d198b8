/-
  The contract of the reference's Built.
-/
import Derived.Test.YtfhbkaiioiihjaaDoorDrF
namespace Go.Proofs.YtfhbkaiioiihjaaDoor
open Go.ChangeShapes Go.WideShapes Go.ChangeAt Go.RowKit Go.PlainAid

/-- How put may go. -/
inductive PutTo : List OpD → OpD → List OpD → Prop
  | nil (x : OpD) : PutTo [] x [x]
  | new (L : List OpD) (y x : OpD) : y.k ≠ x.k → PutTo (L ++ [y]) x (L ++ [y] ++ [x])
  | join (L : List OpD) (N : Nat) : PutTo (L ++ [kOp N]) ⟨1, 1, ⟨#[]⟩⟩ (L ++ [kOp (N + 1)])
theorem put_any (base : Nat) (d : Value) (D : List OpD) (x : OpD) (D' : List OpD) (w : World) (hb : base ≤ w.heap.size) (hl : D.length ≤ 100000) (hN : ∀ o ∈ D, o.n ≤ 100000) (ho : w.ownsRow base 60 3 d D.length (ocs D)) (hp : PutTo D x D') :
    Calls Tryd.prog 37 #[d, .agg #[.int .i64 x.k, .int .i64 x.n, .string x.t]] w fun e w' => ∃ u, e = .returned u ∧ w'.ownsRow base 60 3 u D'.length (ocs D') ∧ Below base w w' := by
  cases hp with
  | nil => exact put_nil base d x w hb ho
  | new L y _ h => exact put_new base d L y x w hb (by simp at hl; omega) ho h
  | join L N => exact put_join base d L N w hb (by simp at hl; omega) (by have := hN (kOp N) (by simp); simp [kOp] at this; omega) ho

/-- What Built has written: all but what has changed since the last keep. -/
def JU.outP (τ : JU) : List PS := τ.D ++ (if 0 < τ.kept then [.keep τ.kept] else [])
/-- A state that joining comes to. -/
structure JU.Ok (τ : JU) : Prop where
  z : τ.kept = 0 → τ.D = []
  d : ∀ D y, τ.D = D ++ [y] → y.op.k ≠ 1
theorem flush_last (k : Nat) (p : List Int) (g : Nat) (h : 0 < p.length ∨ 0 < g) (A : List PS) : ∃ D y, A ++ flushP k p g = D ++ [y] ∧ y.op.k ≠ 1 := by
  by_cases hg : 0 < g
  · exact ⟨A ++ ((if 0 < k then [.keep k] else []) ++ (if 0 < p.length then [.ins p] else [])), .rem g, by simp [flushP, hg], show (3 : Int) ≠ 1 by decide⟩
  · have hp : 0 < p.length := by omega
    exact ⟨A ++ (if 0 < k then [.keep k] else []), .ins p, by simp [flushP, hg, hp], show (2 : Int) ≠ 1 by decide⟩
theorem snoc_inj {α : Type _} {a b : List α} {x y : α} (h : a ++ [x] = b ++ [y]) : x = y := by
  have := congrArg List.getLast? h
  simpa using this
theorem ok_add {τ : JU} (h : τ.Ok) (x : U) : (τ.add x).Ok := by
  cases x with
  | K =>
    simp only [JU.add]
    split
    · rename_i hc
      refine ⟨fun h => by simp at h, fun D y e => ?_⟩
      obtain ⟨D', y', e', hy⟩ := flush_last τ.kept τ.put τ.gone hc τ.D
      simp only at e
      rw [e'] at e
      rw [← snoc_inj e]
      exact hy
    · exact ⟨fun h => by simp at h, h.d⟩
  | R => exact ⟨h.z, h.d⟩
  | I z => exact ⟨h.z, h.d⟩
theorem ok_ju : ∀ (w : List U) {τ : JU}, τ.Ok → (ju τ w).Ok
  | [], _, h => h
  | x :: w, _, h => by rw [ju_cons]; exact ok_ju w (ok_add h x)

/-- The word of a form's gaps from a on: what is put in, and whether the code point behind goes. -/
def gapW (ins : List ByteArray) (gone : List Bool) : Nat → List U
  | 0 => []
  | i + 1 => gapW ins gone i ++ ((pts (ins.getD i ⟨#[]⟩)).map .I ++ [if gone.getD i false then .R else .K])
def formW (ins : List ByteArray) (gone : List Bool) : List U := gapW ins gone gone.length ++ (pts (ins.getD gone.length ⟨#[]⟩)).map .I

/-- put of what changed, behind a keep or nothing. -/
theorem putTo_ins {τ : JU} (h : τ.Ok) (x : OpD) (hx : x.k ≠ 1) : PutTo (τ.outP.map PS.op) x (τ.outP.map PS.op ++ [x]) := by
  unfold JU.outP
  by_cases h0 : 0 < τ.kept
  · rw [if_pos h0, List.map_append, List.map_cons, List.map_nil]
    exact .new _ _ _ (fun e => hx e.symm)
  · have hD : τ.D = [] := h.z (by omega)
    rw [if_neg h0, hD]
    exact .nil x
theorem baseU_gap (ins : List ByteArray) (gone : List Bool) : ∀ i, baseU (gapW ins gone i) = i
  | 0 => rfl
  | i + 1 => by
    rw [gapW, baseU_append, baseU_append, baseU_gap ins gone i, baseU_I]
    split <;> simp [baseU]
theorem ju_bd (w : List U) : (ju ⟨[], 0, [], 0⟩ w).kept ≤ baseU w ∧ (ju ⟨[], 0, [], 0⟩ w).gone ≤ baseU w ∧ (ju ⟨[], 0, [], 0⟩ w).D.length ≤ 3 * baseU w ∧ ∀ s ∈ (ju ⟨[], 0, [], 0⟩ w).D, s.op.n ≤ baseU w := by
  induction w using rev_ind with
  | h0 => simp [ju, baseU]
  | h1 w x ih =>
    obtain ⟨h1, h2, h3, h4⟩ := ih
    rw [ju_append, baseU_append]
    generalize ju ⟨[], 0, [], 0⟩ w = τ at *
    rw [show ju τ [x] = τ.add x from rfl]
    cases x with
    | K =>
      have e : baseU [U.K] = 1 := rfl
      rw [e]
      simp only [JU.add]
      split
      · refine ⟨by simp only; omega, by simp, ?_, fun s hs => ?_⟩
        · simp only [List.length_append]
          have : (flushP τ.kept τ.put τ.gone).length ≤ 3 := by unfold flushP; split <;> split <;> split <;> simp
          rename_i hc
          omega
        · simp only [List.mem_append] at hs
          rcases hs with hs | hs
          · have := h4 s hs; omega
          · simp only [flushP, List.mem_append] at hs
            rcases hs with hs | hs | hs
            · split at hs
              · simp at hs; subst hs; simp only [PS.op, PS.st, St.op]; omega
              · simp at hs
            · split at hs
              · simp at hs; subst hs; simp only [PS.op, PS.st, St.op]; omega
              · simp at hs
            · split at hs
              · simp at hs; subst hs; simp only [PS.op, PS.st, St.op]; omega
              · simp at hs
      · exact ⟨by simp only; omega, by simp only; omega, by simp only; omega, fun s hs => by have := h4 s hs; omega⟩
    | R =>
      have e : baseU [U.R] = 1 := rfl
      rw [e]
      exact ⟨by simp only [JU.add]; omega, by simp only [JU.add]; omega, by simp only [JU.add]; omega, fun s hs => by have := h4 s hs; omega⟩
    | I z =>
      have e : baseU [U.I z] = 0 := rfl
      rw [e]
      exact ⟨h1, h2, h3, h4⟩
end Go.Proofs.YtfhbkaiioiihjaaDoor
