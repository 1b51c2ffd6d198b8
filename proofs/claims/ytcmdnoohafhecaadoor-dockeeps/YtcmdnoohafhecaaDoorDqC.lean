/-
  A delta's way through a document, as the law's three counters see it. No walk.
-/
import Derived.Test.YtcmdnoohafhecaaDoorDqB
namespace Go.Proofs.YtcmdnoohafhecaaDoor
open Go.ChangeShapes Go.WideShapes Go.ChangeAt Go.RowKit Go.PlainAid

/-- The counters at the step `i`: `t` behind the old atoms, `T` behind the new ones, `F` the next fresh number. -/
def Ws (c q : Int) (A b : List Atm) (S : List St) (i t T : Nat) (F : Int) : Prop :=
  ∃ (x : Nat) (n : Int) (P : List Atm), Wy c q A b S i t x n P ∧ P.length + x = T ∧ n + (x : Int) = F ∧ F ≤ 1000
theorem Ws.start {c q : Int} {A b : List Atm} {S : List St} (h1 : bsum S = A.length) (h2 : b = apA c q A 0 S) (h3 : isum S ≤ 1000) : Ws c q A b S 0 0 0 0 :=
  ⟨0, 0, [], Wy.start h1 h2 h3, rfl, rfl, by omega⟩
theorem Ws.fin {c q : Int} {A b : List Atm} {S : List St} {t T : Nat} {F : Int} (h : Ws c q A b S S.length t T F) : T = b.length := by
  obtain ⟨x, n, P, hw, rfl, -, -⟩ := h
  exact hw.fin
theorem Ws.bd {c q : Int} {A b : List Atm} {S : List St} {i t T : Nat} {F : Int} (h : Ws c q A b S i t T F) : i ≤ S.length ∧ t ≤ A.length ∧ T ≤ b.length ∧ 0 ≤ F ∧ F ≤ 1000 := by
  obtain ⟨x, n, P, hw, rfl, rfl, h1⟩ := h
  have hb := hw.hb
  have hx := hw.hx
  have ht := hw.ht
  have h0 := hw.n0
  have hle := lead_le c q (apA c q (A.drop t) n (S.drop i))
  refine ⟨hw.hi, by omega, ?_, by omega, h1⟩
  rw [hb, List.length_append]
  rcases hx with hx | hx <;> omega
theorem Ws.rem {c q : Int} {A b : List Atm} {S : List St} {i t T k : Nat} {F : Int} (h : Ws c q A b S i t T F) (hi : i < S.length) (hs : S[i] = .rem k) : Ws c q A b S (i + 1) (t + k) T F := by
  obtain ⟨x, n, P, hw, h2, h3, h1⟩ := h
  exact ⟨x, n, P, hw.rem hi hs, h2, h3, h1⟩
theorem Ws.keep {c q : Int} {A b : List Atm} {S : List St} {i t T k : Nat} {F : Int} (h : Ws c q A b S i t T F) (hi : i < S.length) (hs : S[i] = .keep k) (hk : 1 ≤ k) (hA : ∀ y ∈ A, ¬ (y.c = c ∧ y.q = q)) :
    t + k ≤ A.length ∧ T + k ≤ b.length ∧ (∀ j, j < k → b[T + j]? = A[t + j]?) ∧ Ws c q A b S (i + 1) (t + k) (T + k) F := by
  obtain ⟨x, n, P, hw, h2, h3, h1⟩ := h
  obtain ⟨rfl, g1, g2, g3, g4, g5⟩ := hw.keep hi hs hk hA
  obtain rfl : P.length = T := h2
  exact ⟨g1, g3, g2, 0, n, _, g4, g5, h3, h1⟩
theorem Ws.ins {c q : Int} {A b : List Atm} {S : List St} {i t T : Nat} {F : Int} {tt : ByteArray} (h : Ws c q A b S i t T F) (hi : i < S.length) (hs : S[i] = .ins tt) (hok : ∀ s ∈ S, s.Ok) (hA : ∀ y ∈ A, ¬ (y.c = c ∧ y.q = q)) :
    ∃ M : Nat, T + M ≤ b.length ∧ F + (M : Int) ≤ 1000 ∧ (∀ d, d < M → ∃ z, b[T + d]? = some ⟨c, q, F + (d : Int), z⟩) ∧ (∀ y, b[T + M]? = some y → ¬ (y.c = c ∧ y.q = q)) ∧ Ws c q A b S (i + 1) t (T + M) (F + (M : Int)) := by
  obtain ⟨x, n, P, hw, rfl, rfl, h1⟩ := h
  obtain ⟨m, g1, g2, g3, g4, g5, x', n', P', g6, g7, g8⟩ := hw.ins hi hs hok hA
  refine ⟨m - x, by omega, by omega, fun d hd => ?_, fun y hy => g5 y ?_, x', n', P', g6, by omega, by omega, by omega⟩
  · obtain ⟨z, hz⟩ := g4 (x + d) (by omega) (by omega)
    refine ⟨z, ?_⟩
    rw [show P.length + x + d = P.length + (x + d) by omega, hz, show n + ((x + d : Nat) : Int) = n + (x : Int) + (d : Int) by omega]
  · rw [show P.length + m = P.length + x + (m - x) by omega]; exact hy
end Go.Proofs.YtcmdnoohafhecaaDoor
