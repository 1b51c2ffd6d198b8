/-
  The laws of record: Copied.
-/
import Derived.Test.YtdheddgdlindmaaMonT
import Derived.Test.YtdheddgdlindmaaDArU
import Derived.Test.YtdheddgdlindmaaRcU
import Derived.Test.YtdheddgdlindmaaRcQ
import Derived.Test.YtdheddgdlindmaaRcR
import Derived.Laws.AppendOwn
import Derived.Laws.OwnMore
namespace Go.Proofs.Ytdheddgdlindmaa
open Go.ChangeShapes Go.WideShapes Go.ChangeAt Go.RowKit Go.PlainAid

theorem run_append_nil (cp : Nat) {T e ty : TypeId} {i0 : TypeInfo} (w : World) (hT : Try.prog.underlying T = some (.slice e)) (hin : Try.prog.info? e = some i0) : (Builtin.append_ #[T, T] ty #[.slice none 0 0, .slice none 0 cp]).run Try.prog w = .ok (.slice none 0 0) w := by
  simp [Builtin.append_, run_underlying hT, sizeOf, typeInfo, hin, Builtin.lenOf, Builtin.firstCells]
set_option maxRecDepth 20000 in
/-- append(nil, l...): a row in memory of its own. -/
theorem wp_dupG {W : World} {o : Oper} {a : Act} {K : Act → World → Prop} {Q : Exit → Act → World → Prop} (s x : Operand) {T e : TypeId} {i0 : TypeInfo} {zv : Value} {z by8 n cp B : Nat} {ao : Option Addr} {xs : List Value} (hT : Try.prog.underlying T = some (.slice e)) (hin : Try.prog.info? e = some i0) (hz0 : i0.zero = some zv) (hz1 : i0.size = z) (hz2 : i0.bytes = by8) (hzs : zv.cells.size = z) (hzp : 0 < z)
    (ho : o.op = .call { callee := .builtin .append, args := #[s, x], argTypes := #[T, T] }) (hs : a.eval s = .slice none 0 0) (hx : a.eval x = .slice ao n cp)
    (hlen : xs.length = n * z) (hc : ∀ ad, ao = some ad → ∀ j u, xs[j]? = some u → W.cell? (ad.add j) = some u) (hn : ao = none → n = 0) (h1 : ∀ u ∈ xs, u.oneCell' = true) (h63 : n ≤ maxLen) (hby : n * by8 ≤ 140737488355328) (hB : B ≤ W.heap.size)
    (h : ∀ a' k' w', w'.ownsRow B e z (.slice a' n k') n xs → Below W.heap.size W w' → K (a.put o.dst (.slice a' n k')) w') : o.wp Try.prog a W K Q := by
  have hnil := World.ownsRow_nil W B e z
  cases ao with
  | none =>
    have h0 := hn rfl
    subst h0
    have hxs : xs = [] := List.eq_nil_of_length_eq_zero (by omega)
    subst hxs
    have hrun := run_append_nil (ty := o.type) cp W hT hin
    unfold Oper.wp
    simp [execOp, ho, resolve, invoke, builtin, hs, hx, hrun, Result.andThen]
    exact h none 0 W hnil (Below.refl _ _)
  | some ad =>
    refine wp_append_own W s x T ho B e i0 zv z by8 hT hin hz0 hz1 hz2 hzs hzp (.slice none 0 0) 0 [] hs hnil ad n cp xs hx hlen (hc ad rfl) h1 (by omega) (by rw [Nat.zero_add]; exact hby) hB ?_
    intro v' w' ho' hg _
    rw [Nat.zero_add, List.nil_append] at ho'
    obtain ⟨a', k', rfl⟩ := own_form ho'
    exact h a' k' w' ho' ⟨hg.os, hg.tape, hg.output, hg.size, fun k hk => hg.block k hk (by simp [Value.ownBlock])⟩
theorem ivs_one (l : List Int) : ∀ u ∈ ivs l, u.oneCell' = true := by
  intro u hu
  unfold ivs at hu
  obtain ⟨n, -, rfl⟩ := List.mem_map.1 hu
  rfl
theorem ucs_len : ∀ l : List CuD, (ucs l).length = l.length * 3
  | [] => rfl
  | o :: l => by simp [ucs, ucs_len l]; omega
theorem ucs_one : ∀ (l : List CuD), ∀ u ∈ ucs l, u.oneCell' = true
  | [], u, hu => by simp [ucs] at hu
  | o :: l, u, hu => by
    have ih := ucs_one l u
    simp [ucs] at hu
    rcases hu with rfl | rfl | rfl | hu
    · rfl
    · rfl
    · rfl
    · exact ih hu
theorem adK (b off j : Nat) : (⟨b, off, none⟩ : Addr).add j = ⟨b, off + j, none⟩ := by unfold Addr.add; split <;> simp_all
theorem rdi_src {W : World} {ao : Option Addr} {cp : Nat} {l : List Int} (h : RdI W (.slice ao l.length cp) l) : (∀ ad, ao = some ad → ∀ j u, (ivs l)[j]? = some u → W.cell? (ad.add j) = some u) ∧ (ao = none → l.length = 0) := by
  obtain ⟨ao', cp', e, hc⟩ := h
  simp only [Value.slice.injEq] at e
  obtain ⟨rfl, -, rfl⟩ := e
  refine ⟨fun ad had j u hj => ?_, fun hn => ?_⟩
  · unfold ivs at hj
    rw [List.getElem?_map] at hj
    cases hl : l[j]? with
    | none => rw [hl] at hj; cases hj
    | some n =>
      rw [hl] at hj
      simp at hj
      obtain ⟨b, off, e, -, hcell⟩ := hc j n hl
      rw [had] at e
      cases e
      rw [adK, hcell, hj]
  · cases l with
    | nil => rfl
    | cons n l => obtain ⟨b, off, e, -⟩ := hc 0 n rfl; rw [hn] at e; cases e
theorem rdd_src {W : World} {ao : Option Addr} {cp : Nat} {l : List OpD} (h : RdD W (.slice ao l.length cp) l) : (∀ ad, ao = some ad → ∀ j u, (ocs l)[j]? = some u → W.cell? (ad.add j) = some u) ∧ (ao = none → l.length = 0) := by
  have h' := h
  obtain ⟨ao', cp', e, -, hc⟩ := h
  simp only [Value.slice.injEq] at e
  obtain ⟨rfl, -, rfl⟩ := e
  refine ⟨fun ad had j u hj => ?_, fun hn => ?_⟩
  · cases l with
    | nil => simp [ocs] at hj
    | cons o l =>
      obtain ⟨b, off, e, -⟩ := hc 0 o rfl
      rw [had] at e
      cases e
      subst had
      exact rdd_cells h' j u hj
  · cases l with
    | nil => rfl
    | cons n l => obtain ⟨b, off, e, -⟩ := hc 0 n rfl; rw [hn] at e; cases e
theorem rdcu_src {W : World} {ao : Option Addr} {cp : Nat} {l : List CuD} (h : RdCu W (.slice ao l.length cp) l) : (∀ ad, ao = some ad → ∀ j u, (ucs l)[j]? = some u → W.cell? (ad.add j) = some u) ∧ (ao = none → l.length = 0) := by
  obtain ⟨ao', cp', e, hc⟩ := h
  simp only [Value.slice.injEq] at e
  obtain ⟨rfl, -, rfl⟩ := e
  refine ⟨fun ad had j u hj => ?_, fun hn => ?_⟩
  · have hjl := (List.getElem?_eq_some_iff.1 hj).1
    rw [ucs_len] at hjl
    have hi : j / 3 < l.length := by omega
    obtain ⟨b, off, e, -, c0, c1, c2⟩ := hc (j / 3) l[j / 3] (by simp [hi])
    rw [had] at e
    cases e
    obtain ⟨q0, q1, q2⟩ := ucs_at l (j / 3) l[j / 3] (by simp [hi])
    rw [adK]
    have hm : j % 3 = 0 ∨ j % 3 = 1 ∨ j % 3 = 2 := by omega
    rcases hm with hm | hm | hm
    · have ej : j = j / 3 * 3 := by omega
      rw [ej, q0] at hj
      rw [← Option.some.inj hj, show off + j = off + j / 3 * 3 by omega]
      exact c0
    · have ej : j = j / 3 * 3 + 1 := by omega
      rw [ej, q1] at hj
      rw [← Option.some.inj hj, show off + j = off + j / 3 * 3 + 1 by omega]
      exact c1
    · have ej : j = j / 3 * 3 + 2 := by omega
      rw [ej, q2] at hj
      rw [← Option.some.inj hj, show off + j = off + j / 3 * 3 + 2 by omega]
      exact c2
  · cases l with
    | nil => rfl
    | cons n l => obtain ⟨b, off, e, -⟩ := hc 0 n rfl; rw [hn] at e; cases e

def phKa (gx gp g off nl kc k n clg : Nat) (alg : Option Addr) (xs : List Value) : Nat → Value → World → Prop
  | 0, v, _ => v = (.pointer (some ⟨gx, 1, none⟩))
  | 1, v, _ => v = (.slice none 0 0)
  | 2, v, _ => v = (.pointer (some ⟨gp, 2, none⟩))
  | 3, v, _ => v = (.slice (some ⟨g, off, none⟩) nl kc)
  | 4, v, _ => v = (.int .i64 (k : Int))
  | 5, v, _ => v = (.pointer (some ⟨g, off + k * 6, none⟩))
  | 6, v, _ => v = (.pointer (some ⟨g, off + k * 6 + 1, none⟩))
  | 7, v, _ => v = (.slice alg n clg)
  | 8, v, W => ∃ a c, v = .slice a n c ∧ W.ownsRow gx 3 1 (.slice a n c) n xs
  | 9, v, _ => v = (.pointer (some ⟨gx, 1, none⟩))
  | _, _, _ => True

theorem phKa_stays {gx gp g off nl kc k n clg : Nat} {alg : Option Addr} {xs : List Value} (i : Nat) (v : Value) (w w' : World) (h : phKa gx gp g off nl kc k n clg alg xs i v w) (_hg : Below w.heap.size w w') : phKa gx gp g off nl kc k n clg alg xs i v w' := by
  unfold phKa at h ⊢
  split at h
  all_goals first
    | exact h
    | trivial
    | (obtain ⟨a, c, e, ho⟩ := h; exact ⟨a, c, e, own_belowG ho _hg⟩)

def phKb (gx gp g off nl kc k n clg : Nat) (alg : Option Addr) (xs : List Value) : Nat → Value → World → Prop
  | 0, v, _ => v = (.pointer (some ⟨gx, 2, none⟩))
  | 1, v, _ => v = (.slice none 0 0)
  | 2, v, _ => v = (.pointer (some ⟨gp, 2, none⟩))
  | 3, v, _ => v = (.slice (some ⟨g, off, none⟩) nl kc)
  | 4, v, _ => v = (.int .i64 (k : Int))
  | 5, v, _ => v = (.pointer (some ⟨g, off + k * 6, none⟩))
  | 6, v, _ => v = (.pointer (some ⟨g, off + k * 6 + 2, none⟩))
  | 7, v, _ => v = (.slice alg n clg)
  | 8, v, W => ∃ a c, v = .slice a n c ∧ W.ownsRow gx 96 3 (.slice a n c) n xs
  | 9, v, _ => v = (.pointer (some ⟨gx, 2, none⟩))
  | _, _, _ => True

theorem phKb_stays {gx gp g off nl kc k n clg : Nat} {alg : Option Addr} {xs : List Value} (i : Nat) (v : Value) (w w' : World) (h : phKb gx gp g off nl kc k n clg alg xs i v w) (_hg : Below w.heap.size w w') : phKb gx gp g off nl kc k n clg alg xs i v w' := by
  unfold phKb at h ⊢
  split at h
  all_goals first
    | exact h
    | trivial
    | (obtain ⟨a, c, e, ho⟩ := h; exact ⟨a, c, e, own_belowG ho _hg⟩)

def phKc (gx gp g off nl kc k n clg : Nat) (alg : Option Addr) (xs : List Value) : Nat → Value → World → Prop
  | 0, v, _ => v = (.pointer (some ⟨gx, 3, none⟩))
  | 1, v, _ => v = (.slice none 0 0)
  | 2, v, _ => v = (.pointer (some ⟨gp, 2, none⟩))
  | 3, v, _ => v = (.slice (some ⟨g, off, none⟩) nl kc)
  | 4, v, _ => v = (.int .i64 (k : Int))
  | 5, v, _ => v = (.pointer (some ⟨g, off + k * 6, none⟩))
  | 6, v, _ => v = (.pointer (some ⟨g, off + k * 6 + 3, none⟩))
  | 7, v, _ => v = (.slice alg n clg)
  | 8, v, W => ∃ a c, v = .slice a n c ∧ W.ownsRow gx 96 3 (.slice a n c) n xs
  | 9, v, _ => v = (.pointer (some ⟨gx, 3, none⟩))
  | _, _, _ => True

theorem phKc_stays {gx gp g off nl kc k n clg : Nat} {alg : Option Addr} {xs : List Value} (i : Nat) (v : Value) (w w' : World) (h : phKc gx gp g off nl kc k n clg alg xs i v w) (_hg : Below w.heap.size w w') : phKc gx gp g off nl kc k n clg alg xs i v w' := by
  unfold phKc at h ⊢
  split at h
  all_goals first
    | exact h
    | trivial
    | (obtain ⟨a, c, e, ho⟩ := h; exact ⟨a, c, e, own_belowG ho _hg⟩)

def phKd (gx gp g off nl kc k n clg : Nat) (alg : Option Addr) (xs : List Value) : Nat → Value → World → Prop
  | 0, v, _ => v = (.pointer (some ⟨gx, 2, none⟩))
  | 1, v, _ => v = (.slice none 0 0)
  | 2, v, _ => v = (.pointer (some ⟨gp, 3, none⟩))
  | 3, v, _ => v = (.slice (some ⟨g, off, none⟩) nl kc)
  | 4, v, _ => v = (.int .i64 (k : Int))
  | 5, v, _ => v = (.pointer (some ⟨g, off + k * 3, none⟩))
  | 6, v, _ => v = (.pointer (some ⟨g, off + k * 3 + 2, none⟩))
  | 7, v, _ => v = (.slice alg n clg)
  | 8, v, W => ∃ a c, v = .slice a n c ∧ W.ownsRow gx 3 1 (.slice a n c) n xs
  | 9, v, _ => v = (.pointer (some ⟨gx, 2, none⟩))
  | _, _, _ => True

theorem phKd_stays {gx gp g off nl kc k n clg : Nat} {alg : Option Addr} {xs : List Value} (i : Nat) (v : Value) (w w' : World) (h : phKd gx gp g off nl kc k n clg alg xs i v w) (_hg : Below w.heap.size w w') : phKd gx gp g off nl kc k n clg alg xs i v w' := by
  unfold phKd at h ⊢
  split at h
  all_goals first
    | exact h
    | trivial
    | (obtain ⟨a, c, e, ho⟩ := h; exact ⟨a, c, e, own_belowG ho _hg⟩)

end Go.Proofs.Ytdheddgdlindmaa
