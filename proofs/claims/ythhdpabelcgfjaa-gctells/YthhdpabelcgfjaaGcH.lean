/-
  gc's reference: at, has.
-/
import Derived.Test.YthhdpabelcgfjaaGcF
namespace Go.Proofs.Ythhdpabelcgfjaa
open Go.Maps Go.ChangeShapes Go.WideShapes Go.ChangeAt Go.RowKit Go.PlainAid

/-- The place of the commit of a number; -1: there is none. -/
def atC : List CoD → Int → Int
  | [], _ => -1
  | x :: l, n => if n = x.n then 0 else if atC l n = -1 then -1 else atC l n + 1
theorem atC_ge : ∀ (l : List CoD) (n : Int), -1 ≤ atC l n
  | [], _ => by simp [atC]
  | x :: l, n => by
    have := atC_ge l n
    simp only [atC]
    split
    · omega
    · split <;> omega
theorem atC_some : ∀ (l : List CoD) (n : Int), (0 ≤ atC l n ↔ fdC l n = true)
  | [], n => by simp [atC, fdC, paL]
  | x :: l, n => by
    have h1 := atC_some l n
    have h2 := atC_ge l n
    simp only [atC, fdC, paL] at h1 ⊢
    split
    · simp
    · rw [← h1]
      split <;> omega
theorem atC_none {l : List CoD} {n : Int} (h : fdC l n = false) : atC l n = -1 := by
  have h1 := atC_some l n
  have h2 := atC_ge l n
  rw [h] at h1
  have : ¬ 0 ≤ atC l n := fun h => by simpa using h1.1 h
  omega
theorem atC_at : ∀ (l : List CoD) (n : Int) (ps : List Int), paL l n = some ps → ∃ k : Nat, atC l n = (k : Int) ∧ k < l.length ∧ ∃ x, l[k]? = some x ∧ x.n = n ∧ x.ps = ps
  | [], _, _, h => by cases h
  | x :: l, n, ps, h => by
    simp only [paL] at h
    split at h
    · rename_i e
      cases h
      exact ⟨0, by simp [atC, e], by simp, x, rfl, e.symm, rfl⟩
    · rename_i e
      obtain ⟨k, h1, h2, y, h3, h4, h5⟩ := atC_at l n ps h
      refine ⟨k + 1, ?_, by simp; omega, y, by simpa using h3, h4, h5⟩
      simp only [atC]
      rw [if_neg e, h1, if_neg (by omega)]
      omega
/-- The first k commits have not the number. -/
theorem atC_find : ∀ (l : List CoD) (n : Int) (k : Nat) (x : CoD), l[k]? = some x → x.n = n → (∀ y ∈ l.take k, y.n ≠ n) → atC l n = (k : Int)
  | [], _, _, _, h, _, _ => by simp at h
  | y :: l, n, 0, x, h, e, _ => by simp at h; subst h; simp [atC, e]
  | y :: l, n, k + 1, x, h, e, hn => by
    have h1 := atC_find l n k x (by simpa using h) e (fun z hz => hn z (by simp [hz]))
    have h2 : ¬ n = y.n := fun e2 => hn y (by simp) e2.symm
    simp only [atC]
    rw [if_neg h2, h1, if_neg (by omega)]
    omega
theorem atC_out {l : List CoD} {n : Int} (h : ∀ y ∈ l, y.n ≠ n) : atC l n = -1 := by
  refine atC_none ?_
  cases hf : fdC l n with
  | false => rfl
  | true =>
    obtain ⟨y, hy, e⟩ := List.mem_map.1 ((fdC_mem l n).1 hf)
    exact absurd e (h y hy)
set_option maxRecDepth 20000 in
set_option maxHeartbeats 1000000 in
theorem at21_any (S : StD) (v1 v2 v3 : Value) (n : Int) (w : World) (hr : RdSt w v1 v2 v3 S) (hl : S.cs.length * 96 ≤ 140737488355328) :
    Calls Try.prog 26 #[.agg (S.fs v1 v2 v3), .int .i64 n] w fun e w' => e = .returned (.int .i64 (atC S.cs n)) ∧ Below w.heap.size w w' := by
  obtain ⟨a1, k1, e1, hcs⟩ := hr.c
  subst e1
  obtain ⟨a2, k2, e2, -⟩ := hr.b
  subst e2
  obtain ⟨a3, k3, e3, -⟩ := hr.u
  subst e3
  have hp0 := sb_new w S (.slice a1 S.cs.length k1) (.slice a2 S.bs.length k2) (.slice a3 S.us.length k3)
  have hb0 := alloc_bR w (.cells (S.fs (.slice a1 S.cs.length k1) (.slice a2 S.bs.length k2) (.slice a3 S.us.length k3)) 26)
  clear hr
  obtain ⟨nc, nb, cs, bs, uu⟩ := S
  simp only [StD.fs] at *
  obtain ⟨R, HR⟩ : ∃ R, Hid (atC cs n = R) := ⟨_, rfl⟩
  rw [HR.out]
  go_enter Try.func26, Try.ntmps26
  go_upto_region 2 with fail
  generalize w.alloc (.cells #[.int .i64 nc, .int .i64 nb, .slice a1 cs.length k1, .slice a2 bs.length k2, .slice a3 uu.length k3] 26) = w1 at *
  obtain ⟨x0, x1, x2, x3, x4⟩ := cellsSB hp0
  go_loopw [5] (fun i wr => ∃ k : Nat, k ≤ cs.length ∧ i = .int .i64 (k : Int) ∧ wr = w1 ∧ Hid (∀ y ∈ cs.take k, y.n ≠ n)) (fun i _ => cs.length - (Go.RowKit.intOf i).toNat)
  case atStart => exact ⟨0, by omega, rfl, rfl, by show ∀ y ∈ cs.take 0, _; simp⟩
  case round =>
    obtain ⟨k, hk, rfl, rfl, HT⟩ := hrel
    by_cases hlt : k < cs.length
    · have hlt' : (k : Int) < (cs.length : Int) := by omega
      have hxk : cs[k]? = some cs[k] := by simp [hlt]
      obtain ⟨g, off, _, _, _, rfl, hg, ⟨c0, -⟩, -⟩ := hcs k _ hxk
      rw [← hb0.cell (p := ⟨g, _, none⟩) hg] at c0
      by_cases he : (cs[k]).n = n
      · have HF : Hid (R = (k : Int)) := by
          show _ = _
          rw [← HR.out]
          exact atC_find cs n k _ hxk he HT.out
        rw [he] at c0
        clear hxk he HT hcs HR
        go_wp2_with fail
        go_ret
        exact ⟨by rw [HF.out]; rfl, hb0⟩
      · have HT2 : Hid (∀ y ∈ cs.take (k + 1), y.n ≠ n) := by
          show ∀ y ∈ cs.take (k + 1), _
          intro y hy
          rw [List.take_succ_eq_append_getElem hlt] at hy
          rcases List.mem_append.1 hy with hy | hy
          · exact HT.out y hy
          · simp at hy; subst hy; exact he
        have hne : ((cs[k]).n == n) = false := beq_eq_false_iff_ne.2 he
        clear hxk he HT hcs
        generalize (cs[k]).n = xn at *
        go_wp2_with fail
        exact ⟨⟨k + 1, by omega, by go_num, trivial, HT2⟩, by simp [Go.RowKit.intOf]; omega⟩
    · have hlt' : ¬ (k : Int) < (cs.length : Int) := by omega
      have HF : Hid (R = -1) := by
        show _ = _
        rw [← HR.out]
        have h1 := HT.out
        rw [List.take_of_length_le (by omega)] at h1
        exact atC_out h1
      clear HT hcs HR
      go_wp2_with fail
      go_ret
      exact ⟨by rw [HF.out]; rfl, hb0⟩
set_option maxRecDepth 20000 in
set_option maxHeartbeats 1000000 in
theorem rhas21_any (va : Value) (A : List Int) (n : Int) (w : World) (hA : RdI w va A) (hm : A.length ≤ 9223372036854775000) :
    Calls Try.prog 24 #[va, .int .i64 n] w fun e w' => e = .returned (.bool (decide (n ∈ A))) ∧ Below w.heap.size w w' := by
  obtain ⟨ao, ac, rfl, hac⟩ := hA
  obtain ⟨res, Hres⟩ : ∃ res, Hid (decide (n ∈ A) = res) := ⟨_, rfl⟩
  rw [Hres.out]
  go_enter Try.func24, Try.ntmps24
  go_wp2_with fail
  go_loopw [5] (fun i wr => ∃ k : Nat, k ≤ A.length ∧ i = .int .i64 (k : Int) ∧ Hid (n ∉ A.take k) ∧ Below w.heap.size w wr) (fun i _ => A.length - (Go.RowKit.intOf i).toNat)
  case atStart => exact ⟨0, by omega, rfl, by show n ∉ A.take 0; simp, Below.refl _ _⟩
  case round =>
    obtain ⟨k, hk, rfl, HT, hbl⟩ := hrel
    by_cases hlt : k < A.length
    · have hlt' : (k : Int) < (A.length : Int) := by omega
      obtain ⟨b1, o1, rfl, hb1, c0⟩ := hac k A[k] (by simp [hlt])
      rw [← hbl.cell (p := ⟨b1, _, none⟩) hb1] at c0
      clear hac
      by_cases he : A[k] = n
      · have HR : Hid (res = true) := by
          show _ = _
          rw [← Hres.out]
          exact decide_eq_true (he ▸ List.getElem_mem hlt)
        rw [he] at c0
        clear he HT
        go_wp2_with fail
        go_ret
        exact ⟨by rw [HR.out]; rfl, hbl⟩
      · have HN : Hid (n ∉ A.take (k + 1)) := by
          show n ∉ _
          rw [List.take_succ_eq_append_getElem hlt]
          intro h
          rcases List.mem_append.1 h with h | h
          · exact HT.out h
          · simp at h; exact he h.symm
        have hne : (A[k] == n) = false := beq_eq_false_iff_ne.2 he
        clear he HT
        generalize A[k] = y at *
        go_wp2_with fail
        exact ⟨⟨k + 1, by omega, by go_num, HN, hbl⟩, by simp [Go.RowKit.intOf]; omega⟩
    · have hlt' : ¬ (k : Int) < (A.length : Int) := by omega
      have HR : Hid (res = false) := by
        show _ = _
        rw [← Hres.out]
        refine decide_eq_false ?_
        have := HT.out
        rwa [List.take_of_length_le (by omega)] at this
      clear hac HT
      go_wp2_with fail
      go_ret
      exact ⟨by rw [HR.out]; rfl, hbl⟩
end Go.Proofs.Ythhdpabelcgfjaa
