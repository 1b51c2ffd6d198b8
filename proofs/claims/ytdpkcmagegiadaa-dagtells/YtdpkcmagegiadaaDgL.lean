/-
  The laws' own small functions: same, has; and live.
-/
import Derived.Test.YtdpkcmagegiadaaDgT
import Derived.Lib.Hide
namespace Go.Proofs.Ytdpkcmagegiadaa
open Go.Maps Go.WideShapes Go.RowKit Go.ChangeShapes Go.ChangeAt Go.PlainAid

theorem ret_eqB {a b : Bool} (h : a = b) : Ending.returned (.bool a) = .returned (.bool b) := by rw [h]
theorem take_eq_snoc {A B : List Int} {k : Nat} (ha : k < A.length) (hb : k < B.length) (h : A.take k = B.take k) (he : A[k] = B[k]) : A.take (k + 1) = B.take (k + 1) := by
  rw [List.take_succ_eq_append_getElem ha, List.take_succ_eq_append_getElem hb, h, he]

set_option maxRecDepth 20000 in
set_option maxHeartbeats 2000000 in
theorem same_any {w : World} {va vb : Value} {A B : List Int} (hA : RdI w va A) (hB : RdI w vb B) (la : A.length ≤ 9223372036854775807) (lb : B.length ≤ 9223372036854775807) :
    Calls Try.prog 14 #[va, vb] w fun e w' => e = .returned (.bool (decide (A = B))) ∧ Below w.heap.size w w' := by
  have hrA : ∀ W, Below w.heap.size w W → RdI W va A := fun W h => hA.below h
  have hrB : ∀ W, Below w.heap.size w W → RdI W vb B := fun W h => hB.below h
  obtain ⟨ao, cp, rfl, _⟩ := hA
  obtain ⟨bo, dp, rfl, _⟩ := hB
  by_cases hl : A.length = B.length
  · have hl' : (A.length : Int) = (B.length : Int) := by omega
    go_enter Try.func14, Try.ntmps14
    go_wp2_with fail
    go_loopw [5] (fun i wr => ∃ k : Nat, k ≤ A.length ∧ i = .int .i64 (k : Int) ∧ A.take k = B.take k ∧ Below w.heap.size w wr) (fun i _ => A.length - (Go.RowKit.intOf i).toNat)
    case atStart => exact ⟨0, Nat.zero_le _, rfl, rfl, Below.refl _ _⟩
    case round =>
      obtain ⟨k, hk, rfl, hT, hb⟩ := hrel
      have HT : Hid (A.take k = B.take k) := hT
      clear hT
      by_cases c : k < A.length
      · have c' : (k : Int) < (A.length : Int) := by omega
        have d : k < B.length := by omega
        have d' : (k : Int) < (B.length : Int) := by omega
        obtain ⟨_, _, e1, hcA⟩ := hrA wr hb
        obtain ⟨g, off, e2, hg, cA⟩ := hcA k A[k] (by simp [c])
        simp at e1
        obtain ⟨rfl, rfl⟩ := e1
        subst e2
        obtain ⟨_, _, e1, hcB⟩ := hrB wr hb
        obtain ⟨g', off', e2, hg', cB⟩ := hcB k B[k] (by simp [d])
        simp at e1
        obtain ⟨rfl, rfl⟩ := e1
        subst e2
        clear hcA hcB hrA hrB
        have HS : Hid (A[k] = B[k] → A.take (k + 1) = B.take (k + 1)) := take_eq_snoc c d HT.out
        have HN : Hid (A[k] ≠ B[k] → decide (A = B) = false) := fun hne => by
          refine decide_eq_false (fun e => hne ?_)
          subst e; rfl
        clear HT
        generalize A[k] = x at *
        generalize B[k] = y at *
        by_cases he : x = y
        · subst he
          have HS' := HS.out rfl
          have HS2 : Hid (A.take (k + 1) = B.take (k + 1)) := HS'
          clear HS HN HS' hl'
          go_wp2_with fail
          go_region
          go_wp2_with fail
          exact ⟨⟨k + 1, by omega, by go_num, HS2.out, hb.drew⟩, by simp only [Go.RowKit.intOf]; omega⟩
        · have HN' := HN.out he
          have HN2 : Hid (decide (A = B) = false) := HN'
          clear HS HN HN' hl'
          go_wp2_with fail
          go_region
          go_wp2_with fail
          go_ret
          exact ⟨ret_eqB HN2.out.symm, hb.drew⟩
      · obtain rfl : k = A.length := by omega
        have HE : Hid (decide (A = B) = true) := by
          have := HT.out
          rw [List.take_length, hl, List.take_length] at this
          exact decide_eq_true this
        clear HT hrA hrB hl'
        go_wp2_with fail
        go_ret
        exact ⟨ret_eqB HE.out.symm, hb⟩
  · have hl' : (A.length : Int) ≠ (B.length : Int) := by omega
    have HE : Hid (decide (A = B) = false) := decide_eq_false (fun e => hl (by rw [e]))
    clear hrA hrB hl
    go_enter Try.func14, Try.ntmps14
    go_wp2_with fail
    go_ret
    exact ⟨ret_eqB HE.out.symm, Below.refl _ _⟩

set_option maxRecDepth 20000 in
set_option maxHeartbeats 2000000 in
theorem lhas_any {w : World} {va : Value} {A : List Int} (n : Int) (hA : RdI w va A) (la : A.length ≤ 9223372036854775807) :
    Calls Try.prog 17 #[va, .int .i64 n] w fun e w' => e = .returned (.bool (A.contains n)) ∧ w' = w := by
  obtain ⟨ao, cp, rfl, hcA⟩ := hA
  go_enter Try.func17, Try.ntmps17
  go_wp2_with fail
  go_loopw [5] (fun i wr => ∃ k : Nat, k ≤ A.length ∧ i = .int .i64 (k : Int) ∧ n ∉ A.take k ∧ wr = w) (fun i _ => A.length - (Go.RowKit.intOf i).toNat)
  case atStart => exact ⟨0, Nat.zero_le _, rfl, by simp, rfl⟩
  case round =>
    obtain ⟨k, hk, rfl, hT, rfl⟩ := hrel
    have HT : Hid (n ∉ A.take k) := hT
    clear hT
    by_cases c : k < A.length
    · have c' : (k : Int) < (A.length : Int) := by omega
      obtain ⟨g, off, e2, hg, cA⟩ := hcA k A[k] (by simp [c])
      subst e2
      clear hcA
      have HS : Hid (A[k] ≠ n → n ∉ A.take (k + 1)) := fun hne hm => by
        rw [List.take_succ_eq_append_getElem c] at hm
        rcases List.mem_append.1 hm with hm | hm
        · exact HT.out hm
        · simp at hm; exact hne hm.symm
      have HN : Hid (A[k] = n → A.contains n = true) := fun he => by
        rw [← he]
        simp [List.contains_eq_mem]
      clear HT
      generalize A[k] = x at *
      by_cases he : x = n
      · have HN' := HN.out he
        have HN2 : Hid (A.contains n = true) := HN'
        clear HS HN HN'
        go_wp2_with fail
        go_ret
        exact ⟨ret_eqB HN2.out.symm, rfl⟩
      · have HS' := HS.out he
        have HS2 : Hid (n ∉ A.take (k + 1)) := HS'
        clear HS HN HS'
        go_wp2_with fail
        exact ⟨⟨k + 1, by omega, by go_num, HS2.out, by first | rfl | trivial⟩, by simp only [Go.RowKit.intOf]; omega⟩
    · obtain rfl : k = A.length := by omega
      have HE : Hid (A.contains n = false) := by
        have := HT.out
        rw [List.take_length] at this
        have h : A.contains n = false := by simp [List.contains_eq_mem, this]
        exact h
      clear HT
      go_wp2_with fail
      go_ret
      exact ⟨ret_eqB HE.out.symm, rfl⟩

/-- A row of numbers in a block. -/
theorem rdi_row {W : World} {g : Nat} {l : List Int} {t : TypeId} {fr : Nat × Nat} (cp : Nat) (h : W.heap[g]? = some (.cells (icells l).toArray t fr)) : RdI W (.slice (some ⟨g, 0, none⟩) l.length cp) l :=
  ⟨_, cp, rfl, fun i o hi => ⟨g, 0, rfl, heap_lt h, by simp [World.cell?, h, icells, hi]⟩⟩

/-- The chapter's example. -/
def exL : List Lk := [⟨1, []⟩, ⟨2, [1]⟩, ⟨3, [1]⟩, ⟨4, [2, 3]⟩, ⟨5, [3, 2]⟩]
theorem ex_up : upR exL 4 = ([1, 2, 3, 4], 0) := by decide +kernel
theorem ex_co1 : coR exL 4 5 = ([2, 3], 0) := by decide +kernel
theorem ex_co2 : coR exL 2 4 = ([2], 0) := by decide +kernel
theorem ex_tip : tipR exL = [4, 5] := by decide +kernel
theorem ex_ok : ∀ k ∈ exL, k.Ok := by
  have key : ∀ k : Lk, (-9223372036854775808 ≤ k.num ∧ k.num ≤ 9223372036854775807 ∧ k.ps.length ≤ maxLen ∧ ∀ p ∈ k.ps, -9223372036854775808 ≤ p ∧ p ≤ 9223372036854775807) → k.Ok := fun k h => ⟨h.1, h.2.1, h.2.2.1, h.2.2.2⟩
  intro k hk
  refine key k ?_
  simp only [exL, List.mem_cons, List.not_mem_nil, or_false] at hk
  unfold maxLen
  rcases hk with rfl | rfl | rfl | rfl | rfl <;> simp
/-- The example, built. -/
def exW (w : World) : World := ((((w.alloc (.cells #[.int .i64 1] 3)).alloc (.cells #[.int .i64 1] 3)).alloc (.cells #[.int .i64 2, .int .i64 3] 3)).alloc (.cells #[.int .i64 3, .int .i64 2] 3)).alloc
  (.cells #[.int .i64 1, .slice none 0 0, .int .i64 2, .slice (some ⟨w.heap.size, 0, none⟩) 1 1, .int .i64 3, .slice (some ⟨w.heap.size + 1, 0, none⟩) 1 1, .int .i64 4, .slice (some ⟨w.heap.size + 1 + 1, 0, none⟩) 2 2, .int .i64 5, .slice (some ⟨w.heap.size + 1 + 1 + 1, 0, none⟩) 2 2] 36)
theorem ex_heap (w : World) : (exW w).heap.size = w.heap.size + 5 ∧ (exW w).heap[w.heap.size]? = some (.cells #[.int .i64 1] 3) ∧ (exW w).heap[w.heap.size + 1]? = some (.cells #[.int .i64 1] 3) ∧ (exW w).heap[w.heap.size + 1 + 1]? = some (.cells #[.int .i64 2, .int .i64 3] 3) ∧ (exW w).heap[w.heap.size + 1 + 1 + 1]? = some (.cells #[.int .i64 3, .int .i64 2] 3) ∧
    (exW w).heap[w.heap.size + 1 + 1 + 1 + 1]? = some (.cells #[.int .i64 1, .slice none 0 0, .int .i64 2, .slice (some ⟨w.heap.size, 0, none⟩) 1 1, .int .i64 3, .slice (some ⟨w.heap.size + 1, 0, none⟩) 1 1, .int .i64 4, .slice (some ⟨w.heap.size + 1 + 1, 0, none⟩) 2 2, .int .i64 5, .slice (some ⟨w.heap.size + 1 + 1 + 1, 0, none⟩) 2 2] 36) := by
  unfold exW
  refine ⟨by simp, ?_, ?_, ?_, ?_, ?_⟩
  · rw [Below.heap_alloc _ _ _ (by simp only [World.size_alloc]; omega), Below.heap_alloc _ _ _ (by simp only [World.size_alloc]; omega), Below.heap_alloc _ _ _ (by simp only [World.size_alloc]; omega), Below.heap_alloc _ _ _ (by simp only [World.size_alloc]; omega)]
    exact heap_alloc_new w _
  · rw [Below.heap_alloc _ _ _ (by simp only [World.size_alloc]; omega), Below.heap_alloc _ _ _ (by simp only [World.size_alloc]; omega), Below.heap_alloc _ _ _ (by simp only [World.size_alloc]; omega)]
    have := heap_alloc_new (w.alloc (.cells #[.int .i64 1] 3)) (.cells #[.int .i64 1] 3)
    simpa only [World.size_alloc] using this
  · rw [Below.heap_alloc _ _ _ (by simp only [World.size_alloc]; omega), Below.heap_alloc _ _ _ (by simp only [World.size_alloc]; omega)]
    have := heap_alloc_new ((w.alloc (.cells #[.int .i64 1] 3)).alloc (.cells #[.int .i64 1] 3)) (.cells #[.int .i64 2, .int .i64 3] 3)
    simpa only [World.size_alloc] using this
  · rw [Below.heap_alloc _ _ _ (by simp only [World.size_alloc]; omega)]
    have := heap_alloc_new (((w.alloc (.cells #[.int .i64 1] 3)).alloc (.cells #[.int .i64 1] 3)).alloc (.cells #[.int .i64 2, .int .i64 3] 3)) (.cells #[.int .i64 3, .int .i64 2] 3)
    simpa only [World.size_alloc] using this
  · have := heap_alloc_new ((((w.alloc (.cells #[.int .i64 1] 3)).alloc (.cells #[.int .i64 1] 3)).alloc (.cells #[.int .i64 2, .int .i64 3] 3)).alloc (.cells #[.int .i64 3, .int .i64 2] 3)) (.cells #[.int .i64 1, .slice none 0 0, .int .i64 2, .slice (some ⟨w.heap.size, 0, none⟩) 1 1, .int .i64 3, .slice (some ⟨w.heap.size + 1, 0, none⟩) 1 1, .int .i64 4, .slice (some ⟨w.heap.size + 1 + 1, 0, none⟩) 2 2, .int .i64 5, .slice (some ⟨w.heap.size + 1 + 1 + 1, 0, none⟩) 2 2] 36)
    simpa only [World.size_alloc] using this
theorem ex_rd (w : World) : RdL (exW w) (.slice (some ⟨w.heap.size + 1 + 1 + 1 + 1, 0, none⟩) 5 5) exL := by
  obtain ⟨h0, h1, h2, h3, h4, h5⟩ := ex_heap w
  have r1 : RdI (exW w) (.slice (some ⟨w.heap.size, 0, none⟩) 1 1) [1] := rdi_row (l := [1]) 1 h1
  have r2 : RdI (exW w) (.slice (some ⟨w.heap.size + 1, 0, none⟩) 1 1) [1] := rdi_row (l := [1]) 1 h2
  have r3 : RdI (exW w) (.slice (some ⟨w.heap.size + 1 + 1, 0, none⟩) 2 2) [2, 3] := rdi_row (l := [2, 3]) 2 h3
  have r4 : RdI (exW w) (.slice (some ⟨w.heap.size + 1 + 1 + 1, 0, none⟩) 2 2) [3, 2] := rdi_row (l := [3, 2]) 2 h4
  have hc : ∀ j, (exW w).cell? ⟨w.heap.size + 1 + 1 + 1 + 1, 0 + j, none⟩ = (#[.int .i64 1, .slice none 0 0, .int .i64 2, .slice (some ⟨w.heap.size, 0, none⟩) 1 1, .int .i64 3, .slice (some ⟨w.heap.size + 1, 0, none⟩) 1 1, .int .i64 4, .slice (some ⟨w.heap.size + 1 + 1, 0, none⟩) 2 2, .int .i64 5, .slice (some ⟨w.heap.size + 1 + 1 + 1, 0, none⟩) 2 2] : Array Value)[j]? := fun j => by
    rw [Nat.zero_add]
    simp [World.cell?, h5]
  have hlt : w.heap.size + 1 + 1 + 1 + 1 < (exW w).heap.size := by omega
  refine ⟨_, 5, rfl, ⟨by simp [exL], fun h => by cases h⟩, fun i k hk => ?_⟩
  have hi : i < 5 := (List.getElem?_eq_some_iff.1 hk).1
  match i, hi with
  | 0, _ => cases hk; exact ⟨_, 0, _, rfl, hlt, (hc 0).trans rfl, (hc 1).trans rfl, RdI.nil _⟩
  | 1, _ => cases hk; exact ⟨_, 0, _, rfl, hlt, (hc 2).trans rfl, (hc 3).trans rfl, r1⟩
  | 2, _ => cases hk; exact ⟨_, 0, _, rfl, hlt, (hc 4).trans rfl, (hc 5).trans rfl, r2⟩
  | 3, _ => cases hk; exact ⟨_, 0, _, rfl, hlt, (hc 6).trans rfl, (hc 7).trans rfl, r3⟩
  | 4, _ => cases hk; exact ⟨_, 0, _, rfl, hlt, (hc 8).trans rfl, (hc 9).trans rfl, r4⟩
theorem ex_bel (w : World) : Below w.heap.size w (exW w) := by
  unfold exW
  exact (((((Below.refl _ _).alloc (Nat.le_refl _) _).alloc (by simp) _).alloc (by simp; omega) _).alloc (by simp; omega) _).alloc (by simp; omega) _
/-- A row of numbers, just built. -/
theorem rdi_built (W : World) (l : List Int) : RdI (W.alloc (.cells (icells l).toArray 3)) (.slice (some ⟨W.heap.size, 0, none⟩) l.length l.length) l := rdi_row _ (heap_alloc_new W _)
theorem alloc_below (W : World) (o : Obj) : Below W.heap.size W (W.alloc o) := (Below.refl _ _).alloc (Nat.le_refl _) _

theorem same_eq {w : World} {va vb : Value} {A : List Int} (hA : RdI w va A) (hB : RdI w vb A) (la : A.length ≤ 9223372036854775807) :
    Calls Try.prog 14 #[va, vb] w fun e w' => e = .returned (.bool true) ∧ Below w.heap.size w w' := by
  have := same_any hA hB la la
  rwa [decide_eq_true (rfl : A = A)] at this

set_option maxRecDepth 20000 in
set_option maxHeartbeats 4000000 in
theorem live_any (w : World) : Calls Try.prog 16 #[] w fun e w' => e = .returned (.bool true) ∧ Below w.heap.size w w' := by
  have hr := ex_rd w
  have hb0 := ex_bel w
  have hlen : exL.length ≤ maxLen := by unfold maxLen; simp [exL]
  have cA := Above_any 4 (by decide) (by decide) hr hlen ex_ok
  have cB := fun W (hb : Below (exW w).heap.size (exW w) W) => Common_any 4 5 (by decide) (by decide) (by decide) (by decide) (hr.below hb) hlen ex_ok
  have cC := fun W (hb : Below (exW w).heap.size (exW w) W) => Common_any 2 4 (by decide) (by decide) (by decide) (by decide) (hr.below hb) hlen ex_ok
  have cT := fun W (hb : Below (exW w).heap.size (exW w) W) => Tips_any (hr.below hb) hlen ex_ok
  rw [ex_up] at cA
  simp only [ex_co1] at cB
  simp only [ex_co2] at cC
  simp only [ex_tip] at cT
  clear hr hlen
  go_enter Try.func16, Try.ntmps16
  go_wp2_with fail
  refine cA.mono ?_
  rintro e w1 ⟨u1, rfl, ho1, hb1⟩
  have cB' := cB w1 hb1
  clear cA cB
  go_wp2_with fail
  refine cB'.mono ?_
  rintro e w2 ⟨u2, rfl, ho2, hb2⟩
  have hb12 := chain hb1 hb2
  have cC' := cC w2 hb12
  clear cB' cC
  have r1 := (rdi_own ho1).below hb2
  clear ho1 hb1 hb2
  go_wp2_with fail
  refine cC'.mono ?_
  rintro e w3 ⟨u3, rfl, ho3, hb3⟩
  have hb13 := chain hb12 hb3
  have r1 := r1.below hb3
  have r2 := (rdi_own ho2).below hb3
  have r3 := rdi_own ho3
  clear cC' hb12 hb3 ho2 ho3
  have a4 := alloc_below w3 (.cells #[.int .i64 1, .int .i64 2, .int .i64 3, .int .i64 4] 3)
  have cS := same_eq (r1.below a4) (rdi_built w3 [1, 2, 3, 4]) (by decide)
  go_wp2_with fail
  refine cS.mono ?_
  rintro e w4 ⟨rfl, hb4⟩
  have hb4 := chain a4 hb4
  have hb14 := chain hb13 hb4
  have r2 := r2.below hb4
  have r3 := r3.below hb4
  clear cS hb13 hb4 a4 r1
  have a5 := alloc_below w4 (.cells #[.int .i64 2, .int .i64 3] 3)
  have cS := same_eq (r2.below a5) (rdi_built w4 [2, 3]) (by decide)
  go_wp2_with fail
  refine cS.mono ?_
  rintro e w5 ⟨rfl, hb5⟩
  have hb5 := chain a5 hb5
  have hb15 := chain hb14 hb5
  have r3 := r3.below hb5
  clear cS hb14 hb5 a5 r2
  have a6 := alloc_below w5 (.cells #[.int .i64 2] 3)
  have cS := same_eq (r3.below a6) (rdi_built w5 [2]) (by decide)
  go_wp2_with fail
  refine cS.mono ?_
  rintro e w6 ⟨rfl, hb6⟩
  have hb6 := chain a6 hb6
  have hb16 := chain hb15 hb6
  clear cS hb15 hb6 a6 r3
  have cT' := cT w6 hb16
  go_wp2_with fail
  refine cT'.mono ?_
  rintro e w7 ⟨u7, rfl, ho7, hb7⟩
  have hb17 := chain hb16 hb7
  have r7 := rdi_own ho7
  clear cT' cT hb16 hb7 ho7
  have a8 := alloc_below w7 (.cells #[.int .i64 4, .int .i64 5] 3)
  have cS := same_eq (r7.below a8) (rdi_built w7 [4, 5]) (by decide)
  go_wp2_with fail
  refine cS.mono ?_
  rintro e w9 ⟨rfl, hb9⟩
  have hb19 := chain hb17 (chain a8 hb9)
  clear cS
  go_wp2_with fail
  go_ret
  exact ⟨rfl, chain hb0 hb19⟩
end Go.Proofs.Ytdpkcmagegiadaa
