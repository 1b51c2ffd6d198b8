/-
  The reference's points; its table in the world.
-/
import Derived.Test.YtfhbkaiioiihjaaDoorDiG
import Derived.Test.YtfhbkaiioiihjaaDoorDlL
import Derived.Deep.DeepCutAuto
import Derived.BigRegion
import Derived.BigQuiet
namespace Go.Proofs.YtfhbkaiioiihjaaDoor
open Go.ChangeShapes Go.WideShapes Go.ChangeAt Go.RowKit Go.PlainAid

set_option maxRecDepth 20000 in
set_option maxHeartbeats 1000000 in
theorem rpoints_any (a b : ByteArray) (w : World) (ha : a.size ≤ 1048576) (hb : b.size ≤ 1048576) :
    Calls Tryd.prog 20 #[.string a, .string b] w fun e w' => ∃ vA vB, e = .returned (.tuple #[vA, vB, .int .i64 (ptE a b)]) ∧ (ptE a b = 0 → RdP w' vA (pts a) ∧ RdP w' vB (pts b)) ∧ Below w.heap.size w w' := by
  rcases valid_or_bad a with ⟨n, hv⟩ | ⟨k, hx⟩
  · have c1 := refPoints_ok a n w ha hv
    have e1 := cpl_ok hv
    have p1 : ptL a n = pts a := by rw [pts, e1, Int.toNat_natCast]
    rw [p1] at c1
    have mn : n ≤ a.size := by have := (cpl_le a).2; omega
    rcases valid_or_bad b with ⟨m, hu⟩ | ⟨k, hx⟩
    · have c2 := fun W => refPoints_ok b m W hb hu
      have e2 := cpl_ok hu
      have p2 : ptL b m = pts b := by rw [pts, e2, Int.toNat_natCast]
      rw [p2] at c2
      have mm : m ≤ b.size := by have := (cpl_le b).2; omega
      have l1 : (pts a).length = n := by rw [← p1, ptL_length]
      have l2 : (pts b).length = m := by rw [← p2, ptL_length]
      have HE : Hid (ptE a b = if n ≤ 1000 ∧ m ≤ 1000 then 0 else 91) := by
        show _ = _
        rw [ptE, e1, e2, if_pos ⟨by omega, by omega⟩]
        by_cases q : n ≤ 1000 ∧ m ≤ 1000
        · rw [if_pos q, if_pos ⟨by omega, by omega⟩]
        · rw [if_neg q, if_neg (fun h => q ⟨by omega, by omega⟩)]
      clear e1 e2 p1 p2 hv hu
      generalize pts a = zA at *
      generalize pts b = zB at *
      generalize ptE a b = x at *
      by_cases d1 : n ≤ 1000
      · by_cases d2 : m ≤ 1000
        · have HX : Hid (x = 0) := by show _ = _; rw [HE.out, if_pos ⟨d1, d2⟩]
          have d1' : ¬ (1000 : Int) < (n : Int) := by omega
          have d2' : ¬ (1000 : Int) < (m : Int) := by omega
          clear HE
          go_enter Tryd.func20, Tryd.ntmps20
          go_wp2_with fail
          refine c1.mono ?_
          rintro e w1 ⟨v1, rfl, ho1, hb1⟩
          obtain ⟨ao, cp, rfl⟩ := own_form ho1
          rw [← l1] at ho1
          have r1 := rdp_own ho1
          clear c1 ho1
          go_wp2_with fail
          refine (c2 _).mono ?_
          rintro e w2 ⟨v2, rfl, ho2, hb2⟩
          obtain ⟨bo, bp, rfl⟩ := own_form ho2
          rw [← l2] at ho2
          have r2 := rdp_own ho2
          have HR : Hid _ := And.intro (And.intro (r1.below hb2) r2) (chain hb1 hb2)
          clear c2 ho2 r1 r2 hb1 hb2
          go_wp2_with fail
          go_ret3
          rw [HX.out]
          exact ⟨_, _, rfl, fun _ => by rw [l1, l2] at HR; exact HR.out.1, HR.out.2⟩
        · have HX : Hid (x = 91) := by show _ = _; rw [HE.out, if_neg (fun h => d2 h.2)]
          have d1' : ¬ (1000 : Int) < (n : Int) := by omega
          have d2' : (1000 : Int) < (m : Int) := by omega
          clear HE
          go_enter Tryd.func20, Tryd.ntmps20
          go_wp2_with fail
          refine c1.mono ?_
          rintro e w1 ⟨v1, rfl, ho1, hb1⟩
          obtain ⟨ao, cp, rfl⟩ := own_form ho1
          clear c1 ho1
          go_wp2_with fail
          refine (c2 _).mono ?_
          rintro e w2 ⟨v2, rfl, ho2, hb2⟩
          obtain ⟨bo, bp, rfl⟩ := own_form ho2
          have hb := chain hb1 hb2
          clear c2 ho2 hb1 hb2
          go_wp2_with fail
          go_ret3
          rw [HX.out]
          exact ⟨_, _, rfl, (fun h => by cases h), hb⟩
      · have HX : Hid (x = 91) := by show _ = _; rw [HE.out, if_neg (fun h => d1 h.1)]
        have d1' : (1000 : Int) < (n : Int) := by omega
        clear HE
        go_enter Tryd.func20, Tryd.ntmps20
        go_wp2_with fail
        refine c1.mono ?_
        rintro e w1 ⟨v1, rfl, ho1, hb1⟩
        obtain ⟨ao, cp, rfl⟩ := own_form ho1
        clear c1 ho1
        go_wp2_with fail
        refine (c2 _).mono ?_
        rintro e w2 ⟨v2, rfl, ho2, hb2⟩
        obtain ⟨bo, bp, rfl⟩ := own_form ho2
        have hb := chain hb1 hb2
        clear c2 ho2 hb1 hb2
        go_wp2_with fail
        go_ret3
        rw [HX.out]
        exact ⟨_, _, rfl, (fun h => by cases h), hb⟩
    · have c2 := fun W => refPoints_bad b k W hb hx
      have HX : Hid (ptE a b = 10) := by show _ = _; rw [ptE, if_neg (fun h => by rw [cpl_bad hx] at h; omega)]
      go_enter Tryd.func20, Tryd.ntmps20
      go_wp2_with fail
      refine c1.mono ?_
      rintro e w1 ⟨v1, rfl, ho1, hb1⟩
      go_wp2_with fail
      refine (c2 _).mono ?_
      rintro e w2 ⟨rfl, hb2⟩
      have hb := chain hb1 hb2
      go_wp2_with fail
      go_ret3
      rw [HX.out]
      exact ⟨_, _, rfl, (fun h => by cases h), hb⟩
  · have c1 := refPoints_bad a k w ha hx
    have HX : Hid (ptE a b = 10) := by show _ = _; rw [ptE, if_neg (fun h => by rw [cpl_bad hx] at h; omega)]
    rcases valid_or_bad b with ⟨m, hu⟩ | ⟨j, hy⟩
    · have c2 := fun W => refPoints_ok b m W hb hu
      go_enter Tryd.func20, Tryd.ntmps20
      go_wp2_with fail
      refine c1.mono ?_
      rintro e w1 ⟨rfl, hb1⟩
      go_wp2_with fail
      refine (c2 _).mono ?_
      rintro e w2 ⟨v2, rfl, ho2, hb2⟩
      have hb := chain hb1 hb2
      go_wp2_with fail
      go_ret3
      rw [HX.out]
      exact ⟨_, _, rfl, (fun h => by cases h), hb⟩
    · have c2 := fun W => refPoints_bad b j W hb hy
      go_enter Tryd.func20, Tryd.ntmps20
      go_wp2_with fail
      refine c1.mono ?_
      rintro e w1 ⟨rfl, hb1⟩
      go_wp2_with fail
      refine (c2 _).mono ?_
      rintro e w2 ⟨rfl, hb2⟩
      have hb := chain hb1 hb2
      go_wp2_with fail
      go_ret3
      rw [HX.out]
      exact ⟨_, _, rfl, (fun h => by cases h), hb⟩

/-- A row of numbers, told as a function. -/
def intC (N : Nat) (F : Nat → Nat) : Array Value := ((List.range N).map fun k => Value.int .i64 (F k : Int)).toArray
def Rw (W : World) (g N : Nat) (F : Nat → Nat) : Prop := W.heap[g]? = some (.cells (intC N F) 3 (0, 0))
theorem intC_size (N : Nat) (F : Nat → Nat) : (intC N F).size = N := by simp [intC]
theorem intC_get (N : Nat) (F : Nat → Nat) (k : Nat) : (intC N F)[k]? = if k < N then some (.int .i64 (F k : Int)) else none := by
  by_cases h : k < N
  · rw [if_pos h]; simp [intC, h]
  · rw [if_neg h]; simp [intC]; omega
theorem Rw.cell {W : World} {g N : Nat} {F : Nat → Nat} (h : Rw W g N F) (k : Nat) (hk : k < N) : W.cell? ⟨g, k, none⟩ = some (.int .i64 (F k : Int)) := by
  rw [cell_of_row _ _ k _ _ (0, 0) h, intC_get, if_pos hk]
theorem Rw.put {W : World} {g N : Nat} {F : Nat → Nat} (h : Rw W g N F) (j v : Nat) : Rw (W.setCell ⟨g, j, none⟩ (.int .i64 (v : Int))) g N (putT F j v) := by
  unfold Rw
  rw [heap_setCell h]
  congr 2
  apply Array.ext_getElem?
  intro k
  rw [Array.getElem?_setIfInBounds, intC_get, intC_get, intC_size]
  unfold putT
  by_cases e : j = k
  · subst e; simp
  · simp [e, show ¬ k = j from fun q => e q.symm]
theorem Rw.other {W : World} {g N p j : Nat} {F : Nat → Nat} {x : Value} (h : Rw W g N F) (hp : g ≠ p) : Rw (W.setCell ⟨p, j, none⟩ x) g N F := by
  unfold Rw
  rw [Below.heap_setCell _ ⟨p, j, none⟩ _ g hp]
  exact h
/-- The row of rows: those from k on are made. -/
def topC (n m k : Nat) (R : Nat → Nat) : Array Value := ((List.range (n + 1)).map fun i => if i < k then Value.slice none 0 0 else .slice (some ⟨R i, 0, none⟩) (m + 1) (m + 1)).toArray
theorem topC_size (n m k : Nat) (R : Nat → Nat) : (topC n m k R).size = n + 1 := by simp [topC]
theorem topC_get (n m k : Nat) (R : Nat → Nat) (i : Nat) : (topC n m k R)[i]? = if i < n + 1 then some (if i < k then Value.slice none 0 0 else .slice (some ⟨R i, 0, none⟩) (m + 1) (m + 1)) else none := by
  by_cases h : i < n + 1
  · rw [if_pos h]; simp [topC, h]
  · rw [if_neg h]; simp [topC]; omega
/-- The table on its way. -/
structure Tp (w W : World) (g : Nat) (n m k : Nat) (R : Nat → Nat) (F : Nat → Nat → Nat) : Prop where
  top : W.heap[g]? = some (.cells (topC n m k R) 47 (0, 0))
  row : ∀ i, k ≤ i → i ≤ n → Rw W (R i) (m + 1) (F i)
  gs : w.heap.size ≤ g
  rs : ∀ i, k ≤ i → i ≤ n → w.heap.size ≤ R i
  ne : ∀ i j, k ≤ i → i ≤ n → k ≤ j → j ≤ n → R i = R j → i = j
  bel : Below w.heap.size w W
theorem Tp.cell {w W : World} {g n m k : Nat} {R : Nat → Nat} {F : Nat → Nat → Nat} (h : Tp w W g n m k R F) (i : Nat) (h1 : k ≤ i) (h2 : i ≤ n) : W.cell? ⟨g, i, none⟩ = some (.slice (some ⟨R i, 0, none⟩) (m + 1) (m + 1)) := by
  rw [cell_of_row _ _ i _ _ (0, 0) h.top, topC_get, if_pos (by omega), if_neg (by omega)]
theorem Tp.frz {w W : World} {g n m k : Nat} {R : Nat → Nat} {F : Nat → Nat → Nat} (h : Tp w W g n m k R F) (i : Nat) : W.frozen? ⟨g, i, none⟩ = false := YtfhbkaiioiihjaaDoor.frz h.top i
theorem Tp.gR {w W : World} {g n m k : Nat} {R : Nat → Nat} {F : Nat → Nat → Nat} (h : Tp w W g n m k R F) (i : Nat) (h1 : k ≤ i) (h2 : i ≤ n) : g ≠ R i := by
  intro e
  have a := h.top
  have b := h.row i h1 h2
  unfold Rw at b
  rw [← e, a] at b
  simp at b
theorem Tp.drew {w W : World} {g n m k : Nat} {R : Nat → Nat} {F : Nat → Nat → Nat} (h : Tp w W g n m k R F) : Tp w W.drew g n m k R F := ⟨h.top, h.row, h.gs, h.rs, h.ne, h.bel.drew⟩
def putF (F : Nat → Nat → Nat) (i j v : Nat) : Nat → Nat → Nat := fun a => if a = i then putT (F i) j v else F a
theorem Tp.put {w W : World} {g n m k : Nat} {R : Nat → Nat} {F : Nat → Nat → Nat} (h : Tp w W g n m k R F) (i j v : Nat) (h1 : k ≤ i) (h2 : i ≤ n) :
    Tp w (W.setCell ⟨R i, j, none⟩ (.int .i64 (v : Int))) g n m k R (putF F i j v) := by
  have hs := h.rs i h1 h2
  refine ⟨?_, fun a a1 a2 => ?_, h.gs, h.rs, h.ne, below_set h.bel hs h.bel.size⟩
  · rw [Below.heap_setCell _ ⟨R i, j, none⟩ _ g (h.gR i h1 h2)]
    exact h.top
  · unfold putF
    by_cases e : a = i
    · subst e
      rw [if_pos rfl]
      exact (h.row a a1 a2).put j v
    · rw [if_neg e]
      exact (h.row a a1 a2).other (fun q => e (h.ne a i a1 a2 h1 h2 q))
end Go.Proofs.YtfhbkaiioiihjaaDoor
