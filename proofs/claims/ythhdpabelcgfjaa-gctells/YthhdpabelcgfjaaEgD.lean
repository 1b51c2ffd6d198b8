/-
  The contracts of rising, childless and and.
-/
import Derived.Test.YthhdpabelcgfjaaEgC
namespace Go.Proofs.Ythhdpabelcgfjaa.dg
open Go.Maps Go.WideShapes Go.RowKit Go.ChangeShapes Go.ChangeAt Go.PlainAid

theorem icells_snoc (l : List Int) (x : Int) : icells (l ++ [x]) = icells l ++ [.int .i64 x] := by simp [icells]
theorem own_int {w1 : World} {base n : Nat} {v' : Value} {L : List Int} {x : Int} (h : w1.ownsRow base 3 1 v' (n + 1) (icells L ++ [.int .i64 x])) (hn : L.length = n) :
    w1.ownsRow base 3 1 v' (L ++ [x]).length (icells (L ++ [x])) := by
  subst hn
  rw [icells_snoc, List.length_append]
  exact h
theorem ris_len (L : List Lk) (m : Nat → Bool) : (ris L m).length ≤ L.length := by
  unfold ris nums
  exact Nat.le_trans (List.length_filter_le _ _) (by simp)

theorem own_lower {w : World} {B B' e z n : Nat} {v : Value} {l : List Value} (h : w.ownsRow B' e z v n l) (hB : B ≤ B') : w.ownsRow B e z v n l := by
  obtain ⟨h1, h2⟩ := h
  refine ⟨h1, ?_⟩
  rcases h2 with h2 | ⟨g, cap, cur, rfl, b, c⟩
  · exact .inl h2
  · exact .inr ⟨g, cap, cur, rfl, Nat.le_trans hB b, c⟩

set_option maxRecDepth 20000 in
set_option maxHeartbeats 2000000 in
theorem rising_any {w : World} {v : Value} {L : List Lk} {b : Nat} {m : Nat → Bool} (B : Nat) (hB : B ≤ w.heap.size) (hv : RdL w v L) (hs : IsSet w b m) (hl : L.length ≤ 300) (hok : ∀ k ∈ L, k.Ok) :
    Calls Try.prog 31 #[v, .map (some b)] w fun e w' => ∃ u, e = .returned u ∧ w'.ownsRow B 3 1 u (ris L m).length (icells (ris L m)) ∧ Below w.heap.size w w' := by
  obtain ⟨i0, hin, hz0, hz1, hz2⟩ := info_parts Try.infoI
  have hrd : ∀ W, Below w.heap.size w W → RdL W v L := fun W ho => hv.below ho
  have hst : ∀ W, Below w.heap.size w W → IsSet W b m := fun W ho => hs.below ho
  obtain ⟨ao, cp, rfl, _⟩ := id hv
  clear hv hs
  have h0 : w.ownsRow w.heap.size 3 1 (.slice none 0 0) (ris (L.take 0) m).length (icells (ris (L.take 0) m)) := by
    rw [List.take_zero]
    exact World.ownsRow_nil _ _ _ _
  go_enter Try.func31, Try.ntmps31
  go_wp2_with fail
  go_loopw [5, 10] (fun u i wr => ∃ k : Nat, k ≤ L.length ∧ i = .int .i64 (k : Int) ∧ wr.ownsRow w.heap.size 3 1 u (ris (L.take k) m).length (icells (ris (L.take k) m)) ∧ Below w.heap.size w wr) (fun _ i _ => L.length - (Go.RowKit.intOf i).toNat)
  case atStart => exact ⟨0, Nat.zero_le _, rfl, h0, Below.refl _ _⟩
  case round =>
    obtain ⟨k, hk, rfl, hown, hbel⟩ := hrel
    clear h0
    by_cases c : k < L.length
    · have c' : (k : Int) < (L.length : Int) := by omega
      obtain ⟨_, _, e1, _, hcs⟩ := hrd wr hbel
      obtain ⟨g, off, pv, e2, hg, c0, c1, hps⟩ := hcs k L[k] (by simp [c])
      simp at e1
      obtain ⟨rfl, rfl⟩ := e1
      subst e2
      clear hcs hrd
      have hkO := hok L[k] (by simp)
      have HR : Hid (ris (L.take (k + 1)) m = ris (L.take k) m ++ (if inS m L[k].num then [L[k].num] else [])) := ris_take c
      have hlen : (ris (L.take k) m).length ≤ 300 := by
        have := ris_len (L.take k) m
        rw [List.length_take] at this
        omega
      clear hok
      generalize L[k] = lk at *
      generalize ris (L.take k) m = R at *
      obtain ⟨pao, pcp, rfl, _⟩ := hps
      have hn0 := hkO.n0
      have hn1 := hkO.n1
      clear hkO
      have hX := Box.new wr lk.num (.slice pao lk.ps.length pcp)
      have hb1 := hbel.alloc hbel.size (.cells #[.int .i64 lk.num, .slice pao lk.ps.length pcp] 42)
      have hown1 := hown.alloc (.cells #[.int .i64 lk.num, .slice pao lk.ps.length pcp] 42)
      have cH := has_any (hst _ hb1) lk.num hn0 hn1
      clear hst hown
      have x0 := hX.c0
      cases hc : inS m lk.num with
      | false =>
        rw [hc] at cH
        have HR' : Hid (ris (L.take (k + 1)) m = R) := by show _ = _; rw [HR.out, hc]; simp
        clear hc HR
        go_wp2_with fail
        refine cH.mono ?_
        rintro e w2 ⟨rfl, hb2⟩
        have hown2 := own_belowG hown1 hb2
        have hbel2 := chain hb1 hb2
        clear cH hown1 hb1 hb2 hX x0
        go_wp2_with fail
        exact ⟨⟨k + 1, by omega, by go_num, by rw [HR'.out]; exact hown2, hbel2⟩, by simp only [Go.RowKit.intOf]; omega⟩
      | true =>
        rw [hc] at cH
        have HR' : Hid (ris (L.take (k + 1)) m = R ++ [lk.num]) := by show _ = _; rw [HR.out, hc]; simp
        clear hc HR
        go_wp2_with fail
        refine cH.mono ?_
        rintro e w2 ⟨rfl, hb2⟩
        have hown2 := own_belowG hown1 hb2
        have hbel2 := chain hb1 hb2
        have y0 := (hX.below hb2).c0
        clear cH hown1 hb1 hb2 hX x0
        go_wp2_with (at_builtin; refine wpList_append_own _ rfl (.tmp 18) (.tmp 21) 28 rfl w.heap.size 3 i0 (.int .i64 0) 1 8 Try.underlying28 hin hz0 hz1 hz2 rfl (by decide) _ _ _ rfl (hown2.alloc _) ⟨_, 0, none⟩ 1 1 [.int .i64 lk.num] rfl rfl (one_new _ _ _) (one_one _ rfl) (by unfold maxLen; omega) (by omega) (by have := hbel2.size; simp; omega) ?_; intro v3 w3 ho3 hg3 _)
        have hbel3 : Below w.heap.size w w3 := by
          have h1 := hbel2.alloc hbel2.size (.cells #[.int .i64 lk.num] 3)
          exact h1.grown hg3 h1.size (fun j hj => (hown2.lt j hj).1)
        exact ⟨⟨k + 1, by omega, by go_num, by rw [HR'.out]; exact own_int ho3 rfl, hbel3⟩, by simp only [Go.RowKit.intOf]; omega⟩
    · obtain rfl : k = L.length := by omega
      rw [List.take_length] at hown
      clear hrd hst hok
      go_wp2_with fail
      go_ret
      exact ⟨_, rfl, own_lower hown hB, hbel⟩

/-- Marks without the parents of the marked. -/
def chl (L : List Lk) (m : Nat → Bool) : Nat → Bool := L.foldl (fun m k => if inS m k.num then dropL m k.ps else m) m
theorem chl_take {L : List Lk} {m : Nat → Bool} {n : Nat} (h : n < L.length) : chl (L.take (n + 1)) m = if inS (chl (L.take n) m) L[n].num then dropL (chl (L.take n) m) L[n].ps else chl (L.take n) m := by
  rw [List.take_succ_eq_append_getElem h]
  unfold chl
  rw [List.foldl_append]
  rfl
theorem good_ps {L : List Lk} (h : Good L) : ∀ k ∈ L, ∀ p ∈ k.ps, 0 ≤ p ∧ p < 512 := by
  intro k hk p hp
  obtain ⟨i, hi, rfl⟩ := List.getElem_of_mem hk
  have h1 := (h i hi).mem p hp
  have h2 := (good_bd (good_take h i)).1 p h1
  omega
theorem good_300 {L : List Lk} (h : Good L) : L.length ≤ 300 := by
  have h1 := good_len h
  have h2 := (good_bd h).2.2.2
  omega

end Go.Proofs.Ythhdpabelcgfjaa.dg
