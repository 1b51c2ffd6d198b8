/-
  The tables of unicode/utf8; the contracts of live, layer 11, and of kept.
-/
import Derived.Test.YtfhbkaiioiihjaaDoorDiT
import Derived.Test.YtfhbkaiioiihjaaDoorLayV
import Derived.Shelf.Unicode.ValidAny
import Derived.Test.YtfhbkaiioiihjaaDoorDArg
namespace Go.Proofs.YtfhbkaiioiihjaaDoor
open Go.ChangeShapes Go.WideShapes Go.ChangeAt Go.RowKit Go.PlainAid

def Tabs (w : World) : Prop := Lib.Utf8Tabs (Tryd.laysValid_ren.g 3) (Tryd.laysValid_ren.g 4) w
theorem vs_of {w : World} (h : Tabs w) : VS w := fun t W ht hb => Any.utf8_ValidString Tryd.laysValid t W (by omega) (Utf8Tabs_below h hb)

def lD : List OpD := [⟨3, 1, ⟨#[]⟩⟩, ⟨1, 1, ⟨#[]⟩⟩, ⟨2, 0, ⟨#[97]⟩⟩]
theorem live_di : diR ⟨#[97, 98]⟩ ⟨#[98, 97]⟩ = (lD, 0) := by
  have c1 : cpl ⟨#[97, 98]⟩ = 2 := by decide
  have c2 : cpl ⟨#[98, 97]⟩ = 2 := by decide
  have p1 : pts ⟨#[97, 98]⟩ = [97, 98] := by decide
  have p2 : pts ⟨#[98, 97]⟩ = [98, 97] := by decide
  have h0 : ptE ⟨#[97, 98]⟩ ⟨#[98, 97]⟩ = 0 := by rw [ptE, c1, c2]; decide
  have hw : alU [97, 98] [98, 97] = [.R, .K, .I 97] := by simp [alU, lc]
  rw [diR, if_pos h0, p1, p2, hw]
  have hc : chk ([U.R, .K, .I 97].map uop) = 0 := by decide
  rw [hc, stR, if_pos hc]
  rfl
theorem live_cm : (if ptE ⟨#[97, 98, 99]⟩ ⟨#[97, 120, 99]⟩ = 0 then (lc (pts ⟨#[97, 98, 99]⟩) (pts ⟨#[97, 120, 99]⟩) : Int) else 0) = 2 ∧ ptE ⟨#[97, 98, 99]⟩ ⟨#[97, 120, 99]⟩ = 0 := by
  have c1 : cpl ⟨#[97, 98, 99]⟩ = 3 := by decide
  have c2 : cpl ⟨#[97, 120, 99]⟩ = 3 := by decide
  have p1 : pts ⟨#[97, 98, 99]⟩ = [97, 98, 99] := by decide
  have p2 : pts ⟨#[97, 120, 99]⟩ = [97, 120, 99] := by decide
  have h0 : ptE ⟨#[97, 98, 99]⟩ ⟨#[97, 120, 99]⟩ = 0 := by rw [ptE, c1, c2]; decide
  rw [if_pos h0, p1, p2]
  exact ⟨by simp [lc], h0⟩

set_option maxRecDepth 20000 in
set_option maxHeartbeats 1000000 in
theorem live11_any (w : World) (hV : VS w) : Calls Tryd.prog 12 #[] w fun e w' => e = .returned (.bool true) ∧ Below w.heap.size w w' := by
  have c1 := diff_any ⟨#[97, 98]⟩ ⟨#[98, 97]⟩ w hV (by decide) (by decide)
  have c2 := fun W h => common_any ⟨#[97, 98, 99]⟩ ⟨#[97, 120, 99]⟩ W (hV.below h) (by decide) (by decide)
  rw [live_di] at c1
  rw [live_cm.1, live_cm.2] at c2
  go_enter Tryd.func12, Tryd.ntmps12
  go_wp2_with fail
  refine c1.mono ?_
  rintro e w1 ⟨u1, rfl, ho1, hb1⟩
  have r1 := rdd_own ho1
  clear c1 ho1
  go_wp2_with fail
  refine (c2 _ hb1).mono ?_
  rintro e w2 ⟨rfl, hb2⟩
  have rB := lit_rdd lD w2
  have r1 := (r1.below hb2).below (grow1 w2 (.cells (ocs lD).toArray 60))
  have cS := same_true _ _ lD _ (by decide) r1 rB
  have HB : Hid _ := And.intro (chain hb1 hb2) (grow1 w2 (.cells (ocs lD).toArray 60))
  clear c2 hb1 hb2 r1 rB
  go_wp2_with fail
  refine cS.mono ?_
  rintro e w3 ⟨rfl, hb3⟩
  go_wp2_with fail
  go_ret
  exact ⟨rfl, chain (chain HB.out.1 HB.out.2) hb3⟩

theorem ret_i {a b : Int} (h : a = b) : Ending.returned (.int .i64 a) = .returned (.int .i64 b) := by rw [h]
set_option maxRecDepth 20000 in
set_option maxHeartbeats 1000000 in
/-- kept, where no sum is too great. -/
theorem kept_any (v : Value) (l : List OpD) (w : World) (hr : RdD w v l) (hm : l.length ≤ 3000) (hn : ∀ o ∈ l, o.k = 1 → 0 ≤ o.n ∧ o.n ≤ 1000) :
    Calls Tryd.prog 15 #[v] w fun e w' => e = .returned (.int .i64 (kpL l)) ∧ w' = w := by
  obtain ⟨ao, cp, rfl, -, hcs⟩ := hr
  have hS : ∀ k, k ≤ l.length → 0 ≤ kpL (l.take k) ∧ kpL (l.take k) ≤ k * 1000 := by
    intro k
    induction k with
    | zero => intro _; simp [kpL]
    | succ k ih =>
      intro hk
      have i := ih (by omega)
      have hk' : k < l.length := by omega
      have e : kpL (l.take (k + 1)) = kpL (l.take k) + (if l[k].k = 1 then l[k].n else 0) := by
        rw [List.take_succ_eq_append_getElem hk']
        simp only [kpL, List.map_append, List.sum_append, List.map_cons, List.map_nil, List.sum_cons, List.sum_nil, Int.add_zero]
      have q := hn l[k] (by simp)
      rw [e]
      split
      · have := q (by assumption); omega
      · omega
  have hT : ∀ k (hk : k < l.length), kpL (l.take (k + 1)) = kpL (l.take k) + (if l[k].k = 1 then l[k].n else 0) := fun k hk => by
    rw [List.take_succ_eq_append_getElem hk]
    simp only [kpL, List.map_append, List.sum_append, List.map_cons, List.map_nil, List.sum_cons, List.sum_nil, Int.add_zero]
  go_enter Tryd.func15, Tryd.ntmps15
  go_wp2_with fail
  go_loopw [3, 4] (fun s i wr => ∃ k : Nat, k ≤ l.length ∧ i = .int .i64 (k : Int) ∧ s = .int .i64 (kpL (l.take k)) ∧ wr = w) (fun _ i _ => l.length - (Go.RowKit.intOf i).toNat)
  case atStart => exact ⟨0, Nat.zero_le _, rfl, rfl, rfl⟩
  case round =>
    obtain ⟨k, hk, rfl, rfl, rfl⟩ := hrel
    by_cases c : k < l.length
    · have c' : (k : Int) < (l.length : Int) := by omega
      obtain ⟨g, off, e2, hg, cA, cB, -⟩ := hcs k l[k] (by simp [c])
      subst e2
      have b1 := hS k (by omega)
      have q := hn l[k] (by simp)
      have HE : Hid (kpL (l.take (k + 1)) = kpL (l.take k) + (if l[k].k = 1 then l[k].n else 0)) := hT k c
      clear hcs hn hS hT
      generalize l[k].k = x at *
      generalize l[k].n = y at *
      generalize kpL (l.take k) = S at *
      have hS1 : S ≤ 3000000 := by omega
      have hS0 := b1.1
      clear b1
      by_cases he : x = 1
      · have HE2 : Hid (kpL (l.take (k + 1)) = S + y) := by show _ = _; rw [HE.out, if_pos he]
        obtain ⟨y0, y1⟩ := q he
        subst he
        clear HE q
        go_wp2_with fail
        exact ⟨⟨k + 1, by omega, by go_num, by rw [HE2.out], by first | rfl | trivial⟩, by simp only [Go.RowKit.intOf]; omega⟩
      · have HE2 : Hid (kpL (l.take (k + 1)) = S) := by show _ = _; rw [HE.out, if_neg he]; omega
        have he' : (x == 1) = false := by simpa using he
        clear HE q
        go_wp2_with fail
        exact ⟨⟨k + 1, by omega, by go_num, by rw [HE2.out], by first | rfl | trivial⟩, by simp only [Go.RowKit.intOf]; omega⟩
    · obtain rfl : k = l.length := by omega
      clear hcs hn hS hT
      go_wp2_with fail
      go_ret
      exact ⟨ret_i (by rw [List.take_length]), rfl⟩
end Go.Proofs.YtfhbkaiioiihjaaDoor
