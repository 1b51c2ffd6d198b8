/-
  The reference: find and numbers.
-/
import Derived.Test.YtdpkcmagegiadaaDgM
import Derived.Deep.QuietTactic
import Derived.BigQuiet
import Derived.Laws.IdiomStrings
namespace Go.Proofs.Ytdpkcmagegiadaa
open Go.Maps Go.WideShapes Go.RowKit Go.ChangeShapes Go.ChangeAt Go.PlainAid

/-- The place of a number; -1: it is none. -/
def fdI (L : List Lk) (n : Int) : Int := match (nums L).findIdx? (· == n) with | some k => (k : Int) | none => -1
theorem fdI_some {L : List Lk} {n : Int} {k : Nat} (hk : k < L.length) (he : L[k].num = n) (hb : ∀ j (hj : j < k), (L[j]'(by omega)).num ≠ n) : fdI L n = (k : Int) := by
  unfold fdI
  have : (nums L).findIdx? (· == n) = some k := by
    rw [List.findIdx?_eq_some_iff_getElem]
    refine ⟨by simpa [nums] using hk, by simp [nums, he], fun j hj => ?_⟩
    have := hb j hj
    simp [nums, this]
  rw [this]
theorem fdI_none {L : List Lk} {n : Int} (h : n ∉ nums L) : fdI L n = -1 := by
  unfold fdI
  have : (nums L).findIdx? (· == n) = none := by
    rw [List.findIdx?_eq_none_iff]
    intro x hx
    simp
    rintro rfl
    exact h hx
  rw [this]
theorem fdI_at {L : List Lk} (hg : Good L) {k : Nat} (hk : k < L.length) : fdI L L[k].num = (k : Int) :=
  fdI_some hk rfl (fun j hj e => by
    have := List.pairwise_iff_getElem.1 (good_asc hg).up j k (by omega) hk hj
    omega)
theorem fdI_mem {L : List Lk} (hg : Good L) {n : Int} (h : n ∈ nums L) : ∃ k, ∃ (hk : k < L.length), fdI L n = (k : Int) ∧ L[k].num = n := by
  unfold nums at h
  obtain ⟨x, hx, rfl⟩ := List.mem_map.1 h
  obtain ⟨k, hk, rfl⟩ := List.getElem_of_mem hx
  exact ⟨k, hk, fdI_at hg hk, rfl⟩
theorem fdI_neg {L : List Lk} (hg : Good L) (n : Int) : (fdI L n < 0) ↔ n ∉ nums L := by
  constructor
  · intro h hm
    obtain ⟨k, _, e, _⟩ := fdI_mem hg hm
    omega
  · intro h
    rw [fdI_none h]
    decide

set_option maxRecDepth 20000 in
set_option maxHeartbeats 1000000 in
theorem find_any {w : World} {v : Value} {L : List Lk} (n : Int) (hv : RdL w v L) (hl : L.length ≤ 9223372036854775807) :
    Calls Try.prog 22 #[v, .int .i64 n] w fun e w' => e = .returned (.int .i64 (fdI L n)) ∧ w' = w := by
  obtain ⟨ao, cp, rfl, -, hcs⟩ := hv
  go_enter Try.func22, Try.ntmps22
  go_wp2_with fail
  go_loopw [5] (fun i wr => ∃ k : Nat, k ≤ L.length ∧ i = .int .i64 (k : Int) ∧ (∀ j (hj : j < L.length), j < k → L[j].num ≠ n) ∧ wr = w) (fun i _ => L.length - (Go.RowKit.intOf i).toNat)
  case atStart => exact ⟨0, Nat.zero_le _, rfl, fun j _ h => by omega, rfl⟩
  case round =>
    obtain ⟨k, hk, rfl, hT, rfl⟩ := hrel
    have HT : Hid (∀ j (hj : j < L.length), j < k → L[j].num ≠ n) := hT
    clear hT
    by_cases c : k < L.length
    · have c' : (k : Int) < (L.length : Int) := by omega
      obtain ⟨g, off, pv, e2, hg, cA, -, -⟩ := hcs k L[k] (by simp [c])
      subst e2
      clear hcs
      have HS : Hid (L[k].num ≠ n → ∀ j (hj : j < L.length), j < k + 1 → L[j].num ≠ n) := fun hne j hj h => by
        by_cases e : j = k
        · subst e; exact hne
        · exact HT.out j hj (by omega)
      have HN : Hid (L[k].num = n → fdI L n = (k : Int)) := fun he => fdI_some c he (fun j hj => HT.out j (by omega) hj)
      clear HT
      generalize L[k].num = x at *
      by_cases he : x = n
      · have HN' := HN.out he
        have HN2 : Hid (fdI L n = (k : Int)) := HN'
        clear HS HN HN'
        go_wp2_with fail
        go_ret
        exact ⟨ret_int HN2.out.symm, rfl⟩
      · have HS' := HS.out he
        have HS2 : Hid (∀ j (hj : j < L.length), j < k + 1 → L[j].num ≠ n) := HS'
        clear HS HN HS'
        go_wp2_with fail
        exact ⟨⟨k + 1, by omega, by go_num, HS2.out, by first | rfl | trivial⟩, by simp only [Go.RowKit.intOf]; omega⟩
    · obtain rfl : k = L.length := by omega
      have HE : Hid (fdI L n = -1) := fdI_none (fun hm => by
        unfold nums at hm
        obtain ⟨x, hx, e⟩ := List.mem_map.1 hm
        obtain ⟨j, hj, rfl⟩ := List.getElem_of_mem hx
        exact HT.out j hj hj e)
      clear HT hcs
      go_wp2_with fail
      go_ret
      exact ⟨ret_int HE.out.symm, rfl⟩

/-- The numbers of marked places. -/
def pick (L : List Lk) (B : List Bool) : List Int := ((List.range L.length).filter fun i => B.getD i false).map fun i => (L[i]?.getD ⟨0, []⟩).num
def pickN (L : List Lk) (B : List Bool) (k : Nat) : List Int := ((List.range k).filter fun i => B.getD i false).map fun i => (L[i]?.getD ⟨0, []⟩).num
theorem pickN_succ {L : List Lk} {B : List Bool} {k : Nat} (h : k < L.length) (hb : k < B.length) : pickN L B (k + 1) = pickN L B k ++ (if B[k] then [L[k].num] else []) := by
  unfold pickN
  rw [List.range_succ, List.filter_append, List.map_append]
  congr 1
  rw [List.filter_cons]
  have e : B.getD k false = B[k] := by simp [List.getD, hb]
  rw [e]
  cases B[k] <;> simp [h]
theorem pickN_len (L : List Lk) (B : List Bool) (k : Nat) : (pickN L B k).length ≤ k := by
  unfold pickN
  rw [List.length_map]
  exact Nat.le_trans (List.length_filter_le _ _) (by simp)

set_option maxRecDepth 20000 in
set_option maxHeartbeats 2000000 in
theorem rnumbers_any {w : World} {v : Value} {L : List Lk} {g : Nat} {B : List Bool} (hv : RdL w v L) (hr : RowB w g B) (hB : B.length = L.length) (hl : L.length ≤ 300) :
    Calls Try.prog 23 #[v, .slice (some ⟨g, 0, none⟩) L.length L.length] w fun e w' => ∃ u, e = .returned u ∧ NewI w w' u (pick L B) ∧ Below w.heap.size w w' := by
  obtain ⟨i0, hin, hz0, hz1, hz2⟩ := info_parts Try.infoI
  have hrd : ∀ W, Below w.heap.size w W → RdL W v L := fun W ho => hv.below ho
  have hrow : ∀ W, Below w.heap.size w W → RowB W g B := fun W ho => hr.below ho
  have HP : Hid (pick L B = pickN L B L.length) := rfl
  obtain ⟨ao, cp, rfl, -⟩ := id hv
  clear hv hr
  have h0 : NewI w w (.slice none 0 0) (pickN L B 0) := World.ownsRow_nil _ _ _ _
  have HB : Hid (B.length = L.length) := hB
  clear hB
  go_enter Try.func23, Try.ntmps23
  go_wp2_with fail
  go_loopw [5, 6] (fun u i wr => ∃ k : Nat, k ≤ L.length ∧ i = .int .i64 (k : Int) ∧ NewI w wr u (pickN L B k) ∧ Below w.heap.size w wr) (fun _ i _ => L.length - (Go.RowKit.intOf i).toNat)
  case atStart => exact ⟨0, Nat.zero_le _, rfl, h0, Below.refl _ _⟩
  case round =>
    obtain ⟨k, hk, rfl, hown, hbel⟩ := hrel
    clear h0
    by_cases c : k < L.length
    · have c' : (k : Int) < (L.length : Int) := by omega
      have d : k < B.length := by rw [HB.out]; exact c
      obtain ⟨_, _, e1, -, hcs⟩ := hrd wr hbel
      obtain ⟨gb, off, pv, e2, hg, c0, -, -⟩ := hcs k L[k] (by simp [c])
      simp at e1
      obtain ⟨rfl, rfl⟩ := e1
      subst e2
      have cB := (hrow wr hbel).cell d
      have HR : Hid (pickN L B (k + 1) = pickN L B k ++ (if B[k] then [L[k].num] else [])) := pickN_succ c d
      have hlen := pickN_len L B k
      clear hcs hrd hrow
      generalize L[k].num = x at *
      generalize B[k] = z at *
      generalize pickN L B k = R at *
      cases z with
      | false =>
        have HR' : Hid (pickN L B (k + 1) = R) := by show _ = _; rw [HR.out]; simp
        clear HR
        go_wp2_with fail
        exact ⟨⟨k + 1, by omega, by go_num, by rw [HR'.out]; exact hown, hbel⟩, by simp only [Go.RowKit.intOf]; omega⟩
      | true =>
        have HR' : Hid (pickN L B (k + 1) = R ++ [x]) := by show _ = _; rw [HR.out]; simp
        clear HR
        go_wp2_with (at_builtin; refine wpList_append_own _ rfl (.tmp 17) (.tmp 23) 23 rfl w.heap.size 3 i0 (.int .i64 0) 1 8 Try.underlying23 hin hz0 hz1 hz2 rfl (by decide) _ _ _ rfl (hown.alloc _) ⟨_, 0, none⟩ 1 1 [.int .i64 x] rfl rfl (one_new _ _ _) (one_one _ rfl) (by unfold maxLen; omega) (by omega) (by have := hbel.size; simp; omega) ?_; intro v3 w3 ho3 hg3 _)
        have hbel3 : Below w.heap.size w w3 := by
          have h1 := hbel.alloc hbel.size (.cells #[.int .i64 x] 3)
          exact h1.grown hg3 h1.size (fun j hj => (hown.lt j hj).1)
        exact ⟨⟨k + 1, by omega, by go_num, by rw [HR'.out]; exact own_int ho3 rfl, hbel3⟩, by simp only [Go.RowKit.intOf]; omega⟩
    · obtain rfl : k = L.length := by omega
      clear hrd hrow
      go_wp2_with fail
      go_ret
      exact ⟨_, rfl, by rw [HP.out]; exact hown, hbel⟩
end Go.Proofs.Ytdpkcmagegiadaa
