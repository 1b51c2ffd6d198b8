/-
  Letters in the world; the contract of slices.Index.
-/
import Derived.Test.YtaopfdgebibpeaaNtD
import Derived.Deep.DeepCutAuto
namespace Go.Proofs.Ytaopfdgebibpeaa.nt
open Go.Maps Go.WideShapes Go.RowKit Go.ChangeShapes Go.ChangeAt Go.PlainAid

/-- Letters in the world. -/
def RdL (w : World) (v : Value) (l : List LtD) : Prop :=
  ∃ (ao : Option Addr) (cp : Nat), v = .slice ao l.length cp ∧ ∀ i x, l[i]? = some x → ∃ b off, ao = some ⟨b, off, none⟩ ∧ b < w.heap.size ∧
    w.cell? ⟨b, off + i * 2, none⟩ = some (.int .i64 x.to) ∧ w.cell? ⟨b, off + i * 2 + 1, none⟩ = some (.string x.t)
theorem RdL.only {S : List Nat} {w w' : World} {v : Value} {l : List LtD} (h : RdL w v l) (ho : Only S w w') (hd : ∀ g, v.ownBlock = some g → g ∉ S) : RdL w' v l := by
  obtain ⟨ao, cp, rfl, h⟩ := h
  refine ⟨ao, cp, rfl, fun i x hx => ?_⟩
  obtain ⟨b, off, rfl, h1, c0, c1⟩ := h i x hx
  have hb : b ∉ S := hd b rfl
  exact ⟨b, off, rfl, Nat.lt_of_lt_of_le h1 ho.size, only_cell ho h1 hb c0, only_cell ho h1 hb c1⟩
theorem RdL.below {w w' : World} {v : Value} {l : List LtD} (h : RdL w v l) (hb : Below w.heap.size w w') : RdL w' v l := h.only (Only.of_below (S := []) hb) (by simp)
theorem rdl_own {W : World} {B : Nat} {v : Value} {l : List LtD} (h : W.ownsRow B 36 2 v l.length (lcs l)) : RdL W v l := by
  rcases h.2 with ⟨rfl, h0⟩ | ⟨g, cap, cur, rfl, _, hg, _, _, _, ht⟩
  · have : l = [] := List.length_eq_zero_iff.1 h0
    subst this
    exact ⟨none, 0, rfl, fun i x hx => by simp at hx⟩
  · refine ⟨_, _, rfl, fun i x hx => ⟨g, 0, rfl, heap_lt hg, ?_⟩⟩
    obtain ⟨e0, e1⟩ := lcs_at l i x hx
    have q := h.cells (g := g) rfl
    have q0 := q _ _ e0
    have q1 := q _ _ e1
    rw [addr4] at q0 q1
    exact ⟨q0, by rw [Nat.add_assoc]; exact q1⟩

theorem str_ne {a b : ByteArray} (h : ¬ a = b) : ¬ a.toList = b.toList := fun e => h (by rw [Go.ByteArray.toList_eq, Go.ByteArray.toList_eq] at e; exact ByteArray.ext (Array.toList_inj.1 e))

set_option maxRecDepth 20000 in
set_option maxHeartbeats 1000000 in
theorem index_any (v : Value) (l : List LtD) (x : LtD) (w : World) (hr : RdL w v l) (hm : l.length ≤ 3000) (hx : x ∈ l) :
    Calls Try.prog 44 #[v, x.v] w fun e w' => ∃ k : Nat, e = .returned (.int .i64 (k : Int)) ∧ l[k]? = some x ∧ Below w.heap.size w w' := by
  obtain ⟨ao, cp, rfl, hcs⟩ := hr
  obtain ⟨k0, hk0, hk1⟩ := List.getElem_of_mem hx
  have hb0 : Below w.heap.size w (w.alloc (.cells #[.int .i64 x.to, .string x.t] 36)) := (Below.refl _ w).alloc (Nat.le_refl _) _
  have hl0 := lb_new w x
  unfold LtD.v
  go_enter Try.func44, Try.ntmps44
  go_wp2_with fail
  generalize w.alloc _ = w1 at *
  go_loopw [8] (fun i wr => ∃ k : Nat, k ≤ k0 ∧ i = .int .i64 (k : Int) ∧ LB wr w.heap.size x ∧ Below w.heap.size w wr) (fun i _ => k0 + 1 - (intOf i).toNat)
  case atStart => exact ⟨0, Nat.zero_le _, rfl, hl0, hb0⟩
  case round =>
    obtain ⟨k, hk, rfl, hl, hb⟩ := hrel
    clear hl0 hb0
    have hkl : k < l.length := by omega
    have hkl' : (k : Int) < (l.length : Int) := by omega
    obtain ⟨b, off, rfl, hbw, c0, c1⟩ := hcs k l[k] (by simp [hkl])
    replace c0 := hb.cell (p := ⟨b, off + k * 2, none⟩) hbw |>.trans c0
    replace c1 := hb.cell (p := ⟨b, off + k * 2 + 1, none⟩) hbw |>.trans c1
    obtain ⟨y0, y1, -, -⟩ := hl.facts
    by_cases he : l[k] = x
    · have hE : Hid (l[k]? = some x) := by show _ = _; simp [hkl, he]
      rw [he] at c0 c1
      clear hcs hk1 he
      go_wp2_with fail
      go_region
      go_wp2_with fail
      go_ret
      exact ⟨k, rfl, hE.out, Below.drew hb⟩
    · have hlt : k < k0 := by
        rcases Nat.lt_or_ge k k0 with h | h
        · exact h
        · exfalso
          obtain rfl : k = k0 := by omega
          exact he hk1
      generalize l[k] = y at *
      by_cases h1 : x.to = y.to
      · have h1' : (x.to == y.to) = true := by simp [h1]
        have h2 : ¬ x.t.toList = y.t.toList := str_ne (fun h2 => he (by
          cases x; cases y
          simp at h1 h2
          rw [h1, h2]))
        clear hcs hk1 he h1
        go_wp2_with fail
        go_region
        go_wp2_with fail
        exact ⟨⟨k + 1, by omega, by go_num, hl, Below.drew hb⟩, by simp [intOf]; omega⟩
      · have h1' : (x.to == y.to) = false := by simp [h1]
        clear hcs hk1 he h1
        go_wp2_with fail
        go_region
        go_wp2_with fail
        exact ⟨⟨k + 1, by omega, by go_num, hl, Below.drew hb⟩, by simp [intOf]; omega⟩
end Go.Proofs.Ytaopfdgebibpeaa.nt
