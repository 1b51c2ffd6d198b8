/-
  record: pairs at a value; slices.Equal of pairs.
-/
import Derived.Test.YtdheddgdlindmaaRcJ
namespace Go.Proofs.Ytdheddgdlindmaa
open Go.ChangeShapes Go.WideShapes Go.ChangeAt Go.RowKit Go.PlainAid

theorem str_neR {a b : ByteArray} (h : ¬ a = b) : ¬ a.toList = b.toList := fun e => h (by rw [Go.ByteArray.toList_eq, Go.ByteArray.toList_eq] at e; exact ByteArray.ext (Array.toList_inj.1 e))
instance : DecidableEq PaD := fun a b => if h : a.k = b.k ∧ a.v = b.v then isTrue (by cases a; cases b; simp_all) else isFalse (fun e => h (by rw [e]; exact ⟨rfl, rfl⟩))
theorem pad_ne {x y : PaD} (h : x ≠ y) : x.k ≠ y.k ∨ (x.k = y.k ∧ x.v ≠ y.v) := by
  by_cases h1 : x.k = y.k
  · exact .inr ⟨h1, fun h2 => h (by cases x; cases y; simp_all)⟩
  · exact .inl h1
/-- Pairs at a value. -/
def RdPa (W : World) (v : Value) (l : List PaD) : Prop :=
  ∃ ao cp, v = .slice ao l.length cp ∧ ∀ (i : Nat) (x : PaD), l[i]? = some x → ∃ b off, ao = some ⟨b, off, none⟩ ∧ b < W.heap.size ∧ W.cell? ⟨b, off + i * 2, none⟩ = some (.string x.k) ∧ W.cell? ⟨b, off + i * 2 + 1, none⟩ = some (.string x.v)
theorem RdPa.below {W W' : World} {v : Value} {l : List PaD} (h : RdPa W v l) (hb : Below W.heap.size W W') : RdPa W' v l := by
  obtain ⟨ao, cp, e, h1⟩ := h
  refine ⟨ao, cp, e, fun i o hi => ?_⟩
  obtain ⟨b, off, e1, hl, c0, c1⟩ := h1 i o hi
  exact ⟨b, off, e1, Nat.lt_of_lt_of_le hl hb.size, (hb.cell (p := ⟨b, off + i * 2, none⟩) hl).trans c0, (hb.cell (p := ⟨b, off + i * 2 + 1, none⟩) hl).trans c1⟩
theorem RdPa.nil (W : World) : RdPa W (.slice none 0 0) [] := ⟨none, 0, rfl, fun i o h => by simp at h⟩
theorem pcs_at : ∀ (l : List PaD) (i : Nat) (x : PaD), l[i]? = some x → (pcs l)[i * 2]? = some (.string x.k) ∧ (pcs l)[i * 2 + 1]? = some (.string x.v)
  | y :: l, 0, x, h => by simp at h; subst h; exact ⟨rfl, rfl⟩
  | y :: l, i + 1, x, h => by
    have := pcs_at l i x (by simpa using h)
    rw [show (i + 1) * 2 + 1 = i * 2 + 1 + 1 + 1 by omega, show (i + 1) * 2 = i * 2 + 1 + 1 by omega]
    simpa [pcs] using this
  | [], _, _, h => by simp at h
theorem rdpa_own {W : World} {B : Nat} {v : Value} {l : List PaD} (h : W.ownsRow B 44 2 v l.length (pcs l)) : RdPa W v l := by
  rcases h.2 with ⟨rfl, h0⟩ | ⟨g, cap, cur, rfl, _, hg, -⟩
  · have : l = [] := List.length_eq_zero_iff.1 h0
    subst this
    exact RdPa.nil W
  · refine ⟨_, _, rfl, fun i x hi => ⟨g, 0, rfl, heap_lt hg, ?_⟩⟩
    obtain ⟨q0, q1⟩ := pcs_at l i x hi
    have q := h.cells (g := g) rfl
    have hadd : ∀ k, (⟨g, 0, none⟩ : Addr).add k = ⟨g, k, none⟩ := fun k => by unfold Addr.add; split <;> simp_all
    simp only [hadd] at q
    rw [Nat.zero_add]
    exact ⟨q _ _ q0, q _ _ q1⟩
set_option maxRecDepth 20000 in
set_option maxHeartbeats 1000000 in
theorem equalPa_any (va vb : Value) (A B : List PaD) (w : World) (hA : RdPa w va A) (hB : RdPa w vb B) (hm : A.length ≤ 9223372036854775000) :
    Calls Try.prog 33 #[va, vb] w fun e w' => e = .returned (.bool (decide (A = B))) ∧ Below w.heap.size w w' := by
  obtain ⟨ao, ac, rfl, hac⟩ := hA
  obtain ⟨bo, bc, rfl, hbc⟩ := hB
  by_cases hl : A.length = B.length
  · obtain ⟨res, Hres⟩ : ∃ res, Hid (decide (A = B) = res) := ⟨_, rfl⟩
    have hl' : ((A.length : Int) != (B.length : Int)) = false := by simp [hl]
    rw [Hres.out]
    go_enter Try.func33, Try.ntmps33
    go_wp2_with fail
    go_loopw [13] (fun i wr => ∃ k : Nat, k ≤ A.length ∧ i = .int .i64 (k : Int) ∧ Hid (A.take k = B.take k) ∧ Below w.heap.size w wr) (fun i _ => A.length - (Go.RowKit.intOf i).toNat)
    case atStart => exact ⟨0, by omega, rfl, rfl, Below.refl _ _⟩
    case round =>
      obtain ⟨k, hk, rfl, HT, hbl⟩ := hrel
      by_cases hlt : k < A.length
      · have hlt' : (k : Int) < (A.length : Int) := by omega
        have hltB : k < B.length := by omega
        have hltB' : (k : Int) < (B.length : Int) := by omega
        obtain ⟨b1, o1, rfl, hb1, c0, c1⟩ := hac k A[k] (by simp [hlt])
        obtain ⟨b2, o2, rfl, hb2, d0, d1⟩ := hbc k B[k] (by simp [hltB])
        have hB1 : ∀ o, wr.cell? ⟨b1, o, none⟩ = w.cell? ⟨b1, o, none⟩ := fun o => hbl.cell (p := ⟨b1, o, none⟩) hb1
        have hB2 : ∀ o, wr.cell? ⟨b2, o, none⟩ = w.cell? ⟨b2, o, none⟩ := fun o => hbl.cell (p := ⟨b2, o, none⟩) hb2
        rw [← hB1] at c0 c1
        rw [← hB2] at d0 d1
        clear hB1 hB2 hac hbc
        by_cases he : A[k] = B[k]
        · have HT2 : Hid (A.take (k + 1) = B.take (k + 1)) := by
            show _ = _
            rw [List.take_succ_eq_append_getElem hlt, List.take_succ_eq_append_getElem hltB, HT.out, he]
          rw [he] at c0 c1
          clear he HT
          generalize B[k] = y at *
          go_wp2_with fail
          go_region
          go_wp2_with fail
          exact ⟨⟨k + 1, by omega, by go_num, HT2, Below.drew hbl⟩, by simp [Go.RowKit.intOf]; omega⟩
        · have Hr : Hid (res = false) := by
            show _ = _
            rw [← Hres.out]
            exact decide_eq_false (fun e => he (by subst e; rfl))
          have hne := pad_ne he
          clear he HT
          generalize A[k] = x at *
          generalize B[k] = y at *
          rcases hne with h1 | ⟨h1, h2⟩
          · have h1' : ¬ x.k.toList = y.k.toList := str_neR h1
            clear h1
            go_wp2_with fail
            go_region
            go_wp2_with fail
            go_ret
            exact ⟨by rw [Hr.out]; rfl, Below.drew hbl⟩
          · have h2' : ¬ x.v.toList = y.v.toList := str_neR h2
            rw [h1] at c0
            clear h1 h2
            go_wp2_with fail
            go_region
            go_wp2_with fail
            go_ret
            exact ⟨by rw [Hr.out]; rfl, Below.drew hbl⟩
      · have hlt' : ¬ (k : Int) < (A.length : Int) := by omega
        have Hr : Hid (res = true) := by
          show _ = _
          rw [← Hres.out]
          refine decide_eq_true ?_
          have := HT.out
          rwa [List.take_of_length_le (by omega), List.take_of_length_le (by omega)] at this
        go_wp2_with fail
        go_ret
        exact ⟨by rw [Hr.out]; rfl, hbl⟩
  · have e : decide (A = B) = false := decide_eq_false (fun h => hl (by rw [h]))
    rw [e]
    have hl' : ((A.length : Int) != (B.length : Int)) = true := by simp; omega
    clear e hac hbc
    go_enter Try.func33, Try.ntmps33
    go_wp2_with fail
    go_ret
    exact ⟨rfl, Below.refl _ _⟩
end Go.Proofs.Ytdheddgdlindmaa
