/-
  The contract of fill.
-/
import Derived.Test.YtfhbkaiioiihjaaDoorDiA
import Derived.BigRegion
import Derived.Deep.DeepCutAuto
namespace Go.Proofs.YtfhbkaiioiihjaaDoor
open Go.ChangeShapes Go.WideShapes Go.ChangeAt Go.RowKit Go.PlainAid

/-- Code points in the world. -/
def RdU (w : World) (v : Value) (zs : List Int) : Prop :=
  ∃ ao cp, v = .slice ao zs.length cp ∧ ∀ (i : Nat) (z : Int), zs[i]? = some z → ∃ b off, ao = some ⟨b, off, none⟩ ∧ b < w.heap.size ∧ w.cell? ⟨b, off + i, none⟩ = some (.int .i32 z)
theorem RdU.below {w w' : World} {v : Value} {l : List Int} (h : RdU w v l) (hb : Below w.heap.size w w') : RdU w' v l := by
  obtain ⟨ao, cp, rfl, h⟩ := h
  refine ⟨ao, cp, rfl, fun i o ho => ?_⟩
  obtain ⟨b, off, rfl, hlt, e0⟩ := h i o ho
  exact ⟨b, off, rfl, by have := hb.size; omega, by rw [hb.cell (p := ⟨b, _, none⟩) hlt]; exact e0⟩

/-- What fill has on its way: k numbers are still to be made. -/
structure Fi (F G : Nat → Nat) (a : Nat) (p : Int) (A T : List Int) (k : Nat) : Prop where
  le : k ≤ T.length
  new : ∀ j, k ≤ j → j ≤ T.length → G (a + j) = lc (p :: A) (T.drop j)
  old : ∀ j, j < k → G (a + j) = lc A (T.drop j)
  out : ∀ q, q < a ∨ a + 1001 ≤ q → G q = F q
theorem fi_start0 {F : Nat → Nat} {a : Nat} {p : Int} {A T : List Int} (hT : T.length ≤ 1000) (h1 : ∀ j, j ≤ T.length → F (a + 1001 + j) = lc A (T.drop j)) (h0 : F (a + T.length) = 0) : Fi F (cpT F a (a + 1001) T.length) a p A T T.length := by
  refine ⟨Nat.le_refl _, fun j hj hj' => ?_, fun j hj => ?_, fun q hq => ?_⟩
  · have e : j = T.length := by omega
    subst e
    unfold cpT
    rw [if_neg (by omega), h0, List.drop_length, lc_nil]
  · unfold cpT
    rw [if_pos (by omega), show a + j - a + (a + 1001) = a + 1001 + j by omega, h1 j (by omega)]
  · unfold cpT
    rw [if_neg (by omega)]
theorem drop_at {T : List Int} {k : Nat} (h : k < T.length) : T.drop k = T[k] :: T.drop (k + 1) := (List.getElem_cons_drop h).symm
theorem Fi.same {F G : Nat → Nat} {a : Nat} {p : Int} {A T : List Int} {k : Nat} (h : Fi F G a p A T (k + 1)) (hT : T.length ≤ 1000) (h1 : ∀ j, j ≤ T.length → F (a + 1001 + j) = lc A (T.drop j)) (hk : k < T.length) (e : T[k] = p) :
    Fi F (putT G (a + k) (G (a + 1001 + (k + 1)) + 1)) a p A T k := by
  refine ⟨by omega, fun j hj hj' => ?_, fun j hj => ?_, fun q hq => ?_⟩
  · unfold putT
    by_cases c : j = k
    · subst c
      rw [if_pos rfl, h.out _ (by omega), h1 _ (by omega), drop_at hk, e, lc_eq]
    · rw [if_neg (by omega), h.new j (by omega) hj']
  · unfold putT
    rw [if_neg (by omega), h.old j (by omega)]
  · unfold putT
    rw [if_neg (by omega), h.out q hq]
theorem Fi.other {F G : Nat → Nat} {a : Nat} {p : Int} {A T : List Int} {k : Nat} (h : Fi F G a p A T (k + 1)) (hT : T.length ≤ 1000) (hk : k < T.length) (e : T[k] ≠ p) :
    Fi F (putT G (a + k) (max (G (a + k)) (G (a + (k + 1))))) a p A T k := by
  refine ⟨by omega, fun j hj hj' => ?_, fun j hj => ?_, fun q hq => ?_⟩
  · unfold putT
    by_cases c : j = k
    · subst c
      rw [if_pos rfl, h.old j (by omega), h.new _ (by omega) (by omega)]
      rw [drop_at hk, lc_ne e]
    · rw [if_neg (by omega), h.new j (by omega) hj']
  · unfold putT
    rw [if_neg (by omega), h.old j (by omega)]
  · unfold putT
    rw [if_neg (by omega), h.out q hq]

set_option maxRecDepth 20000 in
theorem slice_row (g b m : Nat) (hm : m ≤ 1001) (W : World) :
    (Instr.sliceAt 46 (.pointer (some ⟨g, b, none⟩)) none (some (.int .i64 (m : Int))) none).run Tryd.prog W = .ok (.slice (some ⟨g, b, none⟩) m 1001) W := by
  have e1 : Tryd.prog.arrayLen 46 = 1001 := by kernel_rfl
  have e2 : Tryd.prog.elem 46 = 44 := by kernel_rfl
  obtain ⟨i0, hi, hz⟩ : ∃ i, Tryd.prog.info? 44 = some i ∧ i.size = 1 := by
    have := Tryd.info16
    cases hq : Tryd.prog.info? 44 with
    | none => simp [hq] at this
    | some i => exact ⟨i, rfl, by simpa [hq] using this⟩
  rw [run_sliceAt_array_h (P := Tryd.prog) W 46 ⟨g, b, none⟩ Tryd.underlying46 .i64 (m : Int) (by omega) (by rw [e1]; omega), e1, e2]
  simp [sizeOf, typeInfo, hi, hz, Result.andThen, slicedAt, Addr.add]

set_option maxRecDepth 20000 in
set_option maxHeartbeats 1000000 in
theorem fill_any {w0 w : World} {g a N : Nat} {F : Nat → Nat} {v : Value} {T A : List Int} (p : Int) (hv : RdU w0 v T) (hT : T.length ≤ 1000) (hb : Below w0.heap.size w0 w) (hg : w0.heap.size ≤ g) (ht : Tab w g N F) (hN : a + 2002 ≤ N)
    (h1 : ∀ j, j ≤ T.length → F (a + 1001 + j) = lc A (T.drop j)) (h0 : F (a + T.length) = 0) :
    Calls Tryd.prog 34 #[.pointer (some ⟨g, a, none⟩), .pointer (some ⟨g, a + 1001, none⟩), .int .i32 p, v] w fun e w' => e = .returned (.tuple #[]) ∧ ∃ G, Tab w' g N G ∧ Fi F G a p A T 0 ∧ Below w0.heap.size w0 w' := by
  obtain ⟨ao, cp, rfl, hc⟩ := hv
  have hcp := ht.drew.run 3 a (a + 1001) T.length 1001 (by omega) (by omega) (by omega)
  have t1 := ht.drew.copy a (a + 1001) T.length (by omega)
  have b1 := below_row (g := g) (c := ((tabC N F).toList.take a ++ ((List.range T.length).map fun k => Value.int .u16 (F (a + 1001 + k) : Int)) ++ (tabC N F).toList.drop (a + T.length)).toArray) hb.drew hg
  have f0 := fi_start0 (p := p) hT h1 h0
  generalize w.drew.setRow g ((tabC N F).toList.take a ++ ((List.range T.length).map fun k => Value.int .u16 (F (a + 1001 + k) : Int)) ++ (tabC N F).toList.drop (a + T.length)).toArray = W1 at *
  have hT' : (T.length : Int) ≤ 1000 := by omega
  have hs := slice_row g (a + 1001) T.length (by omega) w.drew
  go_enter Tryd.func34, Tryd.ntmps34
  go_upto_region 0 with fail
  go_region
  clear hcp hs ht hb
  go_wp2_with fail
  go_loopw [8] (fun i wr => ∃ (k : Nat) (G : Nat → Nat), i = .int .i64 ((k : Int) - 1) ∧ Tab wr g N G ∧ Fi F G a p A T k ∧ Below w0.heap.size w0 wr) (fun i _ => (Go.RowKit.intOf i + 1).toNat)
  case atStart => exact ⟨T.length, _, by go_num, t1, f0, b1⟩
  case round =>
    obtain ⟨k, G, rfl, hG, hF, hB⟩ := hrel
    clear t1 f0 b1
    rcases k with _ | k
    · have e : (((0 : Nat) : Int) - 1) = -1 := by omega
      rw [e]
      clear hc
      go_wp2_with fail
      go_end0
      exact ⟨rfl, G, hG, hF, hB⟩
    · have e : (((k + 1 : Nat) : Int) - 1) = (k : Int) := by omega
      rw [e]
      have hk := hF.le
      have hk' : k < T.length := by omega
      have hk2 : (k : Int) < (T.length : Int) := by omega
      obtain ⟨b, off, rfl, hlt, cT⟩ := hc k T[k] (by simp [hk'])
      have cT2 : wr.cell? ⟨b, off + k, none⟩ = some (.int .i32 T[k]) := by rw [hB.cell (p := ⟨b, _, none⟩) hlt]; exact cT
      have dB := hB.drew
      have dG := hG.drew
      by_cases hz : T[k] = p
      · have R := hF.same hT h1 hk' hz
        have x1 : G (a + 1001 + (k + 1)) ≤ 1000 := by rw [hF.out _ (by omega), h1 _ (by omega)]; have := lc_le A (T.drop (k + 1)); rw [List.length_drop] at this; omega
        have q1 := dG.cell (a + 1001 + (k + 1)) (by omega)
        have q2 := dG.cell (a + k) (by omega)
        have q3 := dG.frz (a + k)
        have S := dG.put (a + k) (G (a + 1001 + (k + 1)) + 1)
        have SB := below_set (j := a + k) (x := .int .u16 ((G (a + 1001 + (k + 1)) + 1 : Nat) : Int)) dB hg dB.size
        have e1 : ((G (a + 1001 + (k + 1)) + 1 : Nat) : Int) = (G (a + 1001 + (k + 1)) : Int) + 1 := by omega
        rw [e1] at S SB
        have HS : Hid _ := And.intro S (And.intro R SB)
        clear S R SB h1 hc cT hF hG dG dB hB
        generalize G (a + 1001 + (k + 1)) = y at *
        generalize G (a + k) = y2 at *
        have x1' : (y : Int) ≤ 1000 := by omega
        generalize T[k] = z at *
        subst hz
        go_upto_region 5 with fail
        go_region
        go_wp2_with fail
        exact ⟨⟨k, _, by go_num, HS.out.1, HS.out.2.1, HS.out.2.2⟩, by simp only [Go.RowKit.intOf]; omega⟩
      · have R := hF.other hT hk' hz
        have x1 : G (a + k) ≤ 1000 := by rw [hF.old _ (by omega)]; have := lc_le A (T.drop k); rw [List.length_drop] at this; omega
        have x2 : G (a + (k + 1)) ≤ 1000 := by rw [hF.new _ (by omega) (by omega)]; have := lc_le (p :: A) (T.drop (k + 1)); rw [List.length_drop] at this; omega
        have q1 := dG.cell (a + (k + 1)) (by omega)
        have q2 := dG.cell (a + k) (by omega)
        have q3 := dG.frz (a + k)
        have S := dG.put (a + k) (max (G (a + k)) (G (a + (k + 1))))
        have SB := below_set (j := a + k) (x := .int .u16 ((max (G (a + k)) (G (a + (k + 1))) : Nat) : Int)) dB hg dB.size
        have e1 : ((max (G (a + k)) (G (a + (k + 1))) : Nat) : Int) = if G (a + k) < G (a + (k + 1)) then (G (a + (k + 1)) : Int) else (G (a + k) : Int) := by split <;> omega
        rw [e1] at S SB
        have HS : Hid _ := And.intro S (And.intro R SB)
        clear S R SB h1 hc cT hF hG dG dB hB e1
        generalize G (a + (k + 1)) = y at *
        generalize G (a + k) = y2 at *
        have x1' : (y2 : Int) ≤ 1000 := by omega
        have x2' : (y : Int) ≤ 1000 := by omega
        generalize T[k] = z at *
        have hz' : (z == p) = false := by simpa using hz
        go_upto_region 6 with fail
        go_region
        go_wp2_with fail
        exact ⟨⟨k, _, by go_num, HS.out.1, HS.out.2.1, HS.out.2.2⟩, by simp only [Go.RowKit.intOf]; omega⟩
end Go.Proofs.YtfhbkaiioiihjaaDoor
