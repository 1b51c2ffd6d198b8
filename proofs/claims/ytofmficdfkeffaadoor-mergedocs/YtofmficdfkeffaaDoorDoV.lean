/-
  utf8.ValidString answers; how many code points a text has: the contract of count.
-/
import Derived.Test.YtofmficdfkeffaaDoorDiV
namespace Go.Proofs.YtofmficdfkeffaaDoor
open Go.ChangeShapes Go.WideShapes Go.ChangeAt Go.RowKit Go.PlainAid

/-- utf8.ValidString answers in this world and behind it. -/
def VS (w : World) : Prop := ∀ (t : ByteArray) (W : World), t.size ≤ 1125899906842624 → Below w.heap.size w W →
  Calls Tryd.prog 87 #[.string t] W fun e w' => e = .returned (.bool (Lib.validD t.data.toList)) ∧ Below W.heap.size W w'
theorem VS.below {w w' : World} (h : VS w) (hb : Below w.heap.size w w') : VS w' := fun t W ht hW => h t W ht (chain hb hW)

set_option maxRecDepth 20000 in
set_option maxHeartbeats 1000000 in
theorem count_any (s : ByteArray) (w : World) (hV : VS w) (hs : s.size ≤ 1125899906842624) :
    Calls Tryd.prog 83 #[.string s] w fun e w' => e = .returned (.int .i64 (cpl s)) ∧ Below w.heap.size w w' := by
  have hv := hV s w hs (Below.refl _ _)
  rw [validD_cpl] at hv
  by_cases h : 0 ≤ cpl s
  · have hr := fun W => runes_big s W hs h
    rw [decide_eq_true h] at hv
    go_enter Tryd.func83, Tryd.ntmps83
    go_wp2_with fail
    refine hv.mono ?_
    rintro e w1 ⟨rfl, hb1⟩
    clear hv
    go_wp2_with fail
    refine (hr w1).mono ?_
    rintro e w2 ⟨rfl, hb2⟩
    clear hr
    go_wp2_with fail
    go_ret
    exact ⟨rfl, chain hb1 hb2⟩
  · have e0 : cpl s = -1 := by have := cpl_le s; omega
    rw [decide_eq_false h] at hv
    rw [e0]
    clear e0 h
    go_enter Tryd.func83, Tryd.ntmps83
    go_wp2_with fail
    refine hv.mono ?_
    rintro e w1 ⟨rfl, hb1⟩
    clear hv
    go_wp2_with fail
    go_ret
    exact ⟨rfl, hb1⟩
end Go.Proofs.YtofmficdfkeffaaDoor
