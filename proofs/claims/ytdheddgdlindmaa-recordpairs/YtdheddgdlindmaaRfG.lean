/-
  A delta of small bulk that came in; the sizes of a state that came in.
-/
import Derived.Test.YtdheddgdlindmaaRcY
import Derived.Test.YtdheddgdlindmaaRcZ
import Derived.Test.YtdheddgdlindmaaDArU
import Derived.Test.YtdheddgdlindmaaRfC
namespace Go.Proofs.Ytdheddgdlindmaa
open Go.ChangeShapes Go.WideShapes Go.ChangeAt Go.RowKit Go.PlainAid

theorem od_true {H : Type} {enc : TypeId × Value → H} {w : World} {spare : Nat → Bool} {held : Bool} : Od (H := H) true enc w spare held := by
  intro fuel v x h hz
  obtain ⟨ao, len, cap, rfl⟩ : ∃ ao len cap, v = .slice ao len cap := by
    rcases Go.Deep.open_slice Try.underlying46 h with ⟨hcs, _⟩ | ⟨a, l, c, m, n, D, Pl, hcs, _⟩
    · simp at hcs
      exact ⟨_, _, _, hcs⟩
    · simp at hcs
      exact ⟨_, _, _, hcs⟩
  obtain ⟨l, h1, h2, h3⟩ := open_dlu (ao := ao) (len := len) (cap := cap) h hz
  exact ⟨l, h1, by unfold maxLen; omega, fun o ho => sm_in (h3 o ho), fun _ => ⟨h2, h3⟩⟩
theorem StU.sm {S : StD} (h : StU true S) : S.Sm := fun x hx => ⟨((h.co x hx).2.1.2.2 rfl).2, ((h.co x hx).2.2.1.2.2 rfl).2⟩
theorem StU.ls {up : Bool} {S : StD} (h : StU up S) : S.cs.length ≤ 9223372036854775000 ∧ S.bs.length ≤ 9223372036854775000 ∧ S.us.length ≤ 9223372036854775000 := by
  have := h.cl.1; have := h.bl.1; have := h.ul.1; omega
end Go.Proofs.Ytdheddgdlindmaa
