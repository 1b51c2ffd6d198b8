/-
  A region that draws its order, whose operations only read what lay there, and whose callees may make memory: one walk, in the order of the text. The class of worlds: all that lie behind a world.
-/
import Derived.Test.YtjimolafoihnpaaDoorTxPlain
import Derived.BigQuiet
namespace Go.Proofs.YtjimolafoihnpaaDoor
open Go.ChangeShapes Go.WideShapes Go.ChangeAt Go.RowKit Go.PlainAid

/-- A world behind `w`: what lay in `w` lies in it still. -/
structure Beh (w : World) where
  it : World
  h : Below w.heap.size w it
instance (w : World) : Nonempty (Beh w) := ⟨⟨w, Below.refl _ w⟩⟩
theorem Beh.out {w w' : World} (h : ∃ s : Beh w, w' = s.it) : Below w.heap.size w w' := by
  obtain ⟨s, rfl⟩ := h
  exact s.h
theorem Beh.mk' {w w' : World} (h : Below w.heap.size w w') : ∃ s : Beh w, w' = s.it := ⟨⟨w', h⟩, rfl⟩
theorem wp_region_beh {P : Program} {id : Nat} {Q : Exit → Act → World → Prop} {a : Act} {w : World} {l : List Oper} (hm : P.follows .mixedOrders = true) (hB : Region.lexB .any l.toArray = true)
    (h : wpQuiet P l.toArray (fun w' => ∃ s : Beh w, w' = s.it) (fun a' => ∀ w', (∃ s : Beh w, w' = s.it) → Q .normal a' w') l a) : (Code.region id l.toArray true).wp P Q a w :=
  wp_region_quiet (C := fun w' => ∃ s : Beh w, w' = s.it) hm hB (Beh.mk' (Below.drew (Below.refl _ w))) (by simpa using h)
theorem Beh.call {P : Program} {f : FuncId} {args : Array Value} {w : World} {s : Beh w} {v : Value}
    (h : Calls P f args s.it fun e w' => e = .returned v ∧ Below s.it.heap.size s.it w') : Calls P f args s.it fun e w'' => e = .returned v ∧ ∃ s' : Beh w, w'' = s'.it :=
  h.mono fun _ _ ⟨he, hb⟩ => ⟨he, Beh.mk' (chain s.h hb)⟩
end Go.Proofs.YtjimolafoihnpaaDoor
