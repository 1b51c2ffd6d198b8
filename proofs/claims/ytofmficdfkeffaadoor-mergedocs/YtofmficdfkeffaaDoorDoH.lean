/-
  The contracts of behind and split.
-/
import Derived.Test.YtofmficdfkeffaaDoorDoG
import Derived.Laws.Tables
import Derived.Deep.DeepCutAuto
namespace Go.Proofs.YtofmficdfkeffaaDoor
open Go.WideShapes Go.RowKit Go.ChangeShapes Go.ChangeAt Go.PlainAid

theorem it_below {w wr : World} {s : ByteArray} {x : Nat} (h : Below w.heap.size w wr) : Below w.heap.size w (wr.iterAt w.heap.size s x) :=
  h.trans ⟨rfl, rfl, rfl, by simp [World.iterAt], fun j hj => Lib.iterAt_other _ _ _ _ _ (by omega)⟩

end Go.Proofs.YtofmficdfkeffaaDoor

/-
  The contract of split.
-/
namespace Go.Proofs.YtofmficdfkeffaaDoor
open Go.WideShapes Go.RowKit Go.ChangeShapes Go.ChangeAt Go.PlainAid

theorem results_cc {P : Program} {fn : Func} {p a : Tmp} {ty : TypeId} (h : fn.results = #[.cell p ty, .cell a ty]) (tmps : Array Value) (w : World) (g k : Nat) (t : TypeId) (cs ds : Array Value) (fr : Nat × Nat) (d : TypeDesc)
    (hp : tmps.getD p undef = .pointer (some ⟨g, 0, none⟩)) (hg : w.heap[g]? = some (.cells cs t fr)) (ha : tmps.getD a undef = .pointer (some ⟨k, 0, none⟩)) (hk : w.heap[k]? = some (.cells ds t fr))
    (hu : P.underlying ty = some d) (hd : (match d with | .struct _ | .array _ _ => true | _ => false) = true) (hi : (P.info? ty).map (·.size) = some cs.size) (hj : (P.info? ty).map (·.size) = some ds.size) :
    (results fn tmps).run P w = .ok (.tuple #[.agg cs, .agg ds]) w := by
  have hp' : tmps[p]?.getD undef = .pointer (some ⟨g, 0, none⟩) := by simpa using hp
  have ha' : tmps[a]?.getD undef = .pointer (some ⟨k, 0, none⟩) := by simpa using ha
  simp [results, h, hp', ha', asAddr, run_loadVar_row w g t ty cs fr d hg hu hd hi, run_loadVar_row w k t ty ds fr d hk hu hd hj]

theorem rb_set4 {X : World} {b : Nat} {r : RunD} (h : RB X b r) (c q f : Int) (t : ByteArray) : RB ((((X.setCell ⟨b, 0, none⟩ (.int .i64 c)).setCell ⟨b, 1, none⟩ (.int .i64 q)).setCell ⟨b, 2, none⟩ (.int .i64 f)).setCell ⟨b, 3, none⟩ (.string t)) b ⟨c, q, f, t⟩ :=
  heap_setCell (heap_setCell (heap_setCell (heap_setCell h 0 _) 1 _) 2 _) 3 _
theorem rb_set {X : World} {b c j : Nat} {r : RunD} {v : Value} (h : RB X c r) (hn : c ≠ b) : RB (X.setCell ⟨b, j, none⟩ v) c r := (Below.heap_setCell X ⟨b, j, none⟩ v c hn).trans h
theorem rb_other {X : World} {b c : Nat} {r : RunD} (h : RB X c r) (hn : c ≠ b) (x y z u : Value) : RB ((((X.setCell ⟨b, 0, none⟩ x).setCell ⟨b, 1, none⟩ y).setCell ⟨b, 2, none⟩ z).setCell ⟨b, 3, none⟩ u) c r :=
  rb_set (rb_set (rb_set (rb_set h hn) hn) hn) hn
theorem bl_set4 {B : Nat} {W X : World} {b : Nat} (h : Below B W X) (hb : B ≤ b) (x y z u : Value) : Below B W ((((X.setCell ⟨b, 0, none⟩ x).setCell ⟨b, 1, none⟩ y).setCell ⟨b, 2, none⟩ z).setCell ⟨b, 3, none⟩ u) :=
  (((h.setCell (p := ⟨b, 0, none⟩) hb x).setCell (p := ⟨b, 1, none⟩) hb y).setCell (p := ⟨b, 2, none⟩) hb z).setCell (p := ⟨b, 3, none⟩) hb u

theorem RB.fz {W : World} {p : Nat} {r : RunD} (h : RB W p r) : W.frozen? ⟨p, 0, none⟩ = false ∧ W.frozen? ⟨p, 1, none⟩ = false ∧ W.frozen? ⟨p, 2, none⟩ = false ∧ W.frozen? ⟨p, 3, none⟩ = false := ⟨frz h 0, frz h 1, frz h 2, frz h 3⟩
/-- Three boxes of runs, one behind the other. -/
structure Sp (w W : World) (x y z : RunD) : Prop where
  a : RB W w.heap.size x
  h : RB W (w.heap.size + 1) y
  t : RB W (w.heap.size + 1 + 1) z
  bl : Below w.heap.size w W
theorem Sp.ht {w W : World} {x y z y' z' : RunD} (s : Sp w W x y z) : Sp w ((((((((W.setCell ⟨w.heap.size + 1, 0, none⟩ (.int .i64 y'.c)).setCell ⟨w.heap.size + 1, 1, none⟩ (.int .i64 y'.q)).setCell ⟨w.heap.size + 1, 2, none⟩ (.int .i64 y'.f)).setCell ⟨w.heap.size + 1, 3, none⟩ (.string y'.t)).setCell ⟨w.heap.size + 1 + 1, 0, none⟩ (.int .i64 z'.c)).setCell ⟨w.heap.size + 1 + 1, 1, none⟩ (.int .i64 z'.q)).setCell ⟨w.heap.size + 1 + 1, 2, none⟩ (.int .i64 z'.f)).setCell ⟨w.heap.size + 1 + 1, 3, none⟩ (.string z'.t)) x y' z' :=
  ⟨rb_other (rb_other s.a (by omega) _ _ _ _) (by omega) _ _ _ _, rb_other (rb_set4 s.h _ _ _ _) (by omega) _ _ _ _, rb_set4 (rb_other s.t (by omega) _ _ _ _) _ _ _ _, bl_set4 (bl_set4 s.bl (by omega) _ _ _ _) (by omega) _ _ _ _⟩
theorem Sp.tt {w W : World} {x y z : RunD} {a b : ByteArray} (s : Sp w W x y z) : Sp w ((W.setCell ⟨w.heap.size + 1, 3, none⟩ (.string a)).setCell ⟨w.heap.size + 1 + 1, 3, none⟩ (.string b)) x ⟨y.c, y.q, y.f, a⟩ ⟨z.c, z.q, z.f, b⟩ :=
  ⟨rb_set (rb_set s.a (by omega)) (by omega), rb_set (heap_setCell s.h 3 _) (by omega), heap_setCell (rb_set s.t (by omega)) 3 _, (s.bl.setCell (p := ⟨w.heap.size + 1, 3, none⟩) (by show _ ≤ w.heap.size + 1; omega) _).setCell (p := ⟨w.heap.size + 1 + 1, 3, none⟩) (by show _ ≤ w.heap.size + 1 + 1; omega) _⟩
theorem Sp.two {w W : World} {x y z : RunD} {f : Int} (s : Sp w W x y z) : Sp w (W.setCell ⟨w.heap.size + 1 + 1, 2, none⟩ (.int .i64 f)) x y ⟨z.c, z.q, f, z.t⟩ :=
  ⟨rb_set s.a (by omega), rb_set s.h (by omega), heap_setCell s.t 2 _, s.bl.setCell (p := ⟨w.heap.size + 1 + 1, 2, none⟩) (by show _ ≤ w.heap.size + 1 + 1; omega) _⟩
theorem Sp.drew {w W : World} {x y z : RunD} (s : Sp w W x y z) : Sp w W.drew x y z := ⟨s.a, s.h, s.t, s.bl.drew⟩

end Go.Proofs.YtofmficdfkeffaaDoor
