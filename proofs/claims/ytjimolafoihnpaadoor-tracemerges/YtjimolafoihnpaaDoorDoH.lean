/-
  The contracts of behind and split.
-/
import Derived.Test.YtjimolafoihnpaaDoorDoF
import Derived.Laws.Tables
import Derived.Deep.DeepCutAuto
namespace Go.Proofs.YtjimolafoihnpaaDoor
open Go.WideShapes Go.RowKit Go.ChangeShapes Go.ChangeAt Go.PlainAid

theorem it_below {w wr : World} {s : ByteArray} {x : Nat} (h : Below w.heap.size w wr) : Below w.heap.size w (wr.iterAt w.heap.size s x) :=
  h.trans ⟨rfl, rfl, rfl, by simp [World.iterAt], fun j hj => Lib.iterAt_other _ _ _ _ _ (by omega)⟩

set_option maxRecDepth 20000 in
set_option maxHeartbeats 1000000 in
theorem behind_any (s : ByteArray) (m : Nat) (w : World) (h0 : 0 ≤ cpl s) (hm : m ≤ 1125899906842624) :
    Calls Tryd.prog 92 #[.string s, .int .i64 (m : Int)] w fun e w' => e = .returned (.int .i64 ((pos s (min m (cpl s).toNat) : Nat) : Int)) ∧ Below w.heap.size w w' := by
  have hv := cpl_valid h0
  generalize (cpl s).toNat = n at *
  have hnp := pos_le hv.1 n (Nat.le_refl _)
  clear h0
  have hI : (w.iter s 0).heap[w.heap.size]? = some (.stringIter s (pos s 0)) := World.iter_heap w s 0
  have hB0 : Below w.heap.size w (w.iter s 0) := (Below.refl _ w).alloc (Nat.le_refl _) _
  go_enter Tryd.func92, Tryd.ntmps92
  go_wp2_with fail
  go_loopw [1] (fun i wr => ∃ k : Nat, k ≤ n ∧ k ≤ m ∧ i = .int .i64 ((m : Int) - (k : Int)) ∧ wr.heap[w.heap.size]? = some (.stringIter s (pos s k)) ∧ Below w.heap.size w wr) (fun i _ => (intOf i).toNat)
  case atStart => exact ⟨0, Nat.zero_le _, Nat.zero_le _, by simp, hI, hB0⟩
  case round =>
    obtain ⟨k, hk, hkm, rfl, hit, hbl⟩ := hrel
    clear hI hB0
    by_cases hlt : k < n
    · have h1 := (hv.1 k hlt).1
      have hd := dec_pos hv hlt
      have hnx : ∀ ty, (Instr.next (.pointer (some ⟨w.heap.size, 0, none⟩)) true ty).run Tryd.prog wr = _ := fun ty => Lib.run_next_any_at wr w.heap.size s (pos s k) ty hit h1
      rw [hd.2.1, hd.1] at hnx
      by_cases hkm' : k = m
      · subst hkm'
        have hz : ((k : Int) - (k : Int) == 0) = true := by simp
        have hB2 := it_below hbl (x := pos s (k + 1)) (s := s)
        have hE : Hid (pos s (min k n) = pos s k) := by show _ = _; rw [Nat.min_eq_left hk]
        generalize hW : wr.iterAt w.heap.size s (pos s (k + 1)) = W1 at *
        clear hd h1 hit hW hv
        go_wp2_with fail
        go_ret
        rw [hE.out]
        exact ⟨rfl, hB2⟩
      · have hz : ((m : Int) - (k : Int) == 0) = false := by simp; omega
        have hB2 := it_below hbl (x := pos s (k + 1)) (s := s)
        have hit2 : (wr.iterAt w.heap.size s (pos s (k + 1))).heap[w.heap.size]? = some (.stringIter s (pos s (k + 1))) := Lib.iterAt_heap _ _ _ _ _ hit
        generalize hW : wr.iterAt w.heap.size s (pos s (k + 1)) = W1 at *
        clear hd h1 hit hW hv
        go_wp2_with fail
        refine ⟨⟨k + 1, by omega, by omega, by congr 1; omega, hit2, hB2⟩, ?_⟩
        simp [intOf]
        omega
    · obtain rfl : k = n := by omega
      have hne : ¬ pos s k < s.size := by rw [hv.2]; omega
      have hnx : ∀ ty, (Instr.next (.pointer (some ⟨w.heap.size, 0, none⟩)) true ty).run Tryd.prog wr = _ := fun ty => Lib.run_next_end_at wr w.heap.size s (pos s k) ty hit hne
      have hE : Hid (pos s (min m k) = s.size) := by show _ = _; rw [Nat.min_eq_right hkm, hv.2]
      clear hv hnp hit hne
      go_wp2_with fail
      go_ret
      rw [hE.out]
      exact ⟨rfl, hbl⟩
end Go.Proofs.YtjimolafoihnpaaDoor

/-
  The contract of split.
-/
namespace Go.Proofs.YtjimolafoihnpaaDoor
open Go.WideShapes Go.RowKit Go.ChangeShapes Go.ChangeAt Go.PlainAid

theorem results_cc {P : Program} {fn : Func} {p a : Tmp} {ty : TypeId} (h : fn.results = #[.cell p ty, .cell a ty]) (tmps : Array Value) (w : World) (g k : Nat) (t : TypeId) (cs ds : Array Value) (fr : Nat × Nat) (d : TypeDesc)
    (hp : tmps.getD p undef = .pointer (some ⟨g, 0, none⟩)) (hg : w.heap[g]? = some (.cells cs t fr)) (ha : tmps.getD a undef = .pointer (some ⟨k, 0, none⟩)) (hk : w.heap[k]? = some (.cells ds t fr))
    (hu : P.underlying ty = some d) (hd : (match d with | .struct _ | .array _ _ => true | _ => false) = true) (hi : (P.info? ty).map (·.size) = some cs.size) (hj : (P.info? ty).map (·.size) = some ds.size) :
    (results fn tmps).run P w = .ok (.tuple #[.agg cs, .agg ds]) w := by
  have hp' : tmps[p]?.getD undef = .pointer (some ⟨g, 0, none⟩) := by simpa using hp
  have ha' : tmps[a]?.getD undef = .pointer (some ⟨k, 0, none⟩) := by simpa using ha
  simp [results, h, hp', ha', asAddr, run_loadVar_row w g t ty cs fr d hg hu hd hi, run_loadVar_row w k t ty ds fr d hk hu hd hj]

theorem rb_set4 {X : World} {b : Nat} {r : RunD} (h : RB X b r) (c q f : Int) (t : ByteArray) : RB ((((X.setCell ⟨b, 0, none⟩ (.int .i64 c)).setCell ⟨b, 1, none⟩ (.int .i64 q)).setCell ⟨b, 2, none⟩ (.int .i64 f)).setCell ⟨b, 3, none⟩ (.string t)) b ⟨c, q, f, t⟩ :=
  heap_setCell (heap_setCell (heap_setCell (heap_setCell h 0 _) 1 _) 2 _) 3 _
theorem rb_set {X : World} {b c j : Nat} {r : RunD} {v : Value} (h : RB X c r) (hn : c ≠ b) : RB (X.setCell ⟨b, j, none⟩ v) c r := (Below.heap_setCell X ⟨b, j, none⟩ v c hn).trans h
theorem rb_other {X : World} {b c : Nat} {r : RunD} (h : RB X c r) (hn : c ≠ b) (x y z u : Value) : RB ((((X.setCell ⟨b, 0, none⟩ x).setCell ⟨b, 1, none⟩ y).setCell ⟨b, 2, none⟩ z).setCell ⟨b, 3, none⟩ u) c r :=
  rb_set (rb_set (rb_set (rb_set h hn) hn) hn) hn
theorem bl_set4 {B : Nat} {W X : World} {b : Nat} (h : Below B W X) (hb : B ≤ b) (x y z u : Value) : Below B W ((((X.setCell ⟨b, 0, none⟩ x).setCell ⟨b, 1, none⟩ y).setCell ⟨b, 2, none⟩ z).setCell ⟨b, 3, none⟩ u) :=
  (((h.setCell (p := ⟨b, 0, none⟩) hb x).setCell (p := ⟨b, 1, none⟩) hb y).setCell (p := ⟨b, 2, none⟩) hb z).setCell (p := ⟨b, 3, none⟩) hb u

theorem RB.fz {W : World} {p : Nat} {r : RunD} (h : RB W p r) : W.frozen? ⟨p, 0, none⟩ = false ∧ W.frozen? ⟨p, 1, none⟩ = false ∧ W.frozen? ⟨p, 2, none⟩ = false ∧ W.frozen? ⟨p, 3, none⟩ = false := ⟨frz h 0, frz h 1, frz h 2, frz h 3⟩
/-- Three boxes of runs, one behind the other. -/
structure Sp (w W : World) (x y z : RunD) : Prop where
  a : RB W w.heap.size x
  h : RB W (w.heap.size + 1) y
  t : RB W (w.heap.size + 1 + 1) z
  bl : Below w.heap.size w W
theorem Sp.ht {w W : World} {x y z y' z' : RunD} (s : Sp w W x y z) : Sp w ((((((((W.setCell ⟨w.heap.size + 1, 0, none⟩ (.int .i64 y'.c)).setCell ⟨w.heap.size + 1, 1, none⟩ (.int .i64 y'.q)).setCell ⟨w.heap.size + 1, 2, none⟩ (.int .i64 y'.f)).setCell ⟨w.heap.size + 1, 3, none⟩ (.string y'.t)).setCell ⟨w.heap.size + 1 + 1, 0, none⟩ (.int .i64 z'.c)).setCell ⟨w.heap.size + 1 + 1, 1, none⟩ (.int .i64 z'.q)).setCell ⟨w.heap.size + 1 + 1, 2, none⟩ (.int .i64 z'.f)).setCell ⟨w.heap.size + 1 + 1, 3, none⟩ (.string z'.t)) x y' z' :=
  ⟨rb_other (rb_other s.a (by omega) _ _ _ _) (by omega) _ _ _ _, rb_other (rb_set4 s.h _ _ _ _) (by omega) _ _ _ _, rb_set4 (rb_other s.t (by omega) _ _ _ _) _ _ _ _, bl_set4 (bl_set4 s.bl (by omega) _ _ _ _) (by omega) _ _ _ _⟩
theorem Sp.tt {w W : World} {x y z : RunD} {a b : ByteArray} (s : Sp w W x y z) : Sp w ((W.setCell ⟨w.heap.size + 1, 3, none⟩ (.string a)).setCell ⟨w.heap.size + 1 + 1, 3, none⟩ (.string b)) x ⟨y.c, y.q, y.f, a⟩ ⟨z.c, z.q, z.f, b⟩ :=
  ⟨rb_set (rb_set s.a (by omega)) (by omega), rb_set (heap_setCell s.h 3 _) (by omega), heap_setCell (rb_set s.t (by omega)) 3 _, (s.bl.setCell (p := ⟨w.heap.size + 1, 3, none⟩) (by show _ ≤ w.heap.size + 1; omega) _).setCell (p := ⟨w.heap.size + 1 + 1, 3, none⟩) (by show _ ≤ w.heap.size + 1 + 1; omega) _⟩
theorem Sp.two {w W : World} {x y z : RunD} {f : Int} (s : Sp w W x y z) : Sp w (W.setCell ⟨w.heap.size + 1 + 1, 2, none⟩ (.int .i64 f)) x y ⟨z.c, z.q, f, z.t⟩ :=
  ⟨rb_set s.a (by omega), rb_set s.h (by omega), heap_setCell s.t 2 _, s.bl.setCell (p := ⟨w.heap.size + 1 + 1, 2, none⟩) (by show _ ≤ w.heap.size + 1 + 1; omega) _⟩
theorem Sp.drew {w W : World} {x y z : RunD} (s : Sp w W x y z) : Sp w W.drew x y z := ⟨s.a, s.h, s.t, s.bl.drew⟩

set_option maxRecDepth 20000 in
set_option maxHeartbeats 1000000 in
theorem split_any (r : RunD) (m : Nat) (w : World) (h0 : 0 ≤ cpl r.t) (hm : m ≤ 1125899906842624) (hf : 0 ≤ r.f ∧ r.f ≤ 1000000) :
    Calls Tryd.prog 79 #[r.v, .int .i64 (m : Int)] w fun e w' => e = .returned (.tuple #[(⟨r.c, r.q, r.f, r.t.extract 0 (pos r.t (min m (cpl r.t).toNat))⟩ : RunD).v, (⟨r.c, r.q, r.f + m, r.t.extract (pos r.t (min m (cpl r.t).toNat)) r.t.size⟩ : RunD).v]) ∧ Below w.heap.size w w' := by
  have hS : Sp w (((w.alloc (.cells #[.int .i64 r.c, .int .i64 r.q, .int .i64 r.f, .string r.t] 44)).alloc (.cells #[.int .i64 0, .int .i64 0, .int .i64 0, .string ⟨#[]⟩] 44)).alloc (.cells #[.int .i64 0, .int .i64 0, .int .i64 0, .string ⟨#[]⟩] 44)) r ⟨0, 0, 0, ⟨#[]⟩⟩ ⟨0, 0, 0, ⟨#[]⟩⟩ := by
    refine ⟨?_, ?_, ?_, ((((Below.refl _ w).alloc (Nat.le_refl _) _).alloc (by simp) _).alloc (by simp; omega) _)⟩
    · exact (Below.heap_alloc _ _ _ (by simp; omega)).trans ((Below.heap_alloc _ _ _ (by simp)).trans (heap_alloc_new w _))
    · have := heap_alloc_new (w.alloc (.cells #[.int .i64 r.c, .int .i64 r.q, .int .i64 r.f, .string r.t] 44)) (.cells #[.int .i64 0, .int .i64 0, .int .i64 0, .string ⟨#[]⟩] 44)
      rw [World.size_alloc] at this
      exact (Below.heap_alloc _ _ _ (by simp)).trans this
    · have := heap_alloc_new ((w.alloc (.cells #[.int .i64 r.c, .int .i64 r.q, .int .i64 r.f, .string r.t] 44)).alloc (.cells #[.int .i64 0, .int .i64 0, .int .i64 0, .string ⟨#[]⟩] 44)) (.cells #[.int .i64 0, .int .i64 0, .int .i64 0, .string ⟨#[]⟩] 44)
      rw [World.size_alloc, World.size_alloc] at this
      exact this
  have hb := behind_any r.t m (((w.alloc (.cells #[.int .i64 r.c, .int .i64 r.q, .int .i64 r.f, .string r.t] 44)).alloc (.cells #[.int .i64 0, .int .i64 0, .int .i64 0, .string ⟨#[]⟩] 44)).alloc (.cells #[.int .i64 0, .int .i64 0, .int .i64 0, .string ⟨#[]⟩] 44)) h0 hm
  have hp : pos r.t (min m (cpl r.t).toNat) ≤ r.t.size := by
    have hv := cpl_valid h0
    exact (pos_le hv.1 _ (Nat.min_le_right _ _)).2
  generalize pos r.t (min m (cpl r.t).toNat) = p at *
  obtain ⟨c0, c1, c2, c3⟩ := hS.a.cells
  unfold RunD.v
  go_enter Tryd.func79, Tryd.ntmps79
  go_upto_region 2 with (go_at_call 92; refine hb.mono ?_; rintro e w1 ⟨rfl, hb1⟩; have hS1 : Sp w w1 r ⟨0, 0, 0, ⟨#[]⟩⟩ ⟨0, 0, 0, ⟨#[]⟩⟩ := ⟨hS.a.below hb1, hS.h.below hb1, hS.t.below hb1, chain hS.bl hb1⟩; clear hS hb hb1 c0 c1 c2 c3)
  go_cut [11] (fun _ wx => Sp w wx r r r)
  case first =>
    obtain ⟨c0, c1, c2, c3⟩ := hS1.a.cells
    obtain ⟨d0, d1, d2, d3⟩ := hS1.h.cells
    obtain ⟨e0, e1, e2, e3⟩ := hS1.t.cells
    obtain ⟨x0, x1, x2, x3⟩ := hS1.h.fz
    obtain ⟨y0, y1, y2, y3⟩ := hS1.t.fz
    go_region
    all_goals
      go_wp2_with fail
      go_meet
    all_goals exact hS1.ht.drew
  case rest =>
    clear hS1
    have hA := hcut
    clear hcut
    go_upto_region 3 with fail
    go_cut [16] (fun _ wx => Sp w wx r ⟨r.c, r.q, r.f, r.t.extract 0 p⟩ ⟨r.c, r.q, r.f, r.t.extract p r.t.size⟩)
    case first =>
      obtain ⟨-, -, -, c3⟩ := hA.a.cells
      obtain ⟨-, -, -, d3⟩ := hA.h.cells
      obtain ⟨-, -, -, e3⟩ := hA.t.cells
      obtain ⟨-, -, -, x3⟩ := hA.h.fz
      obtain ⟨-, -, -, y3⟩ := hA.t.fz
      go_region
      all_goals
        go_wp2_with fail
        go_meet
      all_goals exact hA.tt.drew
    case rest =>
      clear hA
      have hB := hcut.two (f := r.f + m)
      obtain ⟨-, -, e2, -⟩ := hcut.t.cells
      obtain ⟨-, -, y2, -⟩ := hcut.t.fz
      go_upto_region 5 with fail
      clear e2 y2 hcut
      generalize wc.setCell _ _ = wd at *
      obtain ⟨d0, d1, d2, d3⟩ := hB.h.cells
      obtain ⟨e0, e1, e2, e3⟩ := hB.t.cells
      obtain ⟨x0, x1, x2, x3⟩ := hB.h.fz
      obtain ⟨y0, y1, y2, y3⟩ := hB.t.fz
      have hF := (hB.ht (y' := ⟨r.c, r.q, r.f, r.t.extract 0 p⟩) (z' := ⟨r.c, r.q, r.f + m, r.t.extract p r.t.size⟩)).drew
      clear hB
      go_region
      all_goals
        go_wp2_with fail
      all_goals
        refine bodyPost_ret (results_cc rfl _ _ (w.heap.size + 1) (w.heap.size + 1 + 1) 44 _ _ (0, 0) _ rfl hF.h rfl hF.t Tryd.underlying44 rfl (by kernel_rfl) (by kernel_rfl)) rfl ?_
        exact ⟨rfl, hF.bl⟩
end Go.Proofs.YtjimolafoihnpaaDoor
