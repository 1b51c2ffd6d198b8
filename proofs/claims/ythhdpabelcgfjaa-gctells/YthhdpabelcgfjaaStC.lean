/-
  The laws' Copied: a state in memory of its own (as RfE, for any state that came in).
-/
import Derived.Test.YthhdpabelcgfjaaStA
namespace Go.Proofs.Ythhdpabelcgfjaa
open Go.ChangeShapes Go.WideShapes Go.ChangeAt Go.RowKit Go.PlainAid

theorem ocs_one' (l : List OpD) : ∀ u ∈ ocs l, u.oneCell' = true := by
  intro u hu
  simp only [ocs, List.mem_flatten, List.mem_map] at hu
  obtain ⟨_, ⟨o, _, rfl⟩, hu⟩ := hu
  exact three_one _ _ _ u hu
def phKa (gx gp g off nl kc k n clg : Nat) (alg : Option Addr) (xs : List Value) : Nat → Value → World → Prop
  | 0, v, _ => v = (.pointer (some ⟨gx, 1, none⟩))
  | 1, v, _ => v = (.slice none 0 0)
  | 2, v, _ => v = (.pointer (some ⟨gp, 2, none⟩))
  | 3, v, _ => v = (.slice (some ⟨g, off, none⟩) nl kc)
  | 4, v, _ => v = (.int .i64 (k : Int))
  | 5, v, _ => v = (.pointer (some ⟨g, off + k * 6, none⟩))
  | 6, v, _ => v = (.pointer (some ⟨g, off + k * 6 + 1, none⟩))
  | 7, v, _ => v = (.slice alg n clg)
  | 8, v, W => ∃ a c, v = .slice a n c ∧ W.ownsRow gx 3 1 (.slice a n c) n xs
  | 9, v, _ => v = (.pointer (some ⟨gx, 1, none⟩))
  | _, _, _ => True
theorem phKa_stays {gx gp g off nl kc k n clg : Nat} {alg : Option Addr} {xs : List Value} (i : Nat) (v : Value) (w w' : World) (h : phKa gx gp g off nl kc k n clg alg xs i v w) (_hg : Below w.heap.size w w') : phKa gx gp g off nl kc k n clg alg xs i v w' := by
  unfold phKa at h ⊢
  split at h
  all_goals first
    | exact h
    | trivial
    | (obtain ⟨a, c, e, ho⟩ := h; exact ⟨a, c, e, own_belowG ho _hg⟩)
def phKb (gx gp g off nl kc k n clg : Nat) (alg : Option Addr) (xs : List Value) : Nat → Value → World → Prop
  | 0, v, _ => v = (.pointer (some ⟨gx, 2, none⟩))
  | 1, v, _ => v = (.slice none 0 0)
  | 2, v, _ => v = (.pointer (some ⟨gp, 2, none⟩))
  | 3, v, _ => v = (.slice (some ⟨g, off, none⟩) nl kc)
  | 4, v, _ => v = (.int .i64 (k : Int))
  | 5, v, _ => v = (.pointer (some ⟨g, off + k * 6, none⟩))
  | 6, v, _ => v = (.pointer (some ⟨g, off + k * 6 + 2, none⟩))
  | 7, v, _ => v = (.slice alg n clg)
  | 8, v, W => ∃ a c, v = .slice a n c ∧ W.ownsRow gx 67 3 (.slice a n c) n xs
  | 9, v, _ => v = (.pointer (some ⟨gx, 2, none⟩))
  | _, _, _ => True
theorem phKb_stays {gx gp g off nl kc k n clg : Nat} {alg : Option Addr} {xs : List Value} (i : Nat) (v : Value) (w w' : World) (h : phKb gx gp g off nl kc k n clg alg xs i v w) (_hg : Below w.heap.size w w') : phKb gx gp g off nl kc k n clg alg xs i v w' := by
  unfold phKb at h ⊢
  split at h
  all_goals first
    | exact h
    | trivial
    | (obtain ⟨a, c, e, ho⟩ := h; exact ⟨a, c, e, own_belowG ho _hg⟩)
def phKc (gx gp g off nl kc k n clg : Nat) (alg : Option Addr) (xs : List Value) : Nat → Value → World → Prop
  | 0, v, _ => v = (.pointer (some ⟨gx, 3, none⟩))
  | 1, v, _ => v = (.slice none 0 0)
  | 2, v, _ => v = (.pointer (some ⟨gp, 2, none⟩))
  | 3, v, _ => v = (.slice (some ⟨g, off, none⟩) nl kc)
  | 4, v, _ => v = (.int .i64 (k : Int))
  | 5, v, _ => v = (.pointer (some ⟨g, off + k * 6, none⟩))
  | 6, v, _ => v = (.pointer (some ⟨g, off + k * 6 + 3, none⟩))
  | 7, v, _ => v = (.slice alg n clg)
  | 8, v, W => ∃ a c, v = .slice a n c ∧ W.ownsRow gx 67 3 (.slice a n c) n xs
  | 9, v, _ => v = (.pointer (some ⟨gx, 3, none⟩))
  | _, _, _ => True
theorem phKc_stays {gx gp g off nl kc k n clg : Nat} {alg : Option Addr} {xs : List Value} (i : Nat) (v : Value) (w w' : World) (h : phKc gx gp g off nl kc k n clg alg xs i v w) (_hg : Below w.heap.size w w') : phKc gx gp g off nl kc k n clg alg xs i v w' := by
  unfold phKc at h ⊢
  split at h
  all_goals first
    | exact h
    | trivial
    | (obtain ⟨a, c, e, ho⟩ := h; exact ⟨a, c, e, own_belowG ho _hg⟩)
def phKd (gx gp g off nl kc k n clg : Nat) (alg : Option Addr) (xs : List Value) : Nat → Value → World → Prop
  | 0, v, _ => v = (.pointer (some ⟨gx, 2, none⟩))
  | 1, v, _ => v = (.slice none 0 0)
  | 2, v, _ => v = (.pointer (some ⟨gp, 3, none⟩))
  | 3, v, _ => v = (.slice (some ⟨g, off, none⟩) nl kc)
  | 4, v, _ => v = (.int .i64 (k : Int))
  | 5, v, _ => v = (.pointer (some ⟨g, off + k * 3, none⟩))
  | 6, v, _ => v = (.pointer (some ⟨g, off + k * 3 + 2, none⟩))
  | 7, v, _ => v = (.slice alg n clg)
  | 8, v, W => ∃ a c, v = .slice a n c ∧ W.ownsRow gx 3 1 (.slice a n c) n xs
  | 9, v, _ => v = (.pointer (some ⟨gx, 2, none⟩))
  | _, _, _ => True
theorem phKd_stays {gx gp g off nl kc k n clg : Nat} {alg : Option Addr} {xs : List Value} (i : Nat) (v : Value) (w w' : World) (h : phKd gx gp g off nl kc k n clg alg xs i v w) (_hg : Below w.heap.size w w') : phKd gx gp g off nl kc k n clg alg xs i v w' := by
  unfold phKd at h ⊢
  split at h
  all_goals first
    | exact h
    | trivial
    | (obtain ⟨a, c, e, ho⟩ := h; exact ⟨a, c, e, own_belowG ho _hg⟩)
/-- Copied on its way. -/
structure Cp (w : World) (S T : StD) (p1 p2 p3 v1 v2 v3 : Value) (us : List (Value × Value × Value)) (ls : List Value) (W : World) : Prop where
  p : SB W w.heap.size S p1 p2 p3
  r : SB W (w.heap.size + 1) zeroS (.slice none 0 0) (.slice none 0 0) (.slice none 0 0)
  o : SB W (w.heap.size + 1 + 1) T v1 v2 v3
  ow : OwSt W (w.heap.size + 1 + 1 + 1) v1 v2 v3 T us ls
  b : Below w.heap.size w W
  lt : w.heap.size + 1 + 1 + 1 ≤ W.heap.size
theorem Cp.below {w W W' : World} {S T : StD} {p1 p2 p3 v1 v2 v3 : Value} {us : List (Value × Value × Value)} {ls : List Value} (h : Cp w S T p1 p2 p3 v1 v2 v3 us ls W) (hb : Below W.heap.size W W') : Cp w S T p1 p2 p3 v1 v2 v3 us ls W' :=
  ⟨h.p.below hb, h.r.below hb, h.o.below hb, h.ow.below hb, h.b.trans (hb.mono h.b.size), Nat.le_trans h.lt hb.size⟩
/-- A row has grown, and out's box tells it. -/
theorem Cp.grow {w W W' : World} {S T : StD} {p1 p2 p3 v1 v2 v3 : Value} {us : List (Value × Value × Value)} {ls : List Value} {e z n j : Nat} {vr v9 : Value} {xs : List Value} (h : Cp w S T p1 p2 p3 v1 v2 v3 us ls W) (ho : W.ownsRow (w.heap.size + 1 + 1 + 1) e z vr n xs) (he : e = 40 ∨ e = 47 ∨ e = 65) (hg9 : W.grownBy W' vr.ownBlock) :
    SB W' (w.heap.size + 1 + 1) T v1 v2 v3 ∧ SB (W'.setCell ⟨w.heap.size + 1 + 1, j, none⟩ v9) w.heap.size S p1 p2 p3 ∧ SB (W'.setCell ⟨w.heap.size + 1 + 1, j, none⟩ v9) (w.heap.size + 1) zeroS (.slice none 0 0) (.slice none 0 0) (.slice none 0 0) ∧ Below w.heap.size w (W'.setCell ⟨w.heap.size + 1 + 1, j, none⟩ v9) ∧ Rk W W' e ∧ w.heap.size + 1 + 1 + 1 ≤ (W'.setCell ⟨w.heap.size + 1 + 1, j, none⟩ v9).heap.size := by
  have hne : ∀ (k : Nat) (c : Array Value) (t : TypeId), W.heap[k]? = some (Obj.cells c t) → e ≠ t → W'.heap[k]? = some (Obj.cells c t) := fun k c t hk hn => (hg9.block k (heap_lt hk) (box_apart ho hk hn)).trans hk
  have hs := fun k (hn : k ≠ w.heap.size + 1 + 1) => Below.heap_setCell W' ⟨w.heap.size + 1 + 1, j, none⟩ v9 k (by simp only; omega)
  have e1 : e ≠ 26 := by rcases he with rfl | rfl | rfl <;> decide
  refine ⟨hne _ _ _ h.o e1, (hs _ (by omega)).trans (hne _ _ _ h.p e1), (hs _ (by omega)).trans (hne _ _ _ h.r e1), (h.b.grown hg9 h.b.size (fun j hj => by have := (ho.lt j hj).1; omega)).setCell (p := ⟨w.heap.size + 1 + 1, j, none⟩) (by simp only; omega) _, rk_own ho hg9, ?_⟩
  have := hg9.size
  have := h.lt
  have e2 : (W'.setCell ⟨w.heap.size + 1 + 1, j, none⟩ v9).heap.size = W'.heap.size := by simp
  omega
theorem cp_co {w W W' : World} {S T : StD} {p1 p2 p3 v1 v2 v3 v9 u1 u2 u3 : Value} {us : List (Value × Value × Value)} {ls : List Value} {x : CoD} (h : Cp w S T p1 p2 p3 v1 v2 v3 us ls W) (hu1 : W.ownsRow (w.heap.size + 1 + 1 + 1) 3 1 u1 x.ps.length (ivs x.ps)) (hu2 : W.ownsRow (w.heap.size + 1 + 1 + 1) 67 3 u2 x.d.length (ocs x.d)) (hu3 : W.ownsRow (w.heap.size + 1 + 1 + 1) 67 3 u3 x.o.length (ocs x.o)) (ho9 : W'.ownsRow (w.heap.size + 1 + 1 + 1) 40 6 v9 (T.cs.length + 1) (ccs T.cs us ++ [.int .i64 x.n, u1, u2, u3, .int .i64 x.c, .int .i64 x.s])) (hg9 : W.grownBy W' v1.ownBlock) :
    Cp w S ⟨T.nc, T.nb, T.cs ++ [x], T.bs, T.us⟩ p1 p2 p3 v9 v2 v3 (us ++ [(u1, u2, u3)]) ls (W'.setCell ⟨w.heap.size + 1 + 1, 2, none⟩ v9) := by
  obtain ⟨h1, h2, h3, h4, h5, h6⟩ := h.grow (j := 2) (v9 := v9) h.ow.c.row (.inl rfl) hg9
  have hk := rk_set (x := v9) (j := 2) h1
  refine ⟨h2, h3, heap_setCell h1 2 v9, ⟨?_, ?_, ?_⟩, h4, h6⟩
  · exact (OwCo.app (x := x) (u := (u1, u2, u3)) h.ow.c hu1 hu2 hu3 ho9 h5).rk hk (by decide) (by decide) (by decide)
  · exact (h.ow.b.rk h5 (by decide) (by decide)).rk hk (by decide) (by decide)
  · exact hk _ _ _ _ _ _ (by decide) (h5 _ _ _ _ _ _ (by decide) h.ow.u)
theorem cp_br {w W W' : World} {S T : StD} {p1 p2 p3 v1 v2 v3 v9 u1 : Value} {us : List (Value × Value × Value)} {ls : List Value} {x : BrD} (h : Cp w S T p1 p2 p3 v1 v2 v3 us ls W) (hu1 : W.ownsRow (w.heap.size + 1 + 1 + 1) 3 1 u1 x.lg.length (ivs x.lg)) (ho9 : W'.ownsRow (w.heap.size + 1 + 1 + 1) 47 3 v9 (T.bs.length + 1) (bcs T.bs ls ++ [.int .i64 x.i, .string x.nm, u1])) (hg9 : W.grownBy W' v2.ownBlock) :
    Cp w S ⟨T.nc, T.nb, T.cs, T.bs ++ [x], T.us⟩ p1 p2 p3 v1 v9 v3 us (ls ++ [u1]) (W'.setCell ⟨w.heap.size + 1 + 1, 3, none⟩ v9) := by
  obtain ⟨h1, h2, h3, h4, h5, h6⟩ := h.grow (j := 3) (v9 := v9) h.ow.b.row (.inr (.inl rfl)) hg9
  have hk := rk_set (x := v9) (j := 3) h1
  refine ⟨h2, h3, heap_setCell h1 3 v9, ⟨?_, ?_, ?_⟩, h4, h6⟩
  · exact (h.ow.c.rk h5 (by decide) (by decide) (by decide)).rk hk (by decide) (by decide) (by decide)
  · exact (OwBr.app (x := x) (u := u1) h.ow.b hu1 ho9 h5).rk hk (by decide) (by decide)
  · exact hk _ _ _ _ _ _ (by decide) (h5 _ _ _ _ _ _ (by decide) h.ow.u)
theorem cp_cu {w W W' : World} {S T : StD} {p1 p2 p3 v1 v2 v3 v9 : Value} {us : List (Value × Value × Value)} {ls : List Value} {L : List CuD} (h : Cp w S T p1 p2 p3 v1 v2 v3 us ls W) (ho9 : W'.ownsRow (w.heap.size + 1 + 1 + 1) 65 3 v9 L.length (ucs L)) (hb : Below W.heap.size W W') :
    Cp w S ⟨T.nc, T.nb, T.cs, T.bs, L⟩ p1 p2 p3 v1 v2 v9 us ls (W'.setCell ⟨w.heap.size + 1 + 1, 4, none⟩ v9) := by
  have h' := h.below hb
  have hk := rk_set (x := v9) (j := 4) h'.o
  have hs := fun k (hn : k ≠ w.heap.size + 1 + 1) => Below.heap_setCell W' ⟨w.heap.size + 1 + 1, 4, none⟩ v9 k (by simp only; omega)
  refine ⟨(hs _ (by omega)).trans h'.p, (hs _ (by omega)).trans h'.r, heap_setCell h'.o 4 v9, ⟨h'.ow.c.rk hk (by decide) (by decide) (by decide), h'.ow.b.rk hk (by decide) (by decide), hk _ _ _ _ _ _ (by decide) ho9⟩, h'.b.setCell (p := ⟨w.heap.size + 1 + 1, 4, none⟩) (by simp only; omega) _, ?_⟩
  have e2 : (W'.setCell ⟨w.heap.size + 1 + 1, 4, none⟩ v9).heap.size = W'.heap.size := by simp
  have := h'.lt
  omega
theorem cp_new (w : World) (S : StD) (p1 p2 p3 : Value) : Cp w S ⟨S.nc, S.nb, [], [], []⟩ p1 p2 p3 (.slice none 0 0) (.slice none 0 0) (.slice none 0 0) [] [] (((w.alloc (.cells (S.fs p1 p2 p3) 26)).alloc (.cells (zeroS.fs (.slice none 0 0) (.slice none 0 0) (.slice none 0 0)) 26)).alloc (.cells ((StD.mk S.nc S.nb [] [] []).fs (.slice none 0 0) (.slice none 0 0) (.slice none 0 0)) 26)) := by
  have h1 := sb_new w S p1 p2 p3
  have h2 := sb_new (w.alloc (.cells (S.fs p1 p2 p3) 26)) zeroS (.slice none 0 0) (.slice none 0 0) (.slice none 0 0)
  have h3 := sb_new ((w.alloc (.cells (S.fs p1 p2 p3) 26)).alloc (.cells (zeroS.fs (.slice none 0 0) (.slice none 0 0) (.slice none 0 0)) 26)) ⟨S.nc, S.nb, [], [], []⟩ (.slice none 0 0) (.slice none 0 0) (.slice none 0 0)
  rw [World.size_alloc] at h2
  rw [World.size_alloc, World.size_alloc] at h3
  refine ⟨(h1.below (alloc_bR _ _)).below (alloc_bR _ _), h2.below (alloc_bR _ _), h3, ?_, ((alloc_bR w _).trans ((alloc_bR _ _).mono (by simp))).trans ((alloc_bR _ _).mono (by simp; omega)), by simp⟩
  exact ⟨⟨rfl, World.ownsRow_nil _ _ _ _, fun i x u h => by simp at h⟩, ⟨rfl, World.ownsRow_nil _ _ _ _, fun i x u h => by simp at h⟩, World.ownsRow_nil _ _ _ _⟩
set_option maxRecDepth 30000 in
set_option maxHeartbeats 16000000 in
theorem copied15_any {up : Bool} (S : StD) (v1 v2 v3 : Value) (w : World) (hr : RdSt w v1 v2 v3 S) (hU : StU up S) :
    Calls Try.prog 6 #[.agg (S.fs v1 v2 v3)] w fun e w' => ∃ u1 u2 u3, e = .returned (.agg (S.fs u1 u2 u3)) ∧ (∃ us ls, OwSt w' w.heap.size u1 u2 u3 S us ls) ∧ Below w.heap.size w w' := by
  obtain ⟨i0, hin, hz0, hz1, hz2⟩ := info_parts Try.infoCm
  obtain ⟨i1, hin1, hy0, hy1, hy2⟩ := info_parts Try.infoBr
  have hru := hr.u
  obtain ⟨a1, k1, e1, hcs⟩ := hr.c
  subst e1
  obtain ⟨a2, k2, e2, hbs⟩ := hr.b
  subst e2
  obtain ⟨a3, k3, e3, hus⟩ := hr.u
  subst e3
  have h0 := cp_new w S (.slice a1 S.cs.length k1) (.slice a2 S.bs.length k2) (.slice a3 S.us.length k3)
  have lc := hU.cl.1
  have lb := hU.bl.1
  have lu := hU.ul.1
  have hco := hU.co
  have hbr := hU.br
  clear hr hU hus
  obtain ⟨nc, nb, cs, bs, us⟩ := S
  simp only [StD.fs, zeroS] at *
  have hA := (cellsSB (sb_new w ⟨nc, nb, cs, bs, us⟩ (.slice a1 cs.length k1) (.slice a2 bs.length k2) (.slice a3 us.length k3)))
  have hA2 := fun j => (alloc_bR (w.alloc (.cells #[.int .i64 nc, .int .i64 nb, .slice a1 cs.length k1, .slice a2 bs.length k2, .slice a3 us.length k3] 26)) (.cells #[.int .i64 0, .int .i64 0, .slice none 0 0, .slice none 0 0, .slice none 0 0] 26)).cell (p := ⟨w.heap.size, j, none⟩) (by simp)
  have xx0 := (hA2 0).trans hA.1
  have xx1 := (hA2 1).trans hA.2.1
  clear hA hA2
  go_enter Try.func6, Try.ntmps6
  go_wp2_with fail
  clear xx0 xx1
  generalize (((w.alloc (.cells #[.int .i64 nc, .int .i64 nb, .slice a1 cs.length k1, .slice a2 bs.length k2, .slice a3 us.length k3] 26)).alloc (.cells #[.int .i64 0, .int .i64 0, .slice none 0 0, .slice none 0 0, .slice none 0 0] 26)).alloc (.cells #[.int .i64 nc, .int .i64 nb, .slice none 0 0, .slice none 0 0, .slice none 0 0] 26)) = w3 at *
  go_loopw [4] (fun i wr => ∃ (k : Nat) (v : Value) (uu : List (Value × Value × Value)), k ≤ cs.length ∧ i = .int .i64 (k : Int) ∧ Cp w ⟨nc, nb, cs, bs, us⟩ ⟨nc, nb, cs.take k, [], []⟩ (.slice a1 cs.length k1) (.slice a2 bs.length k2) (.slice a3 us.length k3) v (.slice none 0 0) (.slice none 0 0) uu [] wr) (fun i _ => cs.length - (Go.RowKit.intOf i).toNat)
  case atStart => exact ⟨0, _, _, by omega, rfl, h0⟩
  case round =>
    clear h0
    obtain ⟨k, v, uu, hk, rfl, hC⟩ := hrel
    obtain ⟨Lk, HLk⟩ : ∃ L, Hid (L = cs.take k) := ⟨_, rfl⟩
    rw [← HLk.out] at hC
    obtain ⟨av, kv, rfl⟩ := own_form hC.ow.c.row
    have HL : Hid (Lk.length = k) := by show _ = _; rw [HLk.out, List.length_take]; omega
    obtain ⟨x0, x1, x2, x3, x4⟩ := cellsSB hC.p
    by_cases hlt : k < cs.length
    · have hlt' : (k : Int) < (cs.length : Int) := by omega
      obtain ⟨g, off, pv, dv, ov, rfl, hg, ⟨c0, c1, c2, c3, c4, c5⟩, s0, s1, s2⟩ := hcs k cs[k] (by simp [hlt])
      have hxu := hco cs[k] (List.getElem_mem hlt)
      have hls : cs.take (k + 1) = cs.take k ++ [cs[k]] := List.take_succ_eq_append_getElem hlt
      rw [← HLk.out] at hls
      obtain ⟨HLs⟩ : Nonempty (Hid (cs.take (k + 1) = Lk ++ [cs[k]])) := ⟨hls⟩
      clear hls
      generalize cs[k] = x at *
      obtain ⟨alg, clg, rfl⟩ := rdi_len s0
      obtain ⟨ad, kd, ed, -⟩ := id s1
      subst ed
      obtain ⟨ae, ke, ee, -⟩ := id s2
      subst ee
      have l1 := hxu.2.2.2.1.1
      have l2 := hxu.2.1.1
      have l3 := hxu.2.2.1.1
      have hwr : w.heap.size ≤ wr.heap.size := hC.b.size
      have hb := fun (p : Addr) (hp : p.block < w.heap.size) => hC.b.cell (p := p) hp
      have d0 := (hb ⟨g, _, none⟩ hg).trans c0
      have d1 := (hb ⟨g, _, none⟩ hg).trans c1
      have d2 := (hb ⟨g, _, none⟩ hg).trans c2
      have d3 := (hb ⟨g, _, none⟩ hg).trans c3
      have d4 := (hb ⟨g, _, none⟩ hg).trans c4
      have d5 := (hb ⟨g, _, none⟩ hg).trans c5
      have hal := alloc_bR wr (.cells #[.int .i64 x.n, .slice alg x.ps.length clg, .slice ad x.d.length kd, .slice ae x.o.length ke, .int .i64 x.c, .int .i64 x.s] 40)
      have hnw := heap_alloc_new wr (.cells #[.int .i64 x.n, .slice alg x.ps.length clg, .slice ad x.d.length kd, .slice ae x.o.length ke, .int .i64 x.c, .int .i64 x.s] 40)
      have hbx := heap_alloc_new wr (.cells #[.int .i64 x.n, .slice none 0 0, .slice none 0 0, .slice none 0 0, .int .i64 x.c, .int .i64 x.s] 40)
      have hRx := alloc_bR wr (.cells #[.int .i64 x.n, .slice none 0 0, .slice none 0 0, .slice none 0 0, .int .i64 x.c, .int .i64 x.s] 40)
      have hBx := hC.b.trans (hRx.mono hwr)
      have hpar : ∀ W, Below wr.heap.size wr W → W.cell? ⟨w.heap.size, 2, none⟩ = some (.slice (some ⟨g, off, none⟩) cs.length k1) := fun W h => (cellsSB (hC.p.below h)).2.2.1
      obtain ⟨Wa, hWa⟩ : ∃ X, X = wr.alloc (.cells #[.int .i64 x.n, .slice none 0 0, .slice none 0 0, .slice none 0 0, .int .i64 x.c, .int .i64 x.s] 40) := ⟨_, rfl⟩
      rw [← hWa] at hbx hRx hBx
      clear hal hnw hcs hco
      have hDr : Below Wa.heap.size Wa Wa.drew := Below.drew (Below.refl _ _)
      have hcel : ∀ W, Below Wa.drew.heap.size Wa.drew W → W.cell? ⟨wr.heap.size, 1, none⟩ = some (.slice none 0 0) ∧ W.cell? ⟨w.heap.size, 2, none⟩ = some (.slice (some ⟨g, off, none⟩) cs.length k1) ∧ W.cell? ⟨g, off + k * 6 + 1, none⟩ = some (.slice alg x.ps.length clg) := fun W h => by
        have hh := hDr.trans (h.mono hDr.size)
        have hw := hBx.trans (hh.mono hBx.size)
        exact ⟨cell_of_row _ _ 1 _ _ (0, 0) ((hh.block _ (heap_lt hbx)).trans hbx), hpar W (hRx.trans (hh.mono hRx.size)), (hw.cell (p := ⟨g, _, none⟩) hg).trans c1⟩
      have hdup : ∀ W, Below Wa.drew.heap.size Wa.drew W → ∀ (o : Oper) (a : Act) (K : Act → World → Prop) {Q : Exit → Act → World → Prop} (s yo : Operand), o.op = .call { callee := .builtin .append, args := #[s, yo], argTypes := #[28, 28] } → a.eval s = .slice none 0 0 → a.eval yo = .slice alg x.ps.length clg → (∀ a' k' w', w'.ownsRow wr.heap.size 3 1 (.slice a' x.ps.length k') x.ps.length (ivs x.ps) → Below W.heap.size W w' → K (a.put o.dst (.slice a' x.ps.length k')) w') → o.wp Try.prog a W K Q := fun W h o a K Q s y ho hs hx hk => by
        have hh := hDr.trans (h.mono hDr.size)
        have hw := hBx.trans (hh.mono hBx.size)
        have hsz := hRx.size
        have hsz2 := hh.size
        obtain ⟨q1, q2⟩ := rdi_src (s0.below hw)
        obtain ⟨j0, jin, jz0, jz1, jz2⟩ := info_parts Try.infoIntR
        exact wp_dupG s y Try.underlying28 jin jz0 jz1 jz2 rfl (by decide) ho hs hx (by simp [ivs]) q1 q2 (ivs_one _) (by unfold maxLen; omega) (by omega) (by omega) hk
      go_upto_region 9 with fail
      rw [← hWa]
      clear hWa x0 x1 x2 x3 x4 d0 d1 d2 d3 d4 d5 hb
      refine mono.region_monoT (phKa wr.heap.size w.heap.size g off cs.length k1 k x.ps.length clg alg (ivs x.ps)) 10 100 [] [0, 1, 2, 3, 4, 5, 6, 7, 8, 9] (by kernel_rfl) rfl rfl (by kernel_rfl) (by kernel_rfl) (by kernel_rfl) (by kernel_rfl) (by kernel_rfl) (by kernel_rfl) phKa_stays (.cons ?_ (.cons ?_ (.cons ?_ (.cons ?_ (.cons ?_ (.cons ?_ (.cons ?_ (.cons ?_ (.cons ?_ (.cons ?_ (.nil))))))))))) ?_
      · refine mono.dutyT_of rfl ?_
        intro f W hR hO hD K hK
        have eL : mono.lit 100 f [] = ⟨#[f 0, f 1, f 2, f 3, f 4, f 5, f 6, f 7, f 8, f 9, f 10, f 11, f 12, f 13, f 14, f 15, f 16, f 17, f 18, f 19, f 20, f 21, f 22, f 23, f 24, f 25, f 26, f 27, f 28, f 29, f 30, f 31, f 32, f 33, f 34, f 35, f 36, f 37, f 38, f 39, f 40, f 41, f 42, f 43, f 44, f 45, f 46, f 47, f 48, f 49, f 50, f 51, f 52, f 53, f 54, f 55, f 56, f 57, f 58, f 59, f 60, f 61, f 62, f 63, f 64, f 65, f 66, f 67, f 68, f 69, f 70, f 71, f 72, f 73, f 74, f 75, f 76, f 77, f 78, f 79, f 80, f 81, f 82, f 83, f 84, f 85, f 86, f 87, f 88, f 89, f 90, f 91, f 92, f 93, f 94, f 95, f 96, f 97, f 98, f 99], []⟩ := rfl
        replace hK : ∀ v W', Below W.heap.size W W' → phKa wr.heap.size w.heap.size g off cs.length k1 k x.ps.length clg alg (ivs x.ps) 0 v W' → K ((mono.lit 100 f []).put (some 28) v) W' := hK
        rw [eL] at hK ⊢
        simp only [Act.put, List.setIfInBounds_toArray, List.set_cons_succ, List.set_cons_zero] at hK
        have o5 : f 5 = (.pointer (some ⟨wr.heap.size, 0, none⟩)) := hO 5 (by kernel_rfl)
        rw [o5] at hK ⊢
        go_simp
        exact hK _ _ (Below.refl _ _) rfl
      · refine mono.dutyT_of rfl ?_
        intro f W hR hO hD K hK
        have eL : mono.lit 100 f [] = ⟨#[f 0, f 1, f 2, f 3, f 4, f 5, f 6, f 7, f 8, f 9, f 10, f 11, f 12, f 13, f 14, f 15, f 16, f 17, f 18, f 19, f 20, f 21, f 22, f 23, f 24, f 25, f 26, f 27, f 28, f 29, f 30, f 31, f 32, f 33, f 34, f 35, f 36, f 37, f 38, f 39, f 40, f 41, f 42, f 43, f 44, f 45, f 46, f 47, f 48, f 49, f 50, f 51, f 52, f 53, f 54, f 55, f 56, f 57, f 58, f 59, f 60, f 61, f 62, f 63, f 64, f 65, f 66, f 67, f 68, f 69, f 70, f 71, f 72, f 73, f 74, f 75, f 76, f 77, f 78, f 79, f 80, f 81, f 82, f 83, f 84, f 85, f 86, f 87, f 88, f 89, f 90, f 91, f 92, f 93, f 94, f 95, f 96, f 97, f 98, f 99], []⟩ := rfl
        replace hK : ∀ v W', Below W.heap.size W W' → phKa wr.heap.size w.heap.size g off cs.length k1 k x.ps.length clg alg (ivs x.ps) 1 v W' → K ((mono.lit 100 f []).put (some 29) v) W' := hK
        rw [eL] at hK ⊢
        simp only [Act.put, List.setIfInBounds_toArray, List.set_cons_succ, List.set_cons_zero] at hK
        have q0 := hD 0 28 (by kernel_rfl) (by kernel_rfl)
        replace q0 : f 28 = (.pointer (some ⟨wr.heap.size, 1, none⟩)) := q0
        rw [q0] at hK ⊢
        obtain ⟨h1, h2, h3⟩ := hcel W hR
        go_simp
        exact hK _ _ (Below.refl _ _) rfl
      · refine mono.dutyT_of rfl ?_
        intro f W hR hO hD K hK
        have eL : mono.lit 100 f [] = ⟨#[f 0, f 1, f 2, f 3, f 4, f 5, f 6, f 7, f 8, f 9, f 10, f 11, f 12, f 13, f 14, f 15, f 16, f 17, f 18, f 19, f 20, f 21, f 22, f 23, f 24, f 25, f 26, f 27, f 28, f 29, f 30, f 31, f 32, f 33, f 34, f 35, f 36, f 37, f 38, f 39, f 40, f 41, f 42, f 43, f 44, f 45, f 46, f 47, f 48, f 49, f 50, f 51, f 52, f 53, f 54, f 55, f 56, f 57, f 58, f 59, f 60, f 61, f 62, f 63, f 64, f 65, f 66, f 67, f 68, f 69, f 70, f 71, f 72, f 73, f 74, f 75, f 76, f 77, f 78, f 79, f 80, f 81, f 82, f 83, f 84, f 85, f 86, f 87, f 88, f 89, f 90, f 91, f 92, f 93, f 94, f 95, f 96, f 97, f 98, f 99], []⟩ := rfl
        replace hK : ∀ v W', Below W.heap.size W W' → phKa wr.heap.size w.heap.size g off cs.length k1 k x.ps.length clg alg (ivs x.ps) 2 v W' → K ((mono.lit 100 f []).put (some 30) v) W' := hK
        rw [eL] at hK ⊢
        simp only [Act.put, List.setIfInBounds_toArray, List.set_cons_succ, List.set_cons_zero] at hK
        have o1 : f 1 = (.pointer (some ⟨w.heap.size, 0, none⟩)) := hO 1 (by kernel_rfl)
        rw [o1] at hK ⊢
        go_simp
        exact hK _ _ (Below.refl _ _) rfl
      · refine mono.dutyT_of rfl ?_
        intro f W hR hO hD K hK
        have eL : mono.lit 100 f [] = ⟨#[f 0, f 1, f 2, f 3, f 4, f 5, f 6, f 7, f 8, f 9, f 10, f 11, f 12, f 13, f 14, f 15, f 16, f 17, f 18, f 19, f 20, f 21, f 22, f 23, f 24, f 25, f 26, f 27, f 28, f 29, f 30, f 31, f 32, f 33, f 34, f 35, f 36, f 37, f 38, f 39, f 40, f 41, f 42, f 43, f 44, f 45, f 46, f 47, f 48, f 49, f 50, f 51, f 52, f 53, f 54, f 55, f 56, f 57, f 58, f 59, f 60, f 61, f 62, f 63, f 64, f 65, f 66, f 67, f 68, f 69, f 70, f 71, f 72, f 73, f 74, f 75, f 76, f 77, f 78, f 79, f 80, f 81, f 82, f 83, f 84, f 85, f 86, f 87, f 88, f 89, f 90, f 91, f 92, f 93, f 94, f 95, f 96, f 97, f 98, f 99], []⟩ := rfl
        replace hK : ∀ v W', Below W.heap.size W W' → phKa wr.heap.size w.heap.size g off cs.length k1 k x.ps.length clg alg (ivs x.ps) 3 v W' → K ((mono.lit 100 f []).put (some 31) v) W' := hK
        rw [eL] at hK ⊢
        simp only [Act.put, List.setIfInBounds_toArray, List.set_cons_succ, List.set_cons_zero] at hK
        have q2 := hD 2 30 (by kernel_rfl) (by kernel_rfl)
        replace q2 : f 30 = (.pointer (some ⟨w.heap.size, 2, none⟩)) := q2
        rw [q2] at hK ⊢
        obtain ⟨h1, h2, h3⟩ := hcel W hR
        go_simp
        exact hK _ _ (Below.refl _ _) rfl
      · refine mono.dutyT_of rfl ?_
        intro f W hR hO hD K hK
        have eL : mono.lit 100 f [] = ⟨#[f 0, f 1, f 2, f 3, f 4, f 5, f 6, f 7, f 8, f 9, f 10, f 11, f 12, f 13, f 14, f 15, f 16, f 17, f 18, f 19, f 20, f 21, f 22, f 23, f 24, f 25, f 26, f 27, f 28, f 29, f 30, f 31, f 32, f 33, f 34, f 35, f 36, f 37, f 38, f 39, f 40, f 41, f 42, f 43, f 44, f 45, f 46, f 47, f 48, f 49, f 50, f 51, f 52, f 53, f 54, f 55, f 56, f 57, f 58, f 59, f 60, f 61, f 62, f 63, f 64, f 65, f 66, f 67, f 68, f 69, f 70, f 71, f 72, f 73, f 74, f 75, f 76, f 77, f 78, f 79, f 80, f 81, f 82, f 83, f 84, f 85, f 86, f 87, f 88, f 89, f 90, f 91, f 92, f 93, f 94, f 95, f 96, f 97, f 98, f 99], []⟩ := rfl
        replace hK : ∀ v W', Below W.heap.size W W' → phKa wr.heap.size w.heap.size g off cs.length k1 k x.ps.length clg alg (ivs x.ps) 4 v W' → K ((mono.lit 100 f []).put (some 32) v) W' := hK
        rw [eL] at hK ⊢
        simp only [Act.put, List.setIfInBounds_toArray, List.set_cons_succ, List.set_cons_zero] at hK
        have o4 : f 4 = (.int .i64 (k : Int)) := hO 4 (by kernel_rfl)
        rw [o4] at hK ⊢
        go_simp
        exact hK _ _ (Below.refl _ _) rfl
      · refine mono.dutyT_of rfl ?_
        intro f W hR hO hD K hK
        have eL : mono.lit 100 f [] = ⟨#[f 0, f 1, f 2, f 3, f 4, f 5, f 6, f 7, f 8, f 9, f 10, f 11, f 12, f 13, f 14, f 15, f 16, f 17, f 18, f 19, f 20, f 21, f 22, f 23, f 24, f 25, f 26, f 27, f 28, f 29, f 30, f 31, f 32, f 33, f 34, f 35, f 36, f 37, f 38, f 39, f 40, f 41, f 42, f 43, f 44, f 45, f 46, f 47, f 48, f 49, f 50, f 51, f 52, f 53, f 54, f 55, f 56, f 57, f 58, f 59, f 60, f 61, f 62, f 63, f 64, f 65, f 66, f 67, f 68, f 69, f 70, f 71, f 72, f 73, f 74, f 75, f 76, f 77, f 78, f 79, f 80, f 81, f 82, f 83, f 84, f 85, f 86, f 87, f 88, f 89, f 90, f 91, f 92, f 93, f 94, f 95, f 96, f 97, f 98, f 99], []⟩ := rfl
        replace hK : ∀ v W', Below W.heap.size W W' → phKa wr.heap.size w.heap.size g off cs.length k1 k x.ps.length clg alg (ivs x.ps) 5 v W' → K ((mono.lit 100 f []).put (some 33) v) W' := hK
        rw [eL] at hK ⊢
        simp only [Act.put, List.setIfInBounds_toArray, List.set_cons_succ, List.set_cons_zero] at hK
        have q3 := hD 3 31 (by kernel_rfl) (by kernel_rfl)
        replace q3 : f 31 = (.slice (some ⟨g, off, none⟩) cs.length k1) := q3
        have q4 := hD 4 32 (by kernel_rfl) (by kernel_rfl)
        replace q4 : f 32 = (.int .i64 (k : Int)) := q4
        rw [q3, q4] at hK ⊢
        go_simp
        exact hK _ _ (Below.refl _ _) rfl
      · refine mono.dutyT_of rfl ?_
        intro f W hR hO hD K hK
        have eL : mono.lit 100 f [] = ⟨#[f 0, f 1, f 2, f 3, f 4, f 5, f 6, f 7, f 8, f 9, f 10, f 11, f 12, f 13, f 14, f 15, f 16, f 17, f 18, f 19, f 20, f 21, f 22, f 23, f 24, f 25, f 26, f 27, f 28, f 29, f 30, f 31, f 32, f 33, f 34, f 35, f 36, f 37, f 38, f 39, f 40, f 41, f 42, f 43, f 44, f 45, f 46, f 47, f 48, f 49, f 50, f 51, f 52, f 53, f 54, f 55, f 56, f 57, f 58, f 59, f 60, f 61, f 62, f 63, f 64, f 65, f 66, f 67, f 68, f 69, f 70, f 71, f 72, f 73, f 74, f 75, f 76, f 77, f 78, f 79, f 80, f 81, f 82, f 83, f 84, f 85, f 86, f 87, f 88, f 89, f 90, f 91, f 92, f 93, f 94, f 95, f 96, f 97, f 98, f 99], []⟩ := rfl
        replace hK : ∀ v W', Below W.heap.size W W' → phKa wr.heap.size w.heap.size g off cs.length k1 k x.ps.length clg alg (ivs x.ps) 6 v W' → K ((mono.lit 100 f []).put (some 34) v) W' := hK
        rw [eL] at hK ⊢
        simp only [Act.put, List.setIfInBounds_toArray, List.set_cons_succ, List.set_cons_zero] at hK
        have q5 := hD 5 33 (by kernel_rfl) (by kernel_rfl)
        replace q5 : f 33 = (.pointer (some ⟨g, off + k * 6, none⟩)) := q5
        rw [q5] at hK ⊢
        go_simp
        exact hK _ _ (Below.refl _ _) rfl
      · refine mono.dutyT_of rfl ?_
        intro f W hR hO hD K hK
        have eL : mono.lit 100 f [] = ⟨#[f 0, f 1, f 2, f 3, f 4, f 5, f 6, f 7, f 8, f 9, f 10, f 11, f 12, f 13, f 14, f 15, f 16, f 17, f 18, f 19, f 20, f 21, f 22, f 23, f 24, f 25, f 26, f 27, f 28, f 29, f 30, f 31, f 32, f 33, f 34, f 35, f 36, f 37, f 38, f 39, f 40, f 41, f 42, f 43, f 44, f 45, f 46, f 47, f 48, f 49, f 50, f 51, f 52, f 53, f 54, f 55, f 56, f 57, f 58, f 59, f 60, f 61, f 62, f 63, f 64, f 65, f 66, f 67, f 68, f 69, f 70, f 71, f 72, f 73, f 74, f 75, f 76, f 77, f 78, f 79, f 80, f 81, f 82, f 83, f 84, f 85, f 86, f 87, f 88, f 89, f 90, f 91, f 92, f 93, f 94, f 95, f 96, f 97, f 98, f 99], []⟩ := rfl
        replace hK : ∀ v W', Below W.heap.size W W' → phKa wr.heap.size w.heap.size g off cs.length k1 k x.ps.length clg alg (ivs x.ps) 7 v W' → K ((mono.lit 100 f []).put (some 35) v) W' := hK
        rw [eL] at hK ⊢
        simp only [Act.put, List.setIfInBounds_toArray, List.set_cons_succ, List.set_cons_zero] at hK
        have q6 := hD 6 34 (by kernel_rfl) (by kernel_rfl)
        replace q6 : f 34 = (.pointer (some ⟨g, off + k * 6 + 1, none⟩)) := q6
        rw [q6] at hK ⊢
        obtain ⟨h1, h2, h3⟩ := hcel W hR
        go_simp
        exact hK _ _ (Below.refl _ _) rfl
      · refine mono.dutyT_of rfl ?_
        intro f W hR hO hD K hK
        have eL : mono.lit 100 f [] = ⟨#[f 0, f 1, f 2, f 3, f 4, f 5, f 6, f 7, f 8, f 9, f 10, f 11, f 12, f 13, f 14, f 15, f 16, f 17, f 18, f 19, f 20, f 21, f 22, f 23, f 24, f 25, f 26, f 27, f 28, f 29, f 30, f 31, f 32, f 33, f 34, f 35, f 36, f 37, f 38, f 39, f 40, f 41, f 42, f 43, f 44, f 45, f 46, f 47, f 48, f 49, f 50, f 51, f 52, f 53, f 54, f 55, f 56, f 57, f 58, f 59, f 60, f 61, f 62, f 63, f 64, f 65, f 66, f 67, f 68, f 69, f 70, f 71, f 72, f 73, f 74, f 75, f 76, f 77, f 78, f 79, f 80, f 81, f 82, f 83, f 84, f 85, f 86, f 87, f 88, f 89, f 90, f 91, f 92, f 93, f 94, f 95, f 96, f 97, f 98, f 99], []⟩ := rfl
        replace hK : ∀ v W', Below W.heap.size W W' → phKa wr.heap.size w.heap.size g off cs.length k1 k x.ps.length clg alg (ivs x.ps) 8 v W' → K ((mono.lit 100 f []).put (some 36) v) W' := hK
        rw [eL] at hK ⊢
        simp only [Act.put, List.setIfInBounds_toArray, List.set_cons_succ, List.set_cons_zero] at hK
        have q1 := hD 1 29 (by kernel_rfl) (by kernel_rfl)
        replace q1 : f 29 = (.slice none 0 0) := q1
        have q7 := hD 7 35 (by kernel_rfl) (by kernel_rfl)
        replace q7 : f 35 = (.slice alg x.ps.length clg) := q7
        rw [q1, q7] at hK ⊢
        refine hdup W hR _ _ _ (.tmp 29) (.tmp 35) rfl rfl rfl ?_
        intro a c W' ho' hb'
        exact hK _ _ hb' ⟨a, c, rfl, ho'⟩
      · refine mono.dutyT_of rfl ?_
        intro f W hR hO hD K hK
        have eL : mono.lit 100 f [] = ⟨#[f 0, f 1, f 2, f 3, f 4, f 5, f 6, f 7, f 8, f 9, f 10, f 11, f 12, f 13, f 14, f 15, f 16, f 17, f 18, f 19, f 20, f 21, f 22, f 23, f 24, f 25, f 26, f 27, f 28, f 29, f 30, f 31, f 32, f 33, f 34, f 35, f 36, f 37, f 38, f 39, f 40, f 41, f 42, f 43, f 44, f 45, f 46, f 47, f 48, f 49, f 50, f 51, f 52, f 53, f 54, f 55, f 56, f 57, f 58, f 59, f 60, f 61, f 62, f 63, f 64, f 65, f 66, f 67, f 68, f 69, f 70, f 71, f 72, f 73, f 74, f 75, f 76, f 77, f 78, f 79, f 80, f 81, f 82, f 83, f 84, f 85, f 86, f 87, f 88, f 89, f 90, f 91, f 92, f 93, f 94, f 95, f 96, f 97, f 98, f 99], []⟩ := rfl
        replace hK : ∀ v W', Below W.heap.size W W' → phKa wr.heap.size w.heap.size g off cs.length k1 k x.ps.length clg alg (ivs x.ps) 9 v W' → K ((mono.lit 100 f []).put (some 37) v) W' := hK
        rw [eL] at hK ⊢
        simp only [Act.put, List.setIfInBounds_toArray, List.set_cons_succ, List.set_cons_zero] at hK
        have o5 : f 5 = (.pointer (some ⟨wr.heap.size, 0, none⟩)) := hO 5 (by kernel_rfl)
        rw [o5] at hK ⊢
        go_simp
        exact hK _ _ (Below.refl _ _) rfl
      intro f W hB hO hD
      have r0 := hO 0 (by kernel_rfl)
      have r1 := hO 1 (by kernel_rfl)
      have r2 := hO 2 (by kernel_rfl)
      have r3 := hO 3 (by kernel_rfl)
      have r4 := hO 4 (by kernel_rfl)
      have r5 := hO 5 (by kernel_rfl)
      have r6 := hO 6 (by kernel_rfl)
      have r7 := hO 7 (by kernel_rfl)
      have r8 := hO 8 (by kernel_rfl)
      have r9 := hO 9 (by kernel_rfl)
      have r10 := hO 10 (by kernel_rfl)
      have r11 := hO 11 (by kernel_rfl)
      have r12 := hO 12 (by kernel_rfl)
      have r13 := hO 13 (by kernel_rfl)
      have r14 := hO 14 (by kernel_rfl)
      have r15 := hO 15 (by kernel_rfl)
      have r16 := hO 16 (by kernel_rfl)
      have r17 := hO 17 (by kernel_rfl)
      have r18 := hO 18 (by kernel_rfl)
      have r19 := hO 19 (by kernel_rfl)
      have r20 := hO 20 (by kernel_rfl)
      have r21 := hO 21 (by kernel_rfl)
      have r22 := hO 22 (by kernel_rfl)
      have r23 := hO 23 (by kernel_rfl)
      have r24 := hO 24 (by kernel_rfl)
      have r25 := hO 25 (by kernel_rfl)
      have r26 := hO 26 (by kernel_rfl)
      have r27 := hO 27 (by kernel_rfl)
      have r36 := hD 8 36 (by decide) (by kernel_rfl)
      obtain ⟨ua, uk, es, hgs⟩ := r36
      have r37 := hD 9 37 (by decide) (by kernel_rfl)
      replace r37 : f 37 = (.pointer (some ⟨wr.heap.size, 1, none⟩)) := r37
      have r38 := hO 38 (by kernel_rfl)
      have r39 := hO 39 (by kernel_rfl)
      have r40 := hO 40 (by kernel_rfl)
      have r41 := hO 41 (by kernel_rfl)
      have r42 := hO 42 (by kernel_rfl)
      have r43 := hO 43 (by kernel_rfl)
      have r44 := hO 44 (by kernel_rfl)
      have r45 := hO 45 (by kernel_rfl)
      have r46 := hO 46 (by kernel_rfl)
      have r47 := hO 47 (by kernel_rfl)
      have r48 := hO 48 (by kernel_rfl)
      have r49 := hO 49 (by kernel_rfl)
      have r50 := hO 50 (by kernel_rfl)
      have r51 := hO 51 (by kernel_rfl)
      have r52 := hO 52 (by kernel_rfl)
      have r53 := hO 53 (by kernel_rfl)
      have r54 := hO 54 (by kernel_rfl)
      have r55 := hO 55 (by kernel_rfl)
      have r56 := hO 56 (by kernel_rfl)
      have r57 := hO 57 (by kernel_rfl)
      have r58 := hO 58 (by kernel_rfl)
      have r59 := hO 59 (by kernel_rfl)
      have r60 := hO 60 (by kernel_rfl)
      have r61 := hO 61 (by kernel_rfl)
      have r62 := hO 62 (by kernel_rfl)
      have r63 := hO 63 (by kernel_rfl)
      have r64 := hO 64 (by kernel_rfl)
      have r65 := hO 65 (by kernel_rfl)
      have r66 := hO 66 (by kernel_rfl)
      have r67 := hO 67 (by kernel_rfl)
      have r68 := hO 68 (by kernel_rfl)
      have r69 := hO 69 (by kernel_rfl)
      have r70 := hO 70 (by kernel_rfl)
      have r71 := hO 71 (by kernel_rfl)
      have r72 := hO 72 (by kernel_rfl)
      have r73 := hO 73 (by kernel_rfl)
      have r74 := hO 74 (by kernel_rfl)
      have r75 := hO 75 (by kernel_rfl)
      have r76 := hO 76 (by kernel_rfl)
      have r77 := hO 77 (by kernel_rfl)
      have r78 := hO 78 (by kernel_rfl)
      have r79 := hO 79 (by kernel_rfl)
      have r80 := hO 80 (by kernel_rfl)
      have r81 := hO 81 (by kernel_rfl)
      have r82 := hO 82 (by kernel_rfl)
      have r83 := hO 83 (by kernel_rfl)
      have r84 := hO 84 (by kernel_rfl)
      have r85 := hO 85 (by kernel_rfl)
      have r86 := hO 86 (by kernel_rfl)
      have r87 := hO 87 (by kernel_rfl)
      have r88 := hO 88 (by kernel_rfl)
      have r89 := hO 89 (by kernel_rfl)
      have r90 := hO 90 (by kernel_rfl)
      have r91 := hO 91 (by kernel_rfl)
      have r92 := hO 92 (by kernel_rfl)
      have r93 := hO 93 (by kernel_rfl)
      have r94 := hO 94 (by kernel_rfl)
      have r95 := hO 95 (by kernel_rfl)
      have r96 := hO 96 (by kernel_rfl)
      have r97 := hO 97 (by kernel_rfl)
      have r98 := hO 98 (by kernel_rfl)
      have r99 := hO 99 (by kernel_rfl)
      have eL : mono.lit 100 f [] = ⟨#[f 0, f 1, f 2, f 3, f 4, f 5, f 6, f 7, f 8, f 9, f 10, f 11, f 12, f 13, f 14, f 15, f 16, f 17, f 18, f 19, f 20, f 21, f 22, f 23, f 24, f 25, f 26, f 27, f 28, f 29, f 30, f 31, f 32, f 33, f 34, f 35, f 36, f 37, f 38, f 39, f 40, f 41, f 42, f 43, f 44, f 45, f 46, f 47, f 48, f 49, f 50, f 51, f 52, f 53, f 54, f 55, f 56, f 57, f 58, f 59, f 60, f 61, f 62, f 63, f 64, f 65, f 66, f 67, f 68, f 69, f 70, f 71, f 72, f 73, f 74, f 75, f 76, f 77, f 78, f 79, f 80, f 81, f 82, f 83, f 84, f 85, f 86, f 87, f 88, f 89, f 90, f 91, f 92, f 93, f 94, f 95, f 96, f 97, f 98, f 99], []⟩ := rfl
      rw [eL, r0, r1, r2, r3, r4, r5, r6, r7, r8, r9, r10, r11, r12, r13, r14, r15, r16, r17, r18, r19, r20, r21, r22, r23, r24, r25, r26, r27, es, r37, r38, r39, r40, r41, r42, r43, r44, r45, r46, r47, r48, r49, r50, r51, r52, r53, r54, r55, r56, r57, r58, r59, r60, r61, r62, r63, r64, r65, r66, r67, r68, r69, r70, r71, r72, r73, r74, r75, r76, r77, r78, r79, r80, r81, r82, r83, r84, r85, r86, r87, r88, r89, r90, r91, r92, r93, r94, r95, r96, r97, r98, r99]
      clear eL hO hD r0 r1 r2 r3 r4 r5 r6 r7 r8 r9 r10 r11 r12 r13 r14 r15 r16 r17 r18 r19 r20 r21 r22 r23 r24 r25 r26 r27 r37 r38 r39 r40 r41 r42 r43 r44 r45 r46 r47 r48 r49 r50 r51 r52 r53 r54 r55 r56 r57 r58 r59 r60 r61 r62 r63 r64 r65 r66 r67 r68 r69 r70 r71 r72 r73 r74 r75 r76 r77 r78 r79 r80 r81 r82 r83 r84 r85 r86 r87 r88 r89 r90 r91 r92 r93 r94 r95 r96 r97 r98 r99
      change wpList _ _ _ (_ :: []) _ _
      have hBW := hDr.trans (hB.mono hDr.size)
      have hbW := (hBW.block _ (heap_lt hbx)).trans hbx
      have zW := frz hbW 1
      have cW := cell_of_row W wr.heap.size 1 _ _ (0, 0) hbW
      have r1 := own_set (j := 1) (x := .slice ua x.ps.length uk) hgs hbW (by decide)
      have hbN := heap_setCell hbW 1 (.slice ua x.ps.length uk)
      have hRN := (hRx.trans (hBW.mono hRx.size)).setCell (p := ⟨wr.heap.size, 1, none⟩) (Nat.le_refl _) (.slice ua x.ps.length uk)
      have hBN := (hBx.trans (hBW.mono hBx.size)).setCell (p := ⟨wr.heap.size, 1, none⟩) hwr (.slice ua x.ps.length uk)
      have hSN : (W.setCell ⟨wr.heap.size, 1, none⟩ (.slice ua x.ps.length uk)).heap.size = W.heap.size := by simp
      obtain ⟨Wb, hWb⟩ : ∃ X, X = W.setCell ⟨wr.heap.size, 1, none⟩ (.slice ua x.ps.length uk) := ⟨_, rfl⟩
      rw [← hWb] at r1 hbN hRN hBN
      clear hcel hdup hgs hbx hBx hRx hB es hDr
      have hbx := hbN
      have hRx := hRN
      have hBx := hBN
      simp only [List.setIfInBounds_toArray, List.set_cons_zero, List.set_cons_succ] at hbx
      clear hbN hRN hBN hBW hSN
      obtain ⟨u1a, hu1a⟩ : ∃ y, y = ua := ⟨_, rfl⟩
      obtain ⟨u1k, hu1k⟩ : ∃ y, y = uk := ⟨_, rfl⟩
      rw [← hu1a, ← hu1k] at r1 hbx hWb
      have hDr : Below Wb.heap.size Wb Wb.drew := Below.drew (Below.refl _ _)
      have hcel : ∀ W, Below Wb.drew.heap.size Wb.drew W → W.cell? ⟨wr.heap.size, 2, none⟩ = some (.slice none 0 0) ∧ W.cell? ⟨w.heap.size, 2, none⟩ = some (.slice (some ⟨g, off, none⟩) cs.length k1) ∧ W.cell? ⟨g, off + k * 6 + 2, none⟩ = some (.slice ad x.d.length kd) := fun W h => by
        have hh := hDr.trans (h.mono hDr.size)
        have hw := hBx.trans (hh.mono hBx.size)
        exact ⟨cell_of_row _ _ 2 _ _ (0, 0) ((hh.block _ (heap_lt hbx)).trans hbx), hpar W (hRx.trans (hh.mono hRx.size)), (hw.cell (p := ⟨g, _, none⟩) hg).trans c2⟩
      have hdup : ∀ W, Below Wb.drew.heap.size Wb.drew W → ∀ (o : Oper) (a : Act) (K : Act → World → Prop) {Q : Exit → Act → World → Prop} (s yo : Operand), o.op = .call { callee := .builtin .append, args := #[s, yo], argTypes := #[38, 38] } → a.eval s = .slice none 0 0 → a.eval yo = .slice ad x.d.length kd → (∀ a' k' w', w'.ownsRow wr.heap.size 67 3 (.slice a' x.d.length k') x.d.length (ocs x.d) → Below W.heap.size W w' → K (a.put o.dst (.slice a' x.d.length k')) w') → o.wp Try.prog a W K Q := fun W h o a K Q s y ho hs hx hk => by
        have hh := hDr.trans (h.mono hDr.size)
        have hw := hBx.trans (hh.mono hBx.size)
        have hsz := hRx.size
        have hsz2 := hh.size
        obtain ⟨q1, q2⟩ := rdd_src (s1.below hw)
        obtain ⟨j0, jin, jz0, jz1, jz2⟩ := info_parts Try.infoOp
        exact wp_dupG s y Try.underlying38 jin jz0 jz1 jz2 rfl (by decide) ho hs hx (ocs_length _) q1 q2 (ocs_one' _) (by unfold maxLen; omega) (by omega) (by omega) hk
      go_upto_region 10 with fail
      rw [← hu1a, ← hu1k, ← hWb]
      clear hWb hu1a hu1k zW cW hbW
      refine mono.region_monoT (phKb wr.heap.size w.heap.size g off cs.length k1 k x.d.length kd ad (ocs x.d)) 10 100 [] [0, 1, 2, 3, 4, 5, 6, 7, 8, 9] (by kernel_rfl) rfl rfl (by kernel_rfl) (by kernel_rfl) (by kernel_rfl) (by kernel_rfl) (by kernel_rfl) (by kernel_rfl) phKb_stays (.cons ?_ (.cons ?_ (.cons ?_ (.cons ?_ (.cons ?_ (.cons ?_ (.cons ?_ (.cons ?_ (.cons ?_ (.cons ?_ (.nil))))))))))) ?_
      · refine mono.dutyT_of rfl ?_
        intro f W hR hO hD K hK
        have eL : mono.lit 100 f [] = ⟨#[f 0, f 1, f 2, f 3, f 4, f 5, f 6, f 7, f 8, f 9, f 10, f 11, f 12, f 13, f 14, f 15, f 16, f 17, f 18, f 19, f 20, f 21, f 22, f 23, f 24, f 25, f 26, f 27, f 28, f 29, f 30, f 31, f 32, f 33, f 34, f 35, f 36, f 37, f 38, f 39, f 40, f 41, f 42, f 43, f 44, f 45, f 46, f 47, f 48, f 49, f 50, f 51, f 52, f 53, f 54, f 55, f 56, f 57, f 58, f 59, f 60, f 61, f 62, f 63, f 64, f 65, f 66, f 67, f 68, f 69, f 70, f 71, f 72, f 73, f 74, f 75, f 76, f 77, f 78, f 79, f 80, f 81, f 82, f 83, f 84, f 85, f 86, f 87, f 88, f 89, f 90, f 91, f 92, f 93, f 94, f 95, f 96, f 97, f 98, f 99], []⟩ := rfl
        replace hK : ∀ v W', Below W.heap.size W W' → phKb wr.heap.size w.heap.size g off cs.length k1 k x.d.length kd ad (ocs x.d) 0 v W' → K ((mono.lit 100 f []).put (some 38) v) W' := hK
        rw [eL] at hK ⊢
        simp only [Act.put, List.setIfInBounds_toArray, List.set_cons_succ, List.set_cons_zero] at hK
        have o5 : f 5 = (.pointer (some ⟨wr.heap.size, 0, none⟩)) := hO 5 (by kernel_rfl)
        rw [o5] at hK ⊢
        go_simp
        exact hK _ _ (Below.refl _ _) rfl
      · refine mono.dutyT_of rfl ?_
        intro f W hR hO hD K hK
        have eL : mono.lit 100 f [] = ⟨#[f 0, f 1, f 2, f 3, f 4, f 5, f 6, f 7, f 8, f 9, f 10, f 11, f 12, f 13, f 14, f 15, f 16, f 17, f 18, f 19, f 20, f 21, f 22, f 23, f 24, f 25, f 26, f 27, f 28, f 29, f 30, f 31, f 32, f 33, f 34, f 35, f 36, f 37, f 38, f 39, f 40, f 41, f 42, f 43, f 44, f 45, f 46, f 47, f 48, f 49, f 50, f 51, f 52, f 53, f 54, f 55, f 56, f 57, f 58, f 59, f 60, f 61, f 62, f 63, f 64, f 65, f 66, f 67, f 68, f 69, f 70, f 71, f 72, f 73, f 74, f 75, f 76, f 77, f 78, f 79, f 80, f 81, f 82, f 83, f 84, f 85, f 86, f 87, f 88, f 89, f 90, f 91, f 92, f 93, f 94, f 95, f 96, f 97, f 98, f 99], []⟩ := rfl
        replace hK : ∀ v W', Below W.heap.size W W' → phKb wr.heap.size w.heap.size g off cs.length k1 k x.d.length kd ad (ocs x.d) 1 v W' → K ((mono.lit 100 f []).put (some 39) v) W' := hK
        rw [eL] at hK ⊢
        simp only [Act.put, List.setIfInBounds_toArray, List.set_cons_succ, List.set_cons_zero] at hK
        have q0 := hD 0 38 (by kernel_rfl) (by kernel_rfl)
        replace q0 : f 38 = (.pointer (some ⟨wr.heap.size, 2, none⟩)) := q0
        rw [q0] at hK ⊢
        obtain ⟨h1, h2, h3⟩ := hcel W hR
        go_simp
        exact hK _ _ (Below.refl _ _) rfl
      · refine mono.dutyT_of rfl ?_
        intro f W hR hO hD K hK
        have eL : mono.lit 100 f [] = ⟨#[f 0, f 1, f 2, f 3, f 4, f 5, f 6, f 7, f 8, f 9, f 10, f 11, f 12, f 13, f 14, f 15, f 16, f 17, f 18, f 19, f 20, f 21, f 22, f 23, f 24, f 25, f 26, f 27, f 28, f 29, f 30, f 31, f 32, f 33, f 34, f 35, f 36, f 37, f 38, f 39, f 40, f 41, f 42, f 43, f 44, f 45, f 46, f 47, f 48, f 49, f 50, f 51, f 52, f 53, f 54, f 55, f 56, f 57, f 58, f 59, f 60, f 61, f 62, f 63, f 64, f 65, f 66, f 67, f 68, f 69, f 70, f 71, f 72, f 73, f 74, f 75, f 76, f 77, f 78, f 79, f 80, f 81, f 82, f 83, f 84, f 85, f 86, f 87, f 88, f 89, f 90, f 91, f 92, f 93, f 94, f 95, f 96, f 97, f 98, f 99], []⟩ := rfl
        replace hK : ∀ v W', Below W.heap.size W W' → phKb wr.heap.size w.heap.size g off cs.length k1 k x.d.length kd ad (ocs x.d) 2 v W' → K ((mono.lit 100 f []).put (some 40) v) W' := hK
        rw [eL] at hK ⊢
        simp only [Act.put, List.setIfInBounds_toArray, List.set_cons_succ, List.set_cons_zero] at hK
        have o1 : f 1 = (.pointer (some ⟨w.heap.size, 0, none⟩)) := hO 1 (by kernel_rfl)
        rw [o1] at hK ⊢
        go_simp
        exact hK _ _ (Below.refl _ _) rfl
      · refine mono.dutyT_of rfl ?_
        intro f W hR hO hD K hK
        have eL : mono.lit 100 f [] = ⟨#[f 0, f 1, f 2, f 3, f 4, f 5, f 6, f 7, f 8, f 9, f 10, f 11, f 12, f 13, f 14, f 15, f 16, f 17, f 18, f 19, f 20, f 21, f 22, f 23, f 24, f 25, f 26, f 27, f 28, f 29, f 30, f 31, f 32, f 33, f 34, f 35, f 36, f 37, f 38, f 39, f 40, f 41, f 42, f 43, f 44, f 45, f 46, f 47, f 48, f 49, f 50, f 51, f 52, f 53, f 54, f 55, f 56, f 57, f 58, f 59, f 60, f 61, f 62, f 63, f 64, f 65, f 66, f 67, f 68, f 69, f 70, f 71, f 72, f 73, f 74, f 75, f 76, f 77, f 78, f 79, f 80, f 81, f 82, f 83, f 84, f 85, f 86, f 87, f 88, f 89, f 90, f 91, f 92, f 93, f 94, f 95, f 96, f 97, f 98, f 99], []⟩ := rfl
        replace hK : ∀ v W', Below W.heap.size W W' → phKb wr.heap.size w.heap.size g off cs.length k1 k x.d.length kd ad (ocs x.d) 3 v W' → K ((mono.lit 100 f []).put (some 41) v) W' := hK
        rw [eL] at hK ⊢
        simp only [Act.put, List.setIfInBounds_toArray, List.set_cons_succ, List.set_cons_zero] at hK
        have q2 := hD 2 40 (by kernel_rfl) (by kernel_rfl)
        replace q2 : f 40 = (.pointer (some ⟨w.heap.size, 2, none⟩)) := q2
        rw [q2] at hK ⊢
        obtain ⟨h1, h2, h3⟩ := hcel W hR
        go_simp
        exact hK _ _ (Below.refl _ _) rfl
      · refine mono.dutyT_of rfl ?_
        intro f W hR hO hD K hK
        have eL : mono.lit 100 f [] = ⟨#[f 0, f 1, f 2, f 3, f 4, f 5, f 6, f 7, f 8, f 9, f 10, f 11, f 12, f 13, f 14, f 15, f 16, f 17, f 18, f 19, f 20, f 21, f 22, f 23, f 24, f 25, f 26, f 27, f 28, f 29, f 30, f 31, f 32, f 33, f 34, f 35, f 36, f 37, f 38, f 39, f 40, f 41, f 42, f 43, f 44, f 45, f 46, f 47, f 48, f 49, f 50, f 51, f 52, f 53, f 54, f 55, f 56, f 57, f 58, f 59, f 60, f 61, f 62, f 63, f 64, f 65, f 66, f 67, f 68, f 69, f 70, f 71, f 72, f 73, f 74, f 75, f 76, f 77, f 78, f 79, f 80, f 81, f 82, f 83, f 84, f 85, f 86, f 87, f 88, f 89, f 90, f 91, f 92, f 93, f 94, f 95, f 96, f 97, f 98, f 99], []⟩ := rfl
        replace hK : ∀ v W', Below W.heap.size W W' → phKb wr.heap.size w.heap.size g off cs.length k1 k x.d.length kd ad (ocs x.d) 4 v W' → K ((mono.lit 100 f []).put (some 42) v) W' := hK
        rw [eL] at hK ⊢
        simp only [Act.put, List.setIfInBounds_toArray, List.set_cons_succ, List.set_cons_zero] at hK
        have o4 : f 4 = (.int .i64 (k : Int)) := hO 4 (by kernel_rfl)
        rw [o4] at hK ⊢
        go_simp
        exact hK _ _ (Below.refl _ _) rfl
      · refine mono.dutyT_of rfl ?_
        intro f W hR hO hD K hK
        have eL : mono.lit 100 f [] = ⟨#[f 0, f 1, f 2, f 3, f 4, f 5, f 6, f 7, f 8, f 9, f 10, f 11, f 12, f 13, f 14, f 15, f 16, f 17, f 18, f 19, f 20, f 21, f 22, f 23, f 24, f 25, f 26, f 27, f 28, f 29, f 30, f 31, f 32, f 33, f 34, f 35, f 36, f 37, f 38, f 39, f 40, f 41, f 42, f 43, f 44, f 45, f 46, f 47, f 48, f 49, f 50, f 51, f 52, f 53, f 54, f 55, f 56, f 57, f 58, f 59, f 60, f 61, f 62, f 63, f 64, f 65, f 66, f 67, f 68, f 69, f 70, f 71, f 72, f 73, f 74, f 75, f 76, f 77, f 78, f 79, f 80, f 81, f 82, f 83, f 84, f 85, f 86, f 87, f 88, f 89, f 90, f 91, f 92, f 93, f 94, f 95, f 96, f 97, f 98, f 99], []⟩ := rfl
        replace hK : ∀ v W', Below W.heap.size W W' → phKb wr.heap.size w.heap.size g off cs.length k1 k x.d.length kd ad (ocs x.d) 5 v W' → K ((mono.lit 100 f []).put (some 43) v) W' := hK
        rw [eL] at hK ⊢
        simp only [Act.put, List.setIfInBounds_toArray, List.set_cons_succ, List.set_cons_zero] at hK
        have q3 := hD 3 41 (by kernel_rfl) (by kernel_rfl)
        replace q3 : f 41 = (.slice (some ⟨g, off, none⟩) cs.length k1) := q3
        have q4 := hD 4 42 (by kernel_rfl) (by kernel_rfl)
        replace q4 : f 42 = (.int .i64 (k : Int)) := q4
        rw [q3, q4] at hK ⊢
        go_simp
        exact hK _ _ (Below.refl _ _) rfl
      · refine mono.dutyT_of rfl ?_
        intro f W hR hO hD K hK
        have eL : mono.lit 100 f [] = ⟨#[f 0, f 1, f 2, f 3, f 4, f 5, f 6, f 7, f 8, f 9, f 10, f 11, f 12, f 13, f 14, f 15, f 16, f 17, f 18, f 19, f 20, f 21, f 22, f 23, f 24, f 25, f 26, f 27, f 28, f 29, f 30, f 31, f 32, f 33, f 34, f 35, f 36, f 37, f 38, f 39, f 40, f 41, f 42, f 43, f 44, f 45, f 46, f 47, f 48, f 49, f 50, f 51, f 52, f 53, f 54, f 55, f 56, f 57, f 58, f 59, f 60, f 61, f 62, f 63, f 64, f 65, f 66, f 67, f 68, f 69, f 70, f 71, f 72, f 73, f 74, f 75, f 76, f 77, f 78, f 79, f 80, f 81, f 82, f 83, f 84, f 85, f 86, f 87, f 88, f 89, f 90, f 91, f 92, f 93, f 94, f 95, f 96, f 97, f 98, f 99], []⟩ := rfl
        replace hK : ∀ v W', Below W.heap.size W W' → phKb wr.heap.size w.heap.size g off cs.length k1 k x.d.length kd ad (ocs x.d) 6 v W' → K ((mono.lit 100 f []).put (some 44) v) W' := hK
        rw [eL] at hK ⊢
        simp only [Act.put, List.setIfInBounds_toArray, List.set_cons_succ, List.set_cons_zero] at hK
        have q5 := hD 5 43 (by kernel_rfl) (by kernel_rfl)
        replace q5 : f 43 = (.pointer (some ⟨g, off + k * 6, none⟩)) := q5
        rw [q5] at hK ⊢
        go_simp
        exact hK _ _ (Below.refl _ _) rfl
      · refine mono.dutyT_of rfl ?_
        intro f W hR hO hD K hK
        have eL : mono.lit 100 f [] = ⟨#[f 0, f 1, f 2, f 3, f 4, f 5, f 6, f 7, f 8, f 9, f 10, f 11, f 12, f 13, f 14, f 15, f 16, f 17, f 18, f 19, f 20, f 21, f 22, f 23, f 24, f 25, f 26, f 27, f 28, f 29, f 30, f 31, f 32, f 33, f 34, f 35, f 36, f 37, f 38, f 39, f 40, f 41, f 42, f 43, f 44, f 45, f 46, f 47, f 48, f 49, f 50, f 51, f 52, f 53, f 54, f 55, f 56, f 57, f 58, f 59, f 60, f 61, f 62, f 63, f 64, f 65, f 66, f 67, f 68, f 69, f 70, f 71, f 72, f 73, f 74, f 75, f 76, f 77, f 78, f 79, f 80, f 81, f 82, f 83, f 84, f 85, f 86, f 87, f 88, f 89, f 90, f 91, f 92, f 93, f 94, f 95, f 96, f 97, f 98, f 99], []⟩ := rfl
        replace hK : ∀ v W', Below W.heap.size W W' → phKb wr.heap.size w.heap.size g off cs.length k1 k x.d.length kd ad (ocs x.d) 7 v W' → K ((mono.lit 100 f []).put (some 45) v) W' := hK
        rw [eL] at hK ⊢
        simp only [Act.put, List.setIfInBounds_toArray, List.set_cons_succ, List.set_cons_zero] at hK
        have q6 := hD 6 44 (by kernel_rfl) (by kernel_rfl)
        replace q6 : f 44 = (.pointer (some ⟨g, off + k * 6 + 2, none⟩)) := q6
        rw [q6] at hK ⊢
        obtain ⟨h1, h2, h3⟩ := hcel W hR
        go_simp
        exact hK _ _ (Below.refl _ _) rfl
      · refine mono.dutyT_of rfl ?_
        intro f W hR hO hD K hK
        have eL : mono.lit 100 f [] = ⟨#[f 0, f 1, f 2, f 3, f 4, f 5, f 6, f 7, f 8, f 9, f 10, f 11, f 12, f 13, f 14, f 15, f 16, f 17, f 18, f 19, f 20, f 21, f 22, f 23, f 24, f 25, f 26, f 27, f 28, f 29, f 30, f 31, f 32, f 33, f 34, f 35, f 36, f 37, f 38, f 39, f 40, f 41, f 42, f 43, f 44, f 45, f 46, f 47, f 48, f 49, f 50, f 51, f 52, f 53, f 54, f 55, f 56, f 57, f 58, f 59, f 60, f 61, f 62, f 63, f 64, f 65, f 66, f 67, f 68, f 69, f 70, f 71, f 72, f 73, f 74, f 75, f 76, f 77, f 78, f 79, f 80, f 81, f 82, f 83, f 84, f 85, f 86, f 87, f 88, f 89, f 90, f 91, f 92, f 93, f 94, f 95, f 96, f 97, f 98, f 99], []⟩ := rfl
        replace hK : ∀ v W', Below W.heap.size W W' → phKb wr.heap.size w.heap.size g off cs.length k1 k x.d.length kd ad (ocs x.d) 8 v W' → K ((mono.lit 100 f []).put (some 46) v) W' := hK
        rw [eL] at hK ⊢
        simp only [Act.put, List.setIfInBounds_toArray, List.set_cons_succ, List.set_cons_zero] at hK
        have q1 := hD 1 39 (by kernel_rfl) (by kernel_rfl)
        replace q1 : f 39 = (.slice none 0 0) := q1
        have q7 := hD 7 45 (by kernel_rfl) (by kernel_rfl)
        replace q7 : f 45 = (.slice ad x.d.length kd) := q7
        rw [q1, q7] at hK ⊢
        refine hdup W hR _ _ _ (.tmp 39) (.tmp 45) rfl rfl rfl ?_
        intro a c W' ho' hb'
        exact hK _ _ hb' ⟨a, c, rfl, ho'⟩
      · refine mono.dutyT_of rfl ?_
        intro f W hR hO hD K hK
        have eL : mono.lit 100 f [] = ⟨#[f 0, f 1, f 2, f 3, f 4, f 5, f 6, f 7, f 8, f 9, f 10, f 11, f 12, f 13, f 14, f 15, f 16, f 17, f 18, f 19, f 20, f 21, f 22, f 23, f 24, f 25, f 26, f 27, f 28, f 29, f 30, f 31, f 32, f 33, f 34, f 35, f 36, f 37, f 38, f 39, f 40, f 41, f 42, f 43, f 44, f 45, f 46, f 47, f 48, f 49, f 50, f 51, f 52, f 53, f 54, f 55, f 56, f 57, f 58, f 59, f 60, f 61, f 62, f 63, f 64, f 65, f 66, f 67, f 68, f 69, f 70, f 71, f 72, f 73, f 74, f 75, f 76, f 77, f 78, f 79, f 80, f 81, f 82, f 83, f 84, f 85, f 86, f 87, f 88, f 89, f 90, f 91, f 92, f 93, f 94, f 95, f 96, f 97, f 98, f 99], []⟩ := rfl
        replace hK : ∀ v W', Below W.heap.size W W' → phKb wr.heap.size w.heap.size g off cs.length k1 k x.d.length kd ad (ocs x.d) 9 v W' → K ((mono.lit 100 f []).put (some 47) v) W' := hK
        rw [eL] at hK ⊢
        simp only [Act.put, List.setIfInBounds_toArray, List.set_cons_succ, List.set_cons_zero] at hK
        have o5 : f 5 = (.pointer (some ⟨wr.heap.size, 0, none⟩)) := hO 5 (by kernel_rfl)
        rw [o5] at hK ⊢
        go_simp
        exact hK _ _ (Below.refl _ _) rfl
      intro f W hB hO hD
      have r0 := hO 0 (by kernel_rfl)
      have r1 := hO 1 (by kernel_rfl)
      have r2 := hO 2 (by kernel_rfl)
      have r3 := hO 3 (by kernel_rfl)
      have r4 := hO 4 (by kernel_rfl)
      have r5 := hO 5 (by kernel_rfl)
      have r6 := hO 6 (by kernel_rfl)
      have r7 := hO 7 (by kernel_rfl)
      have r8 := hO 8 (by kernel_rfl)
      have r9 := hO 9 (by kernel_rfl)
      have r10 := hO 10 (by kernel_rfl)
      have r11 := hO 11 (by kernel_rfl)
      have r12 := hO 12 (by kernel_rfl)
      have r13 := hO 13 (by kernel_rfl)
      have r14 := hO 14 (by kernel_rfl)
      have r15 := hO 15 (by kernel_rfl)
      have r16 := hO 16 (by kernel_rfl)
      have r17 := hO 17 (by kernel_rfl)
      have r18 := hO 18 (by kernel_rfl)
      have r19 := hO 19 (by kernel_rfl)
      have r20 := hO 20 (by kernel_rfl)
      have r21 := hO 21 (by kernel_rfl)
      have r22 := hO 22 (by kernel_rfl)
      have r23 := hO 23 (by kernel_rfl)
      have r24 := hO 24 (by kernel_rfl)
      have r25 := hO 25 (by kernel_rfl)
      have r26 := hO 26 (by kernel_rfl)
      have r27 := hO 27 (by kernel_rfl)
      have r28 := hO 28 (by kernel_rfl)
      have r29 := hO 29 (by kernel_rfl)
      have r30 := hO 30 (by kernel_rfl)
      have r31 := hO 31 (by kernel_rfl)
      have r32 := hO 32 (by kernel_rfl)
      have r33 := hO 33 (by kernel_rfl)
      have r34 := hO 34 (by kernel_rfl)
      have r35 := hO 35 (by kernel_rfl)
      have r36 := hO 36 (by kernel_rfl)
      have r37 := hO 37 (by kernel_rfl)
      have r46 := hD 8 46 (by decide) (by kernel_rfl)
      obtain ⟨ua, uk, es, hgs⟩ := r46
      have r47 := hD 9 47 (by decide) (by kernel_rfl)
      replace r47 : f 47 = (.pointer (some ⟨wr.heap.size, 2, none⟩)) := r47
      have r48 := hO 48 (by kernel_rfl)
      have r49 := hO 49 (by kernel_rfl)
      have r50 := hO 50 (by kernel_rfl)
      have r51 := hO 51 (by kernel_rfl)
      have r52 := hO 52 (by kernel_rfl)
      have r53 := hO 53 (by kernel_rfl)
      have r54 := hO 54 (by kernel_rfl)
      have r55 := hO 55 (by kernel_rfl)
      have r56 := hO 56 (by kernel_rfl)
      have r57 := hO 57 (by kernel_rfl)
      have r58 := hO 58 (by kernel_rfl)
      have r59 := hO 59 (by kernel_rfl)
      have r60 := hO 60 (by kernel_rfl)
      have r61 := hO 61 (by kernel_rfl)
      have r62 := hO 62 (by kernel_rfl)
      have r63 := hO 63 (by kernel_rfl)
      have r64 := hO 64 (by kernel_rfl)
      have r65 := hO 65 (by kernel_rfl)
      have r66 := hO 66 (by kernel_rfl)
      have r67 := hO 67 (by kernel_rfl)
      have r68 := hO 68 (by kernel_rfl)
      have r69 := hO 69 (by kernel_rfl)
      have r70 := hO 70 (by kernel_rfl)
      have r71 := hO 71 (by kernel_rfl)
      have r72 := hO 72 (by kernel_rfl)
      have r73 := hO 73 (by kernel_rfl)
      have r74 := hO 74 (by kernel_rfl)
      have r75 := hO 75 (by kernel_rfl)
      have r76 := hO 76 (by kernel_rfl)
      have r77 := hO 77 (by kernel_rfl)
      have r78 := hO 78 (by kernel_rfl)
      have r79 := hO 79 (by kernel_rfl)
      have r80 := hO 80 (by kernel_rfl)
      have r81 := hO 81 (by kernel_rfl)
      have r82 := hO 82 (by kernel_rfl)
      have r83 := hO 83 (by kernel_rfl)
      have r84 := hO 84 (by kernel_rfl)
      have r85 := hO 85 (by kernel_rfl)
      have r86 := hO 86 (by kernel_rfl)
      have r87 := hO 87 (by kernel_rfl)
      have r88 := hO 88 (by kernel_rfl)
      have r89 := hO 89 (by kernel_rfl)
      have r90 := hO 90 (by kernel_rfl)
      have r91 := hO 91 (by kernel_rfl)
      have r92 := hO 92 (by kernel_rfl)
      have r93 := hO 93 (by kernel_rfl)
      have r94 := hO 94 (by kernel_rfl)
      have r95 := hO 95 (by kernel_rfl)
      have r96 := hO 96 (by kernel_rfl)
      have r97 := hO 97 (by kernel_rfl)
      have r98 := hO 98 (by kernel_rfl)
      have r99 := hO 99 (by kernel_rfl)
      have eL : mono.lit 100 f [] = ⟨#[f 0, f 1, f 2, f 3, f 4, f 5, f 6, f 7, f 8, f 9, f 10, f 11, f 12, f 13, f 14, f 15, f 16, f 17, f 18, f 19, f 20, f 21, f 22, f 23, f 24, f 25, f 26, f 27, f 28, f 29, f 30, f 31, f 32, f 33, f 34, f 35, f 36, f 37, f 38, f 39, f 40, f 41, f 42, f 43, f 44, f 45, f 46, f 47, f 48, f 49, f 50, f 51, f 52, f 53, f 54, f 55, f 56, f 57, f 58, f 59, f 60, f 61, f 62, f 63, f 64, f 65, f 66, f 67, f 68, f 69, f 70, f 71, f 72, f 73, f 74, f 75, f 76, f 77, f 78, f 79, f 80, f 81, f 82, f 83, f 84, f 85, f 86, f 87, f 88, f 89, f 90, f 91, f 92, f 93, f 94, f 95, f 96, f 97, f 98, f 99], []⟩ := rfl
      rw [eL, r0, r1, r2, r3, r4, r5, r6, r7, r8, r9, r10, r11, r12, r13, r14, r15, r16, r17, r18, r19, r20, r21, r22, r23, r24, r25, r26, r27, r28, r29, r30, r31, r32, r33, r34, r35, r36, r37, es, r47, r48, r49, r50, r51, r52, r53, r54, r55, r56, r57, r58, r59, r60, r61, r62, r63, r64, r65, r66, r67, r68, r69, r70, r71, r72, r73, r74, r75, r76, r77, r78, r79, r80, r81, r82, r83, r84, r85, r86, r87, r88, r89, r90, r91, r92, r93, r94, r95, r96, r97, r98, r99]
      clear eL hO hD r0 r1 r2 r3 r4 r5 r6 r7 r8 r9 r10 r11 r12 r13 r14 r15 r16 r17 r18 r19 r20 r21 r22 r23 r24 r25 r26 r27 r28 r29 r30 r31 r32 r33 r34 r35 r36 r37 r47 r48 r49 r50 r51 r52 r53 r54 r55 r56 r57 r58 r59 r60 r61 r62 r63 r64 r65 r66 r67 r68 r69 r70 r71 r72 r73 r74 r75 r76 r77 r78 r79 r80 r81 r82 r83 r84 r85 r86 r87 r88 r89 r90 r91 r92 r93 r94 r95 r96 r97 r98 r99
      change wpList _ _ _ (_ :: []) _ _
      have hBW := hDr.trans (hB.mono hDr.size)
      have hbW := (hBW.block _ (heap_lt hbx)).trans hbx
      have zW := frz hbW 2
      have cW := cell_of_row W wr.heap.size 2 _ _ (0, 0) hbW
      have r2 := own_set (j := 2) (x := .slice ua x.d.length uk) hgs hbW (by decide)
      replace r1 := own_set (j := 2) (x := .slice ua x.d.length uk) (own_belowG r1 hBW) hbW (by decide)
      have hbN := heap_setCell hbW 2 (.slice ua x.d.length uk)
      have hRN := (hRx.trans (hBW.mono hRx.size)).setCell (p := ⟨wr.heap.size, 2, none⟩) (Nat.le_refl _) (.slice ua x.d.length uk)
      have hBN := (hBx.trans (hBW.mono hBx.size)).setCell (p := ⟨wr.heap.size, 2, none⟩) hwr (.slice ua x.d.length uk)
      have hSN : (W.setCell ⟨wr.heap.size, 2, none⟩ (.slice ua x.d.length uk)).heap.size = W.heap.size := by simp
      obtain ⟨Wc, hWc⟩ : ∃ X, X = W.setCell ⟨wr.heap.size, 2, none⟩ (.slice ua x.d.length uk) := ⟨_, rfl⟩
      rw [← hWc] at r1 r2 hbN hRN hBN
      clear hcel hdup hgs hbx hBx hRx hB es hDr
      have hbx := hbN
      have hRx := hRN
      have hBx := hBN
      simp only [List.setIfInBounds_toArray, List.set_cons_zero, List.set_cons_succ] at hbx
      clear hbN hRN hBN hBW hSN
      obtain ⟨u2a, hu2a⟩ : ∃ y, y = ua := ⟨_, rfl⟩
      obtain ⟨u2k, hu2k⟩ : ∃ y, y = uk := ⟨_, rfl⟩
      rw [← hu2a, ← hu2k] at r2 hbx hWc
      have hDr : Below Wc.heap.size Wc Wc.drew := Below.drew (Below.refl _ _)
      have hcel : ∀ W, Below Wc.drew.heap.size Wc.drew W → W.cell? ⟨wr.heap.size, 3, none⟩ = some (.slice none 0 0) ∧ W.cell? ⟨w.heap.size, 2, none⟩ = some (.slice (some ⟨g, off, none⟩) cs.length k1) ∧ W.cell? ⟨g, off + k * 6 + 3, none⟩ = some (.slice ae x.o.length ke) := fun W h => by
        have hh := hDr.trans (h.mono hDr.size)
        have hw := hBx.trans (hh.mono hBx.size)
        exact ⟨cell_of_row _ _ 3 _ _ (0, 0) ((hh.block _ (heap_lt hbx)).trans hbx), hpar W (hRx.trans (hh.mono hRx.size)), (hw.cell (p := ⟨g, _, none⟩) hg).trans c3⟩
      have hdup : ∀ W, Below Wc.drew.heap.size Wc.drew W → ∀ (o : Oper) (a : Act) (K : Act → World → Prop) {Q : Exit → Act → World → Prop} (s yo : Operand), o.op = .call { callee := .builtin .append, args := #[s, yo], argTypes := #[38, 38] } → a.eval s = .slice none 0 0 → a.eval yo = .slice ae x.o.length ke → (∀ a' k' w', w'.ownsRow wr.heap.size 67 3 (.slice a' x.o.length k') x.o.length (ocs x.o) → Below W.heap.size W w' → K (a.put o.dst (.slice a' x.o.length k')) w') → o.wp Try.prog a W K Q := fun W h o a K Q s y ho hs hx hk => by
        have hh := hDr.trans (h.mono hDr.size)
        have hw := hBx.trans (hh.mono hBx.size)
        have hsz := hRx.size
        have hsz2 := hh.size
        obtain ⟨q1, q2⟩ := rdd_src (s2.below hw)
        obtain ⟨j0, jin, jz0, jz1, jz2⟩ := info_parts Try.infoOp
        exact wp_dupG s y Try.underlying38 jin jz0 jz1 jz2 rfl (by decide) ho hs hx (ocs_length _) q1 q2 (ocs_one' _) (by unfold maxLen; omega) (by omega) (by omega) hk
      go_upto_region 11 with fail
      rw [← hu2a, ← hu2k, ← hWc]
      clear hWc hu2a hu2k zW cW hbW
      refine mono.region_monoT (phKc wr.heap.size w.heap.size g off cs.length k1 k x.o.length ke ae (ocs x.o)) 10 100 [] [0, 1, 2, 3, 4, 5, 6, 7, 8, 9] (by kernel_rfl) rfl rfl (by kernel_rfl) (by kernel_rfl) (by kernel_rfl) (by kernel_rfl) (by kernel_rfl) (by kernel_rfl) phKc_stays (.cons ?_ (.cons ?_ (.cons ?_ (.cons ?_ (.cons ?_ (.cons ?_ (.cons ?_ (.cons ?_ (.cons ?_ (.cons ?_ (.nil))))))))))) ?_
      · refine mono.dutyT_of rfl ?_
        intro f W hR hO hD K hK
        have eL : mono.lit 100 f [] = ⟨#[f 0, f 1, f 2, f 3, f 4, f 5, f 6, f 7, f 8, f 9, f 10, f 11, f 12, f 13, f 14, f 15, f 16, f 17, f 18, f 19, f 20, f 21, f 22, f 23, f 24, f 25, f 26, f 27, f 28, f 29, f 30, f 31, f 32, f 33, f 34, f 35, f 36, f 37, f 38, f 39, f 40, f 41, f 42, f 43, f 44, f 45, f 46, f 47, f 48, f 49, f 50, f 51, f 52, f 53, f 54, f 55, f 56, f 57, f 58, f 59, f 60, f 61, f 62, f 63, f 64, f 65, f 66, f 67, f 68, f 69, f 70, f 71, f 72, f 73, f 74, f 75, f 76, f 77, f 78, f 79, f 80, f 81, f 82, f 83, f 84, f 85, f 86, f 87, f 88, f 89, f 90, f 91, f 92, f 93, f 94, f 95, f 96, f 97, f 98, f 99], []⟩ := rfl
        replace hK : ∀ v W', Below W.heap.size W W' → phKc wr.heap.size w.heap.size g off cs.length k1 k x.o.length ke ae (ocs x.o) 0 v W' → K ((mono.lit 100 f []).put (some 48) v) W' := hK
        rw [eL] at hK ⊢
        simp only [Act.put, List.setIfInBounds_toArray, List.set_cons_succ, List.set_cons_zero] at hK
        have o5 : f 5 = (.pointer (some ⟨wr.heap.size, 0, none⟩)) := hO 5 (by kernel_rfl)
        rw [o5] at hK ⊢
        go_simp
        exact hK _ _ (Below.refl _ _) rfl
      · refine mono.dutyT_of rfl ?_
        intro f W hR hO hD K hK
        have eL : mono.lit 100 f [] = ⟨#[f 0, f 1, f 2, f 3, f 4, f 5, f 6, f 7, f 8, f 9, f 10, f 11, f 12, f 13, f 14, f 15, f 16, f 17, f 18, f 19, f 20, f 21, f 22, f 23, f 24, f 25, f 26, f 27, f 28, f 29, f 30, f 31, f 32, f 33, f 34, f 35, f 36, f 37, f 38, f 39, f 40, f 41, f 42, f 43, f 44, f 45, f 46, f 47, f 48, f 49, f 50, f 51, f 52, f 53, f 54, f 55, f 56, f 57, f 58, f 59, f 60, f 61, f 62, f 63, f 64, f 65, f 66, f 67, f 68, f 69, f 70, f 71, f 72, f 73, f 74, f 75, f 76, f 77, f 78, f 79, f 80, f 81, f 82, f 83, f 84, f 85, f 86, f 87, f 88, f 89, f 90, f 91, f 92, f 93, f 94, f 95, f 96, f 97, f 98, f 99], []⟩ := rfl
        replace hK : ∀ v W', Below W.heap.size W W' → phKc wr.heap.size w.heap.size g off cs.length k1 k x.o.length ke ae (ocs x.o) 1 v W' → K ((mono.lit 100 f []).put (some 49) v) W' := hK
        rw [eL] at hK ⊢
        simp only [Act.put, List.setIfInBounds_toArray, List.set_cons_succ, List.set_cons_zero] at hK
        have q0 := hD 0 48 (by kernel_rfl) (by kernel_rfl)
        replace q0 : f 48 = (.pointer (some ⟨wr.heap.size, 3, none⟩)) := q0
        rw [q0] at hK ⊢
        obtain ⟨h1, h2, h3⟩ := hcel W hR
        go_simp
        exact hK _ _ (Below.refl _ _) rfl
      · refine mono.dutyT_of rfl ?_
        intro f W hR hO hD K hK
        have eL : mono.lit 100 f [] = ⟨#[f 0, f 1, f 2, f 3, f 4, f 5, f 6, f 7, f 8, f 9, f 10, f 11, f 12, f 13, f 14, f 15, f 16, f 17, f 18, f 19, f 20, f 21, f 22, f 23, f 24, f 25, f 26, f 27, f 28, f 29, f 30, f 31, f 32, f 33, f 34, f 35, f 36, f 37, f 38, f 39, f 40, f 41, f 42, f 43, f 44, f 45, f 46, f 47, f 48, f 49, f 50, f 51, f 52, f 53, f 54, f 55, f 56, f 57, f 58, f 59, f 60, f 61, f 62, f 63, f 64, f 65, f 66, f 67, f 68, f 69, f 70, f 71, f 72, f 73, f 74, f 75, f 76, f 77, f 78, f 79, f 80, f 81, f 82, f 83, f 84, f 85, f 86, f 87, f 88, f 89, f 90, f 91, f 92, f 93, f 94, f 95, f 96, f 97, f 98, f 99], []⟩ := rfl
        replace hK : ∀ v W', Below W.heap.size W W' → phKc wr.heap.size w.heap.size g off cs.length k1 k x.o.length ke ae (ocs x.o) 2 v W' → K ((mono.lit 100 f []).put (some 50) v) W' := hK
        rw [eL] at hK ⊢
        simp only [Act.put, List.setIfInBounds_toArray, List.set_cons_succ, List.set_cons_zero] at hK
        have o1 : f 1 = (.pointer (some ⟨w.heap.size, 0, none⟩)) := hO 1 (by kernel_rfl)
        rw [o1] at hK ⊢
        go_simp
        exact hK _ _ (Below.refl _ _) rfl
      · refine mono.dutyT_of rfl ?_
        intro f W hR hO hD K hK
        have eL : mono.lit 100 f [] = ⟨#[f 0, f 1, f 2, f 3, f 4, f 5, f 6, f 7, f 8, f 9, f 10, f 11, f 12, f 13, f 14, f 15, f 16, f 17, f 18, f 19, f 20, f 21, f 22, f 23, f 24, f 25, f 26, f 27, f 28, f 29, f 30, f 31, f 32, f 33, f 34, f 35, f 36, f 37, f 38, f 39, f 40, f 41, f 42, f 43, f 44, f 45, f 46, f 47, f 48, f 49, f 50, f 51, f 52, f 53, f 54, f 55, f 56, f 57, f 58, f 59, f 60, f 61, f 62, f 63, f 64, f 65, f 66, f 67, f 68, f 69, f 70, f 71, f 72, f 73, f 74, f 75, f 76, f 77, f 78, f 79, f 80, f 81, f 82, f 83, f 84, f 85, f 86, f 87, f 88, f 89, f 90, f 91, f 92, f 93, f 94, f 95, f 96, f 97, f 98, f 99], []⟩ := rfl
        replace hK : ∀ v W', Below W.heap.size W W' → phKc wr.heap.size w.heap.size g off cs.length k1 k x.o.length ke ae (ocs x.o) 3 v W' → K ((mono.lit 100 f []).put (some 51) v) W' := hK
        rw [eL] at hK ⊢
        simp only [Act.put, List.setIfInBounds_toArray, List.set_cons_succ, List.set_cons_zero] at hK
        have q2 := hD 2 50 (by kernel_rfl) (by kernel_rfl)
        replace q2 : f 50 = (.pointer (some ⟨w.heap.size, 2, none⟩)) := q2
        rw [q2] at hK ⊢
        obtain ⟨h1, h2, h3⟩ := hcel W hR
        go_simp
        exact hK _ _ (Below.refl _ _) rfl
      · refine mono.dutyT_of rfl ?_
        intro f W hR hO hD K hK
        have eL : mono.lit 100 f [] = ⟨#[f 0, f 1, f 2, f 3, f 4, f 5, f 6, f 7, f 8, f 9, f 10, f 11, f 12, f 13, f 14, f 15, f 16, f 17, f 18, f 19, f 20, f 21, f 22, f 23, f 24, f 25, f 26, f 27, f 28, f 29, f 30, f 31, f 32, f 33, f 34, f 35, f 36, f 37, f 38, f 39, f 40, f 41, f 42, f 43, f 44, f 45, f 46, f 47, f 48, f 49, f 50, f 51, f 52, f 53, f 54, f 55, f 56, f 57, f 58, f 59, f 60, f 61, f 62, f 63, f 64, f 65, f 66, f 67, f 68, f 69, f 70, f 71, f 72, f 73, f 74, f 75, f 76, f 77, f 78, f 79, f 80, f 81, f 82, f 83, f 84, f 85, f 86, f 87, f 88, f 89, f 90, f 91, f 92, f 93, f 94, f 95, f 96, f 97, f 98, f 99], []⟩ := rfl
        replace hK : ∀ v W', Below W.heap.size W W' → phKc wr.heap.size w.heap.size g off cs.length k1 k x.o.length ke ae (ocs x.o) 4 v W' → K ((mono.lit 100 f []).put (some 52) v) W' := hK
        rw [eL] at hK ⊢
        simp only [Act.put, List.setIfInBounds_toArray, List.set_cons_succ, List.set_cons_zero] at hK
        have o4 : f 4 = (.int .i64 (k : Int)) := hO 4 (by kernel_rfl)
        rw [o4] at hK ⊢
        go_simp
        exact hK _ _ (Below.refl _ _) rfl
      · refine mono.dutyT_of rfl ?_
        intro f W hR hO hD K hK
        have eL : mono.lit 100 f [] = ⟨#[f 0, f 1, f 2, f 3, f 4, f 5, f 6, f 7, f 8, f 9, f 10, f 11, f 12, f 13, f 14, f 15, f 16, f 17, f 18, f 19, f 20, f 21, f 22, f 23, f 24, f 25, f 26, f 27, f 28, f 29, f 30, f 31, f 32, f 33, f 34, f 35, f 36, f 37, f 38, f 39, f 40, f 41, f 42, f 43, f 44, f 45, f 46, f 47, f 48, f 49, f 50, f 51, f 52, f 53, f 54, f 55, f 56, f 57, f 58, f 59, f 60, f 61, f 62, f 63, f 64, f 65, f 66, f 67, f 68, f 69, f 70, f 71, f 72, f 73, f 74, f 75, f 76, f 77, f 78, f 79, f 80, f 81, f 82, f 83, f 84, f 85, f 86, f 87, f 88, f 89, f 90, f 91, f 92, f 93, f 94, f 95, f 96, f 97, f 98, f 99], []⟩ := rfl
        replace hK : ∀ v W', Below W.heap.size W W' → phKc wr.heap.size w.heap.size g off cs.length k1 k x.o.length ke ae (ocs x.o) 5 v W' → K ((mono.lit 100 f []).put (some 53) v) W' := hK
        rw [eL] at hK ⊢
        simp only [Act.put, List.setIfInBounds_toArray, List.set_cons_succ, List.set_cons_zero] at hK
        have q3 := hD 3 51 (by kernel_rfl) (by kernel_rfl)
        replace q3 : f 51 = (.slice (some ⟨g, off, none⟩) cs.length k1) := q3
        have q4 := hD 4 52 (by kernel_rfl) (by kernel_rfl)
        replace q4 : f 52 = (.int .i64 (k : Int)) := q4
        rw [q3, q4] at hK ⊢
        go_simp
        exact hK _ _ (Below.refl _ _) rfl
      · refine mono.dutyT_of rfl ?_
        intro f W hR hO hD K hK
        have eL : mono.lit 100 f [] = ⟨#[f 0, f 1, f 2, f 3, f 4, f 5, f 6, f 7, f 8, f 9, f 10, f 11, f 12, f 13, f 14, f 15, f 16, f 17, f 18, f 19, f 20, f 21, f 22, f 23, f 24, f 25, f 26, f 27, f 28, f 29, f 30, f 31, f 32, f 33, f 34, f 35, f 36, f 37, f 38, f 39, f 40, f 41, f 42, f 43, f 44, f 45, f 46, f 47, f 48, f 49, f 50, f 51, f 52, f 53, f 54, f 55, f 56, f 57, f 58, f 59, f 60, f 61, f 62, f 63, f 64, f 65, f 66, f 67, f 68, f 69, f 70, f 71, f 72, f 73, f 74, f 75, f 76, f 77, f 78, f 79, f 80, f 81, f 82, f 83, f 84, f 85, f 86, f 87, f 88, f 89, f 90, f 91, f 92, f 93, f 94, f 95, f 96, f 97, f 98, f 99], []⟩ := rfl
        replace hK : ∀ v W', Below W.heap.size W W' → phKc wr.heap.size w.heap.size g off cs.length k1 k x.o.length ke ae (ocs x.o) 6 v W' → K ((mono.lit 100 f []).put (some 54) v) W' := hK
        rw [eL] at hK ⊢
        simp only [Act.put, List.setIfInBounds_toArray, List.set_cons_succ, List.set_cons_zero] at hK
        have q5 := hD 5 53 (by kernel_rfl) (by kernel_rfl)
        replace q5 : f 53 = (.pointer (some ⟨g, off + k * 6, none⟩)) := q5
        rw [q5] at hK ⊢
        go_simp
        exact hK _ _ (Below.refl _ _) rfl
      · refine mono.dutyT_of rfl ?_
        intro f W hR hO hD K hK
        have eL : mono.lit 100 f [] = ⟨#[f 0, f 1, f 2, f 3, f 4, f 5, f 6, f 7, f 8, f 9, f 10, f 11, f 12, f 13, f 14, f 15, f 16, f 17, f 18, f 19, f 20, f 21, f 22, f 23, f 24, f 25, f 26, f 27, f 28, f 29, f 30, f 31, f 32, f 33, f 34, f 35, f 36, f 37, f 38, f 39, f 40, f 41, f 42, f 43, f 44, f 45, f 46, f 47, f 48, f 49, f 50, f 51, f 52, f 53, f 54, f 55, f 56, f 57, f 58, f 59, f 60, f 61, f 62, f 63, f 64, f 65, f 66, f 67, f 68, f 69, f 70, f 71, f 72, f 73, f 74, f 75, f 76, f 77, f 78, f 79, f 80, f 81, f 82, f 83, f 84, f 85, f 86, f 87, f 88, f 89, f 90, f 91, f 92, f 93, f 94, f 95, f 96, f 97, f 98, f 99], []⟩ := rfl
        replace hK : ∀ v W', Below W.heap.size W W' → phKc wr.heap.size w.heap.size g off cs.length k1 k x.o.length ke ae (ocs x.o) 7 v W' → K ((mono.lit 100 f []).put (some 55) v) W' := hK
        rw [eL] at hK ⊢
        simp only [Act.put, List.setIfInBounds_toArray, List.set_cons_succ, List.set_cons_zero] at hK
        have q6 := hD 6 54 (by kernel_rfl) (by kernel_rfl)
        replace q6 : f 54 = (.pointer (some ⟨g, off + k * 6 + 3, none⟩)) := q6
        rw [q6] at hK ⊢
        obtain ⟨h1, h2, h3⟩ := hcel W hR
        go_simp
        exact hK _ _ (Below.refl _ _) rfl
      · refine mono.dutyT_of rfl ?_
        intro f W hR hO hD K hK
        have eL : mono.lit 100 f [] = ⟨#[f 0, f 1, f 2, f 3, f 4, f 5, f 6, f 7, f 8, f 9, f 10, f 11, f 12, f 13, f 14, f 15, f 16, f 17, f 18, f 19, f 20, f 21, f 22, f 23, f 24, f 25, f 26, f 27, f 28, f 29, f 30, f 31, f 32, f 33, f 34, f 35, f 36, f 37, f 38, f 39, f 40, f 41, f 42, f 43, f 44, f 45, f 46, f 47, f 48, f 49, f 50, f 51, f 52, f 53, f 54, f 55, f 56, f 57, f 58, f 59, f 60, f 61, f 62, f 63, f 64, f 65, f 66, f 67, f 68, f 69, f 70, f 71, f 72, f 73, f 74, f 75, f 76, f 77, f 78, f 79, f 80, f 81, f 82, f 83, f 84, f 85, f 86, f 87, f 88, f 89, f 90, f 91, f 92, f 93, f 94, f 95, f 96, f 97, f 98, f 99], []⟩ := rfl
        replace hK : ∀ v W', Below W.heap.size W W' → phKc wr.heap.size w.heap.size g off cs.length k1 k x.o.length ke ae (ocs x.o) 8 v W' → K ((mono.lit 100 f []).put (some 56) v) W' := hK
        rw [eL] at hK ⊢
        simp only [Act.put, List.setIfInBounds_toArray, List.set_cons_succ, List.set_cons_zero] at hK
        have q1 := hD 1 49 (by kernel_rfl) (by kernel_rfl)
        replace q1 : f 49 = (.slice none 0 0) := q1
        have q7 := hD 7 55 (by kernel_rfl) (by kernel_rfl)
        replace q7 : f 55 = (.slice ae x.o.length ke) := q7
        rw [q1, q7] at hK ⊢
        refine hdup W hR _ _ _ (.tmp 49) (.tmp 55) rfl rfl rfl ?_
        intro a c W' ho' hb'
        exact hK _ _ hb' ⟨a, c, rfl, ho'⟩
      · refine mono.dutyT_of rfl ?_
        intro f W hR hO hD K hK
        have eL : mono.lit 100 f [] = ⟨#[f 0, f 1, f 2, f 3, f 4, f 5, f 6, f 7, f 8, f 9, f 10, f 11, f 12, f 13, f 14, f 15, f 16, f 17, f 18, f 19, f 20, f 21, f 22, f 23, f 24, f 25, f 26, f 27, f 28, f 29, f 30, f 31, f 32, f 33, f 34, f 35, f 36, f 37, f 38, f 39, f 40, f 41, f 42, f 43, f 44, f 45, f 46, f 47, f 48, f 49, f 50, f 51, f 52, f 53, f 54, f 55, f 56, f 57, f 58, f 59, f 60, f 61, f 62, f 63, f 64, f 65, f 66, f 67, f 68, f 69, f 70, f 71, f 72, f 73, f 74, f 75, f 76, f 77, f 78, f 79, f 80, f 81, f 82, f 83, f 84, f 85, f 86, f 87, f 88, f 89, f 90, f 91, f 92, f 93, f 94, f 95, f 96, f 97, f 98, f 99], []⟩ := rfl
        replace hK : ∀ v W', Below W.heap.size W W' → phKc wr.heap.size w.heap.size g off cs.length k1 k x.o.length ke ae (ocs x.o) 9 v W' → K ((mono.lit 100 f []).put (some 57) v) W' := hK
        rw [eL] at hK ⊢
        simp only [Act.put, List.setIfInBounds_toArray, List.set_cons_succ, List.set_cons_zero] at hK
        have o5 : f 5 = (.pointer (some ⟨wr.heap.size, 0, none⟩)) := hO 5 (by kernel_rfl)
        rw [o5] at hK ⊢
        go_simp
        exact hK _ _ (Below.refl _ _) rfl
      intro f W hB hO hD
      have r0 := hO 0 (by kernel_rfl)
      have r1 := hO 1 (by kernel_rfl)
      have r2 := hO 2 (by kernel_rfl)
      have r3 := hO 3 (by kernel_rfl)
      have r4 := hO 4 (by kernel_rfl)
      have r5 := hO 5 (by kernel_rfl)
      have r6 := hO 6 (by kernel_rfl)
      have r7 := hO 7 (by kernel_rfl)
      have r8 := hO 8 (by kernel_rfl)
      have r9 := hO 9 (by kernel_rfl)
      have r10 := hO 10 (by kernel_rfl)
      have r11 := hO 11 (by kernel_rfl)
      have r12 := hO 12 (by kernel_rfl)
      have r13 := hO 13 (by kernel_rfl)
      have r14 := hO 14 (by kernel_rfl)
      have r15 := hO 15 (by kernel_rfl)
      have r16 := hO 16 (by kernel_rfl)
      have r17 := hO 17 (by kernel_rfl)
      have r18 := hO 18 (by kernel_rfl)
      have r19 := hO 19 (by kernel_rfl)
      have r20 := hO 20 (by kernel_rfl)
      have r21 := hO 21 (by kernel_rfl)
      have r22 := hO 22 (by kernel_rfl)
      have r23 := hO 23 (by kernel_rfl)
      have r24 := hO 24 (by kernel_rfl)
      have r25 := hO 25 (by kernel_rfl)
      have r26 := hO 26 (by kernel_rfl)
      have r27 := hO 27 (by kernel_rfl)
      have r28 := hO 28 (by kernel_rfl)
      have r29 := hO 29 (by kernel_rfl)
      have r30 := hO 30 (by kernel_rfl)
      have r31 := hO 31 (by kernel_rfl)
      have r32 := hO 32 (by kernel_rfl)
      have r33 := hO 33 (by kernel_rfl)
      have r34 := hO 34 (by kernel_rfl)
      have r35 := hO 35 (by kernel_rfl)
      have r36 := hO 36 (by kernel_rfl)
      have r37 := hO 37 (by kernel_rfl)
      have r38 := hO 38 (by kernel_rfl)
      have r39 := hO 39 (by kernel_rfl)
      have r40 := hO 40 (by kernel_rfl)
      have r41 := hO 41 (by kernel_rfl)
      have r42 := hO 42 (by kernel_rfl)
      have r43 := hO 43 (by kernel_rfl)
      have r44 := hO 44 (by kernel_rfl)
      have r45 := hO 45 (by kernel_rfl)
      have r46 := hO 46 (by kernel_rfl)
      have r47 := hO 47 (by kernel_rfl)
      have r56 := hD 8 56 (by decide) (by kernel_rfl)
      obtain ⟨ua, uk, es, hgs⟩ := r56
      have r57 := hD 9 57 (by decide) (by kernel_rfl)
      replace r57 : f 57 = (.pointer (some ⟨wr.heap.size, 3, none⟩)) := r57
      have r58 := hO 58 (by kernel_rfl)
      have r59 := hO 59 (by kernel_rfl)
      have r60 := hO 60 (by kernel_rfl)
      have r61 := hO 61 (by kernel_rfl)
      have r62 := hO 62 (by kernel_rfl)
      have r63 := hO 63 (by kernel_rfl)
      have r64 := hO 64 (by kernel_rfl)
      have r65 := hO 65 (by kernel_rfl)
      have r66 := hO 66 (by kernel_rfl)
      have r67 := hO 67 (by kernel_rfl)
      have r68 := hO 68 (by kernel_rfl)
      have r69 := hO 69 (by kernel_rfl)
      have r70 := hO 70 (by kernel_rfl)
      have r71 := hO 71 (by kernel_rfl)
      have r72 := hO 72 (by kernel_rfl)
      have r73 := hO 73 (by kernel_rfl)
      have r74 := hO 74 (by kernel_rfl)
      have r75 := hO 75 (by kernel_rfl)
      have r76 := hO 76 (by kernel_rfl)
      have r77 := hO 77 (by kernel_rfl)
      have r78 := hO 78 (by kernel_rfl)
      have r79 := hO 79 (by kernel_rfl)
      have r80 := hO 80 (by kernel_rfl)
      have r81 := hO 81 (by kernel_rfl)
      have r82 := hO 82 (by kernel_rfl)
      have r83 := hO 83 (by kernel_rfl)
      have r84 := hO 84 (by kernel_rfl)
      have r85 := hO 85 (by kernel_rfl)
      have r86 := hO 86 (by kernel_rfl)
      have r87 := hO 87 (by kernel_rfl)
      have r88 := hO 88 (by kernel_rfl)
      have r89 := hO 89 (by kernel_rfl)
      have r90 := hO 90 (by kernel_rfl)
      have r91 := hO 91 (by kernel_rfl)
      have r92 := hO 92 (by kernel_rfl)
      have r93 := hO 93 (by kernel_rfl)
      have r94 := hO 94 (by kernel_rfl)
      have r95 := hO 95 (by kernel_rfl)
      have r96 := hO 96 (by kernel_rfl)
      have r97 := hO 97 (by kernel_rfl)
      have r98 := hO 98 (by kernel_rfl)
      have r99 := hO 99 (by kernel_rfl)
      have eL : mono.lit 100 f [] = ⟨#[f 0, f 1, f 2, f 3, f 4, f 5, f 6, f 7, f 8, f 9, f 10, f 11, f 12, f 13, f 14, f 15, f 16, f 17, f 18, f 19, f 20, f 21, f 22, f 23, f 24, f 25, f 26, f 27, f 28, f 29, f 30, f 31, f 32, f 33, f 34, f 35, f 36, f 37, f 38, f 39, f 40, f 41, f 42, f 43, f 44, f 45, f 46, f 47, f 48, f 49, f 50, f 51, f 52, f 53, f 54, f 55, f 56, f 57, f 58, f 59, f 60, f 61, f 62, f 63, f 64, f 65, f 66, f 67, f 68, f 69, f 70, f 71, f 72, f 73, f 74, f 75, f 76, f 77, f 78, f 79, f 80, f 81, f 82, f 83, f 84, f 85, f 86, f 87, f 88, f 89, f 90, f 91, f 92, f 93, f 94, f 95, f 96, f 97, f 98, f 99], []⟩ := rfl
      rw [eL, r0, r1, r2, r3, r4, r5, r6, r7, r8, r9, r10, r11, r12, r13, r14, r15, r16, r17, r18, r19, r20, r21, r22, r23, r24, r25, r26, r27, r28, r29, r30, r31, r32, r33, r34, r35, r36, r37, r38, r39, r40, r41, r42, r43, r44, r45, r46, r47, es, r57, r58, r59, r60, r61, r62, r63, r64, r65, r66, r67, r68, r69, r70, r71, r72, r73, r74, r75, r76, r77, r78, r79, r80, r81, r82, r83, r84, r85, r86, r87, r88, r89, r90, r91, r92, r93, r94, r95, r96, r97, r98, r99]
      clear eL hO hD r0 r1 r2 r3 r4 r5 r6 r7 r8 r9 r10 r11 r12 r13 r14 r15 r16 r17 r18 r19 r20 r21 r22 r23 r24 r25 r26 r27 r28 r29 r30 r31 r32 r33 r34 r35 r36 r37 r38 r39 r40 r41 r42 r43 r44 r45 r46 r47 r57 r58 r59 r60 r61 r62 r63 r64 r65 r66 r67 r68 r69 r70 r71 r72 r73 r74 r75 r76 r77 r78 r79 r80 r81 r82 r83 r84 r85 r86 r87 r88 r89 r90 r91 r92 r93 r94 r95 r96 r97 r98 r99
      change wpList _ _ _ (_ :: []) _ _
      have hBW := hDr.trans (hB.mono hDr.size)
      have hbW := (hBW.block _ (heap_lt hbx)).trans hbx
      have zW := frz hbW 3
      have cW := cell_of_row W wr.heap.size 3 _ _ (0, 0) hbW
      have r3 := own_set (j := 3) (x := .slice ua x.o.length uk) hgs hbW (by decide)
      replace r1 := own_set (j := 3) (x := .slice ua x.o.length uk) (own_belowG r1 hBW) hbW (by decide)
      replace r2 := own_set (j := 3) (x := .slice ua x.o.length uk) (own_belowG r2 hBW) hbW (by decide)
      have hbN := heap_setCell hbW 3 (.slice ua x.o.length uk)
      have hRN := (hRx.trans (hBW.mono hRx.size)).setCell (p := ⟨wr.heap.size, 3, none⟩) (Nat.le_refl _) (.slice ua x.o.length uk)
      have hBN := (hBx.trans (hBW.mono hBx.size)).setCell (p := ⟨wr.heap.size, 3, none⟩) hwr (.slice ua x.o.length uk)
      have hSN : (W.setCell ⟨wr.heap.size, 3, none⟩ (.slice ua x.o.length uk)).heap.size = W.heap.size := by simp
      obtain ⟨Wd, hWd⟩ : ∃ X, X = W.setCell ⟨wr.heap.size, 3, none⟩ (.slice ua x.o.length uk) := ⟨_, rfl⟩
      rw [← hWd] at r1 r2 r3 hbN hRN hBN
      clear hcel hdup hgs hbx hBx hRx hB es hDr
      have hbx := hbN
      have hRx := hRN
      have hBx := hBN
      simp only [List.setIfInBounds_toArray, List.set_cons_zero, List.set_cons_succ] at hbx
      clear hbN hRN hBN hBW hSN
      have hC3 := hC.below hRx
      have hal7 := alloc_bR Wd (.cells #[.int .i64 x.n, .slice u1a x.ps.length u1k, .slice u2a x.d.length u2k, .slice ua x.o.length uk, .int .i64 x.c, .int .i64 x.s] 40)
      have hC7 := hC3.below hal7
      have q := fun j => cell_of_row Wd wr.heap.size j _ _ (0, 0) hbx
      have b0 : Wd.cell? ⟨wr.heap.size, 0, none⟩ = some (.int .i64 x.n) := q 0
      have b1 : Wd.cell? ⟨wr.heap.size, 1, none⟩ = some (.slice u1a x.ps.length u1k) := q 1
      have b2 : Wd.cell? ⟨wr.heap.size, 2, none⟩ = some (.slice u2a x.d.length u2k) := q 2
      have b3 : Wd.cell? ⟨wr.heap.size, 3, none⟩ = some (.slice ua x.o.length uk) := q 3
      have b4 : Wd.cell? ⟨wr.heap.size, 4, none⟩ = some (.int .i64 x.c) := q 4
      have b5 : Wd.cell? ⟨wr.heap.size, 5, none⟩ = some (.int .i64 x.s) := q 5
      obtain ⟨y0, y1, y2, y3, y4⟩ := cellsSB hC3.o
      have hlow : w.heap.size + 1 + 1 + 1 ≤ wr.heap.size := hC.lt
      have t1 := own_lower (own_belowG r1 hal7) hlow
      have t2 := own_lower (own_belowG r2 hal7) hlow
      have t3 := own_lower (own_belowG r3 hal7) hlow
      go_upto_region 12 with fail
      rw [← hWd]
      clear hWd q zW cW hbW hC hC3 hal7 r1 r2 r3 hpar hbx hRx hBx
      go_wp2_with (at_builtin; refine wpList_append_own _ rfl (.tmp 59) (.tmp 61) 22 rfl (w.heap.size + 1 + 1 + 1) 40 i0 (.agg #[.int .i64 0, .slice none 0 0, .slice none 0 0, .slice none 0 0, .int .i64 0, .int .i64 0]) 6 96 Try.underlying22 hin hz0 hz1 hz2 rfl (by decide) _ Lk.length _ rfl hC7.ow.c.row ⟨_, 0, none⟩ 1 1 [.int .i64 x.n, .slice u1a x.ps.length u1k, .slice u2a x.d.length u2k, .slice ua x.o.length uk, .int .i64 x.c, .int .i64 x.s] rfl rfl (many_new _ _ _) (six_co _ _ _ _ _ _ _ _ _ _ _ _) (by have := HL.out; unfold maxLen; omega) (by have := HL.out; omega) hC7.lt ?_; intro v6 w6 ho6 hg6 _; obtain ⟨a9, k9, rfl⟩ := own_form ho6; have hE := (hC7.grow (j := 2) (v9 := .slice none 0 0) hC7.ow.c.row (.inl rfl) hg6).1; obtain ⟨p0, p1, p2, p3, p4⟩ := cellsSB hE; have p6 := frz hE 2)
      have hfin : Cp w ⟨nc, nb, cs, bs, us⟩ ⟨nc, nb, Lk ++ [x], [], []⟩ (.slice (some ⟨g, off, none⟩) cs.length k1) (.slice a2 bs.length k2) (.slice a3 us.length k3) (.slice a9 (Lk.length + 1) k9) (.slice none 0 0) (.slice none 0 0) (uu ++ [(.slice u1a x.ps.length u1k, .slice u2a x.d.length u2k, .slice ua x.o.length uk)]) [] (w6.setCell ⟨w.heap.size + 1 + 1, 2, none⟩ (.slice a9 (Lk.length + 1) k9)) := cp_co hC7 t1 t2 t3 ho6 hg6
      rw [← HLs.out] at hfin
      exact ⟨⟨k + 1, _, _, by omega, by go_num, hfin⟩, by simp [Go.RowKit.intOf]; omega⟩
    · have hlt' : ¬ (k : Int) < (cs.length : Int) := by omega
      have eL : Lk = cs := by rw [HLk.out, List.take_of_length_le (by omega)]
      subst eL
      clear hcs hco HL HLk
      go_wp2_with fail
      clear x0 x1 x2 x3 x4
      go_loopw [6] (fun i wr => ∃ (k : Nat) (v : Value) (ll : List Value), k ≤ bs.length ∧ i = .int .i64 (k : Int) ∧ Cp w ⟨nc, nb, Lk, bs, us⟩ ⟨nc, nb, Lk, bs.take k, []⟩ (.slice a1 Lk.length k1) (.slice a2 bs.length k2) (.slice a3 us.length k3) (.slice av Lk.length kv) v (.slice none 0 0) uu ll wr) (fun i _ => bs.length - (Go.RowKit.intOf i).toNat)
      case atStart => exact ⟨0, _, _, by omega, rfl, hC⟩
      case round =>
        clear hC hk hlt hlt'
        obtain ⟨k, v, ll, hk, rfl, hC⟩ := hrel
        obtain ⟨Lb, HLb⟩ : ∃ L, Hid (L = bs.take k) := ⟨_, rfl⟩
        rw [← HLb.out] at hC
        obtain ⟨bv', kb, rfl⟩ := own_form hC.ow.b.row
        have HL : Hid (Lb.length = k) := by show _ = _; rw [HLb.out, List.length_take]; omega
        obtain ⟨x0, x1, x2, x3, x4⟩ := cellsSB hC.p
        by_cases hlt : k < bs.length
        · have hlt' : (k : Int) < (bs.length : Int) := by omega
          obtain ⟨g, off, lv, rfl, hg, ⟨c0, c1, c2⟩, s0⟩ := hbs k bs[k] (by simp [hlt])
          have hxu := hbr bs[k] (List.getElem_mem hlt)
          have hls : bs.take (k + 1) = bs.take k ++ [bs[k]] := List.take_succ_eq_append_getElem hlt
          rw [← HLb.out] at hls
          obtain ⟨HLs⟩ : Nonempty (Hid (bs.take (k + 1) = Lb ++ [bs[k]])) := ⟨hls⟩
          clear hls
          generalize bs[k] = x at *
          obtain ⟨alg, clg, rfl⟩ := rdi_len s0
          have l1 := hxu.2.1.1
          have hwr : w.heap.size ≤ wr.heap.size := hC.b.size
          have hb := fun (p : Addr) (hp : p.block < w.heap.size) => hC.b.cell (p := p) hp
          have d0 := (hb ⟨g, _, none⟩ hg).trans c0
          have d1 := (hb ⟨g, _, none⟩ hg).trans c1
          have d2 := (hb ⟨g, _, none⟩ hg).trans c2
          have hbx := heap_alloc_new wr (.cells #[.int .i64 x.i, .string x.nm, .slice none 0 0] 47)
          have hRx := alloc_bR wr (.cells #[.int .i64 x.i, .string x.nm, .slice none 0 0] 47)
          have hBx := hC.b.trans (hRx.mono hwr)
          have hpar : ∀ W, Below wr.heap.size wr W → W.cell? ⟨w.heap.size, 3, none⟩ = some (.slice (some ⟨g, off, none⟩) bs.length k2) := fun W h => (cellsSB (hC.p.below h)).2.2.2.1
          obtain ⟨Wa, hWa⟩ : ∃ X, X = wr.alloc (.cells #[.int .i64 x.i, .string x.nm, .slice none 0 0] 47) := ⟨_, rfl⟩
          rw [← hWa] at hbx hRx hBx
          clear hbs hbr
          have hDr : Below Wa.heap.size Wa Wa.drew := Below.drew (Below.refl _ _)
          have hcel : ∀ W, Below Wa.drew.heap.size Wa.drew W → W.cell? ⟨wr.heap.size, 2, none⟩ = some (.slice none 0 0) ∧ W.cell? ⟨w.heap.size, 3, none⟩ = some (.slice (some ⟨g, off, none⟩) bs.length k2) ∧ W.cell? ⟨g, off + k * 3 + 2, none⟩ = some (.slice alg x.lg.length clg) := fun W h => by
            have hh := hDr.trans (h.mono hDr.size)
            have hw := hBx.trans (hh.mono hBx.size)
            exact ⟨cell_of_row _ _ 2 _ _ (0, 0) ((hh.block _ (heap_lt hbx)).trans hbx), hpar W (hRx.trans (hh.mono hRx.size)), (hw.cell (p := ⟨g, _, none⟩) hg).trans c2⟩
          have hdup : ∀ W, Below Wa.drew.heap.size Wa.drew W → ∀ (o : Oper) (a : Act) (K : Act → World → Prop) {Q : Exit → Act → World → Prop} (s yo : Operand), o.op = .call { callee := .builtin .append, args := #[s, yo], argTypes := #[28, 28] } → a.eval s = .slice none 0 0 → a.eval yo = .slice alg x.lg.length clg → (∀ a' k' w', w'.ownsRow wr.heap.size 3 1 (.slice a' x.lg.length k') x.lg.length (ivs x.lg) → Below W.heap.size W w' → K (a.put o.dst (.slice a' x.lg.length k')) w') → o.wp Try.prog a W K Q := fun W h o a K Q s y ho hs hx hk => by
            have hh := hDr.trans (h.mono hDr.size)
            have hw := hBx.trans (hh.mono hBx.size)
            have hsz := hRx.size
            have hsz2 := hh.size
            obtain ⟨q1, q2⟩ := rdi_src (s0.below hw)
            obtain ⟨j0, jin, jz0, jz1, jz2⟩ := info_parts Try.infoIntR
            exact wp_dupG s y Try.underlying28 jin jz0 jz1 jz2 rfl (by decide) ho hs hx (by simp [ivs]) q1 q2 (ivs_one _) (by unfold maxLen; omega) (by omega) (by omega) hk
          go_upto_region 18 with fail
          rw [← hWa]
          clear hWa x0 x1 x2 x3 x4 d0 d1 d2 hb
          refine mono.region_monoT (phKd wr.heap.size w.heap.size g off bs.length k2 k x.lg.length clg alg (ivs x.lg)) 10 100 [] [0, 1, 2, 3, 4, 5, 6, 7, 8, 9] (by kernel_rfl) rfl rfl (by kernel_rfl) (by kernel_rfl) (by kernel_rfl) (by kernel_rfl) (by kernel_rfl) (by kernel_rfl) phKd_stays (.cons ?_ (.cons ?_ (.cons ?_ (.cons ?_ (.cons ?_ (.cons ?_ (.cons ?_ (.cons ?_ (.cons ?_ (.cons ?_ (.nil))))))))))) ?_
          · refine mono.dutyT_of rfl ?_
            intro f W hR hO hD K hK
            have eL : mono.lit 100 f [] = ⟨#[f 0, f 1, f 2, f 3, f 4, f 5, f 6, f 7, f 8, f 9, f 10, f 11, f 12, f 13, f 14, f 15, f 16, f 17, f 18, f 19, f 20, f 21, f 22, f 23, f 24, f 25, f 26, f 27, f 28, f 29, f 30, f 31, f 32, f 33, f 34, f 35, f 36, f 37, f 38, f 39, f 40, f 41, f 42, f 43, f 44, f 45, f 46, f 47, f 48, f 49, f 50, f 51, f 52, f 53, f 54, f 55, f 56, f 57, f 58, f 59, f 60, f 61, f 62, f 63, f 64, f 65, f 66, f 67, f 68, f 69, f 70, f 71, f 72, f 73, f 74, f 75, f 76, f 77, f 78, f 79, f 80, f 81, f 82, f 83, f 84, f 85, f 86, f 87, f 88, f 89, f 90, f 91, f 92, f 93, f 94, f 95, f 96, f 97, f 98, f 99], []⟩ := rfl
            replace hK : ∀ v W', Below W.heap.size W W' → phKd wr.heap.size w.heap.size g off bs.length k2 k x.lg.length clg alg (ivs x.lg) 0 v W' → K ((mono.lit 100 f []).put (some 77) v) W' := hK
            rw [eL] at hK ⊢
            simp only [Act.put, List.setIfInBounds_toArray, List.set_cons_succ, List.set_cons_zero] at hK
            have o7 : f 7 = (.pointer (some ⟨wr.heap.size, 0, none⟩)) := hO 7 (by kernel_rfl)
            rw [o7] at hK ⊢
            go_simp
            exact hK _ _ (Below.refl _ _) rfl
          · refine mono.dutyT_of rfl ?_
            intro f W hR hO hD K hK
            have eL : mono.lit 100 f [] = ⟨#[f 0, f 1, f 2, f 3, f 4, f 5, f 6, f 7, f 8, f 9, f 10, f 11, f 12, f 13, f 14, f 15, f 16, f 17, f 18, f 19, f 20, f 21, f 22, f 23, f 24, f 25, f 26, f 27, f 28, f 29, f 30, f 31, f 32, f 33, f 34, f 35, f 36, f 37, f 38, f 39, f 40, f 41, f 42, f 43, f 44, f 45, f 46, f 47, f 48, f 49, f 50, f 51, f 52, f 53, f 54, f 55, f 56, f 57, f 58, f 59, f 60, f 61, f 62, f 63, f 64, f 65, f 66, f 67, f 68, f 69, f 70, f 71, f 72, f 73, f 74, f 75, f 76, f 77, f 78, f 79, f 80, f 81, f 82, f 83, f 84, f 85, f 86, f 87, f 88, f 89, f 90, f 91, f 92, f 93, f 94, f 95, f 96, f 97, f 98, f 99], []⟩ := rfl
            replace hK : ∀ v W', Below W.heap.size W W' → phKd wr.heap.size w.heap.size g off bs.length k2 k x.lg.length clg alg (ivs x.lg) 1 v W' → K ((mono.lit 100 f []).put (some 78) v) W' := hK
            rw [eL] at hK ⊢
            simp only [Act.put, List.setIfInBounds_toArray, List.set_cons_succ, List.set_cons_zero] at hK
            have q0 := hD 0 77 (by kernel_rfl) (by kernel_rfl)
            replace q0 : f 77 = (.pointer (some ⟨wr.heap.size, 2, none⟩)) := q0
            rw [q0] at hK ⊢
            obtain ⟨h1, h2, h3⟩ := hcel W hR
            go_simp
            exact hK _ _ (Below.refl _ _) rfl
          · refine mono.dutyT_of rfl ?_
            intro f W hR hO hD K hK
            have eL : mono.lit 100 f [] = ⟨#[f 0, f 1, f 2, f 3, f 4, f 5, f 6, f 7, f 8, f 9, f 10, f 11, f 12, f 13, f 14, f 15, f 16, f 17, f 18, f 19, f 20, f 21, f 22, f 23, f 24, f 25, f 26, f 27, f 28, f 29, f 30, f 31, f 32, f 33, f 34, f 35, f 36, f 37, f 38, f 39, f 40, f 41, f 42, f 43, f 44, f 45, f 46, f 47, f 48, f 49, f 50, f 51, f 52, f 53, f 54, f 55, f 56, f 57, f 58, f 59, f 60, f 61, f 62, f 63, f 64, f 65, f 66, f 67, f 68, f 69, f 70, f 71, f 72, f 73, f 74, f 75, f 76, f 77, f 78, f 79, f 80, f 81, f 82, f 83, f 84, f 85, f 86, f 87, f 88, f 89, f 90, f 91, f 92, f 93, f 94, f 95, f 96, f 97, f 98, f 99], []⟩ := rfl
            replace hK : ∀ v W', Below W.heap.size W W' → phKd wr.heap.size w.heap.size g off bs.length k2 k x.lg.length clg alg (ivs x.lg) 2 v W' → K ((mono.lit 100 f []).put (some 79) v) W' := hK
            rw [eL] at hK ⊢
            simp only [Act.put, List.setIfInBounds_toArray, List.set_cons_succ, List.set_cons_zero] at hK
            have o1 : f 1 = (.pointer (some ⟨w.heap.size, 0, none⟩)) := hO 1 (by kernel_rfl)
            rw [o1] at hK ⊢
            go_simp
            exact hK _ _ (Below.refl _ _) rfl
          · refine mono.dutyT_of rfl ?_
            intro f W hR hO hD K hK
            have eL : mono.lit 100 f [] = ⟨#[f 0, f 1, f 2, f 3, f 4, f 5, f 6, f 7, f 8, f 9, f 10, f 11, f 12, f 13, f 14, f 15, f 16, f 17, f 18, f 19, f 20, f 21, f 22, f 23, f 24, f 25, f 26, f 27, f 28, f 29, f 30, f 31, f 32, f 33, f 34, f 35, f 36, f 37, f 38, f 39, f 40, f 41, f 42, f 43, f 44, f 45, f 46, f 47, f 48, f 49, f 50, f 51, f 52, f 53, f 54, f 55, f 56, f 57, f 58, f 59, f 60, f 61, f 62, f 63, f 64, f 65, f 66, f 67, f 68, f 69, f 70, f 71, f 72, f 73, f 74, f 75, f 76, f 77, f 78, f 79, f 80, f 81, f 82, f 83, f 84, f 85, f 86, f 87, f 88, f 89, f 90, f 91, f 92, f 93, f 94, f 95, f 96, f 97, f 98, f 99], []⟩ := rfl
            replace hK : ∀ v W', Below W.heap.size W W' → phKd wr.heap.size w.heap.size g off bs.length k2 k x.lg.length clg alg (ivs x.lg) 3 v W' → K ((mono.lit 100 f []).put (some 80) v) W' := hK
            rw [eL] at hK ⊢
            simp only [Act.put, List.setIfInBounds_toArray, List.set_cons_succ, List.set_cons_zero] at hK
            have q2 := hD 2 79 (by kernel_rfl) (by kernel_rfl)
            replace q2 : f 79 = (.pointer (some ⟨w.heap.size, 3, none⟩)) := q2
            rw [q2] at hK ⊢
            obtain ⟨h1, h2, h3⟩ := hcel W hR
            go_simp
            exact hK _ _ (Below.refl _ _) rfl
          · refine mono.dutyT_of rfl ?_
            intro f W hR hO hD K hK
            have eL : mono.lit 100 f [] = ⟨#[f 0, f 1, f 2, f 3, f 4, f 5, f 6, f 7, f 8, f 9, f 10, f 11, f 12, f 13, f 14, f 15, f 16, f 17, f 18, f 19, f 20, f 21, f 22, f 23, f 24, f 25, f 26, f 27, f 28, f 29, f 30, f 31, f 32, f 33, f 34, f 35, f 36, f 37, f 38, f 39, f 40, f 41, f 42, f 43, f 44, f 45, f 46, f 47, f 48, f 49, f 50, f 51, f 52, f 53, f 54, f 55, f 56, f 57, f 58, f 59, f 60, f 61, f 62, f 63, f 64, f 65, f 66, f 67, f 68, f 69, f 70, f 71, f 72, f 73, f 74, f 75, f 76, f 77, f 78, f 79, f 80, f 81, f 82, f 83, f 84, f 85, f 86, f 87, f 88, f 89, f 90, f 91, f 92, f 93, f 94, f 95, f 96, f 97, f 98, f 99], []⟩ := rfl
            replace hK : ∀ v W', Below W.heap.size W W' → phKd wr.heap.size w.heap.size g off bs.length k2 k x.lg.length clg alg (ivs x.lg) 4 v W' → K ((mono.lit 100 f []).put (some 81) v) W' := hK
            rw [eL] at hK ⊢
            simp only [Act.put, List.setIfInBounds_toArray, List.set_cons_succ, List.set_cons_zero] at hK
            have o6 : f 6 = (.int .i64 (k : Int)) := hO 6 (by kernel_rfl)
            rw [o6] at hK ⊢
            go_simp
            exact hK _ _ (Below.refl _ _) rfl
          · refine mono.dutyT_of rfl ?_
            intro f W hR hO hD K hK
            have eL : mono.lit 100 f [] = ⟨#[f 0, f 1, f 2, f 3, f 4, f 5, f 6, f 7, f 8, f 9, f 10, f 11, f 12, f 13, f 14, f 15, f 16, f 17, f 18, f 19, f 20, f 21, f 22, f 23, f 24, f 25, f 26, f 27, f 28, f 29, f 30, f 31, f 32, f 33, f 34, f 35, f 36, f 37, f 38, f 39, f 40, f 41, f 42, f 43, f 44, f 45, f 46, f 47, f 48, f 49, f 50, f 51, f 52, f 53, f 54, f 55, f 56, f 57, f 58, f 59, f 60, f 61, f 62, f 63, f 64, f 65, f 66, f 67, f 68, f 69, f 70, f 71, f 72, f 73, f 74, f 75, f 76, f 77, f 78, f 79, f 80, f 81, f 82, f 83, f 84, f 85, f 86, f 87, f 88, f 89, f 90, f 91, f 92, f 93, f 94, f 95, f 96, f 97, f 98, f 99], []⟩ := rfl
            replace hK : ∀ v W', Below W.heap.size W W' → phKd wr.heap.size w.heap.size g off bs.length k2 k x.lg.length clg alg (ivs x.lg) 5 v W' → K ((mono.lit 100 f []).put (some 82) v) W' := hK
            rw [eL] at hK ⊢
            simp only [Act.put, List.setIfInBounds_toArray, List.set_cons_succ, List.set_cons_zero] at hK
            have q3 := hD 3 80 (by kernel_rfl) (by kernel_rfl)
            replace q3 : f 80 = (.slice (some ⟨g, off, none⟩) bs.length k2) := q3
            have q4 := hD 4 81 (by kernel_rfl) (by kernel_rfl)
            replace q4 : f 81 = (.int .i64 (k : Int)) := q4
            rw [q3, q4] at hK ⊢
            go_simp
            exact hK _ _ (Below.refl _ _) rfl
          · refine mono.dutyT_of rfl ?_
            intro f W hR hO hD K hK
            have eL : mono.lit 100 f [] = ⟨#[f 0, f 1, f 2, f 3, f 4, f 5, f 6, f 7, f 8, f 9, f 10, f 11, f 12, f 13, f 14, f 15, f 16, f 17, f 18, f 19, f 20, f 21, f 22, f 23, f 24, f 25, f 26, f 27, f 28, f 29, f 30, f 31, f 32, f 33, f 34, f 35, f 36, f 37, f 38, f 39, f 40, f 41, f 42, f 43, f 44, f 45, f 46, f 47, f 48, f 49, f 50, f 51, f 52, f 53, f 54, f 55, f 56, f 57, f 58, f 59, f 60, f 61, f 62, f 63, f 64, f 65, f 66, f 67, f 68, f 69, f 70, f 71, f 72, f 73, f 74, f 75, f 76, f 77, f 78, f 79, f 80, f 81, f 82, f 83, f 84, f 85, f 86, f 87, f 88, f 89, f 90, f 91, f 92, f 93, f 94, f 95, f 96, f 97, f 98, f 99], []⟩ := rfl
            replace hK : ∀ v W', Below W.heap.size W W' → phKd wr.heap.size w.heap.size g off bs.length k2 k x.lg.length clg alg (ivs x.lg) 6 v W' → K ((mono.lit 100 f []).put (some 83) v) W' := hK
            rw [eL] at hK ⊢
            simp only [Act.put, List.setIfInBounds_toArray, List.set_cons_succ, List.set_cons_zero] at hK
            have q5 := hD 5 82 (by kernel_rfl) (by kernel_rfl)
            replace q5 : f 82 = (.pointer (some ⟨g, off + k * 3, none⟩)) := q5
            rw [q5] at hK ⊢
            go_simp
            exact hK _ _ (Below.refl _ _) rfl
          · refine mono.dutyT_of rfl ?_
            intro f W hR hO hD K hK
            have eL : mono.lit 100 f [] = ⟨#[f 0, f 1, f 2, f 3, f 4, f 5, f 6, f 7, f 8, f 9, f 10, f 11, f 12, f 13, f 14, f 15, f 16, f 17, f 18, f 19, f 20, f 21, f 22, f 23, f 24, f 25, f 26, f 27, f 28, f 29, f 30, f 31, f 32, f 33, f 34, f 35, f 36, f 37, f 38, f 39, f 40, f 41, f 42, f 43, f 44, f 45, f 46, f 47, f 48, f 49, f 50, f 51, f 52, f 53, f 54, f 55, f 56, f 57, f 58, f 59, f 60, f 61, f 62, f 63, f 64, f 65, f 66, f 67, f 68, f 69, f 70, f 71, f 72, f 73, f 74, f 75, f 76, f 77, f 78, f 79, f 80, f 81, f 82, f 83, f 84, f 85, f 86, f 87, f 88, f 89, f 90, f 91, f 92, f 93, f 94, f 95, f 96, f 97, f 98, f 99], []⟩ := rfl
            replace hK : ∀ v W', Below W.heap.size W W' → phKd wr.heap.size w.heap.size g off bs.length k2 k x.lg.length clg alg (ivs x.lg) 7 v W' → K ((mono.lit 100 f []).put (some 84) v) W' := hK
            rw [eL] at hK ⊢
            simp only [Act.put, List.setIfInBounds_toArray, List.set_cons_succ, List.set_cons_zero] at hK
            have q6 := hD 6 83 (by kernel_rfl) (by kernel_rfl)
            replace q6 : f 83 = (.pointer (some ⟨g, off + k * 3 + 2, none⟩)) := q6
            rw [q6] at hK ⊢
            obtain ⟨h1, h2, h3⟩ := hcel W hR
            go_simp
            exact hK _ _ (Below.refl _ _) rfl
          · refine mono.dutyT_of rfl ?_
            intro f W hR hO hD K hK
            have eL : mono.lit 100 f [] = ⟨#[f 0, f 1, f 2, f 3, f 4, f 5, f 6, f 7, f 8, f 9, f 10, f 11, f 12, f 13, f 14, f 15, f 16, f 17, f 18, f 19, f 20, f 21, f 22, f 23, f 24, f 25, f 26, f 27, f 28, f 29, f 30, f 31, f 32, f 33, f 34, f 35, f 36, f 37, f 38, f 39, f 40, f 41, f 42, f 43, f 44, f 45, f 46, f 47, f 48, f 49, f 50, f 51, f 52, f 53, f 54, f 55, f 56, f 57, f 58, f 59, f 60, f 61, f 62, f 63, f 64, f 65, f 66, f 67, f 68, f 69, f 70, f 71, f 72, f 73, f 74, f 75, f 76, f 77, f 78, f 79, f 80, f 81, f 82, f 83, f 84, f 85, f 86, f 87, f 88, f 89, f 90, f 91, f 92, f 93, f 94, f 95, f 96, f 97, f 98, f 99], []⟩ := rfl
            replace hK : ∀ v W', Below W.heap.size W W' → phKd wr.heap.size w.heap.size g off bs.length k2 k x.lg.length clg alg (ivs x.lg) 8 v W' → K ((mono.lit 100 f []).put (some 85) v) W' := hK
            rw [eL] at hK ⊢
            simp only [Act.put, List.setIfInBounds_toArray, List.set_cons_succ, List.set_cons_zero] at hK
            have q1 := hD 1 78 (by kernel_rfl) (by kernel_rfl)
            replace q1 : f 78 = (.slice none 0 0) := q1
            have q7 := hD 7 84 (by kernel_rfl) (by kernel_rfl)
            replace q7 : f 84 = (.slice alg x.lg.length clg) := q7
            rw [q1, q7] at hK ⊢
            refine hdup W hR _ _ _ (.tmp 78) (.tmp 84) rfl rfl rfl ?_
            intro a c W' ho' hb'
            exact hK _ _ hb' ⟨a, c, rfl, ho'⟩
          · refine mono.dutyT_of rfl ?_
            intro f W hR hO hD K hK
            have eL : mono.lit 100 f [] = ⟨#[f 0, f 1, f 2, f 3, f 4, f 5, f 6, f 7, f 8, f 9, f 10, f 11, f 12, f 13, f 14, f 15, f 16, f 17, f 18, f 19, f 20, f 21, f 22, f 23, f 24, f 25, f 26, f 27, f 28, f 29, f 30, f 31, f 32, f 33, f 34, f 35, f 36, f 37, f 38, f 39, f 40, f 41, f 42, f 43, f 44, f 45, f 46, f 47, f 48, f 49, f 50, f 51, f 52, f 53, f 54, f 55, f 56, f 57, f 58, f 59, f 60, f 61, f 62, f 63, f 64, f 65, f 66, f 67, f 68, f 69, f 70, f 71, f 72, f 73, f 74, f 75, f 76, f 77, f 78, f 79, f 80, f 81, f 82, f 83, f 84, f 85, f 86, f 87, f 88, f 89, f 90, f 91, f 92, f 93, f 94, f 95, f 96, f 97, f 98, f 99], []⟩ := rfl
            replace hK : ∀ v W', Below W.heap.size W W' → phKd wr.heap.size w.heap.size g off bs.length k2 k x.lg.length clg alg (ivs x.lg) 9 v W' → K ((mono.lit 100 f []).put (some 86) v) W' := hK
            rw [eL] at hK ⊢
            simp only [Act.put, List.setIfInBounds_toArray, List.set_cons_succ, List.set_cons_zero] at hK
            have o7 : f 7 = (.pointer (some ⟨wr.heap.size, 0, none⟩)) := hO 7 (by kernel_rfl)
            rw [o7] at hK ⊢
            go_simp
            exact hK _ _ (Below.refl _ _) rfl
          intro f W hB hO hD
          have r0 := hO 0 (by kernel_rfl)
          have r1 := hO 1 (by kernel_rfl)
          have r2 := hO 2 (by kernel_rfl)
          have r3 := hO 3 (by kernel_rfl)
          have r4 := hO 4 (by kernel_rfl)
          have r5 := hO 5 (by kernel_rfl)
          have r6 := hO 6 (by kernel_rfl)
          have r7 := hO 7 (by kernel_rfl)
          have r8 := hO 8 (by kernel_rfl)
          have r9 := hO 9 (by kernel_rfl)
          have r10 := hO 10 (by kernel_rfl)
          have r11 := hO 11 (by kernel_rfl)
          have r12 := hO 12 (by kernel_rfl)
          have r13 := hO 13 (by kernel_rfl)
          have r14 := hO 14 (by kernel_rfl)
          have r15 := hO 15 (by kernel_rfl)
          have r16 := hO 16 (by kernel_rfl)
          have r17 := hO 17 (by kernel_rfl)
          have r18 := hO 18 (by kernel_rfl)
          have r19 := hO 19 (by kernel_rfl)
          have r20 := hO 20 (by kernel_rfl)
          have r21 := hO 21 (by kernel_rfl)
          have r22 := hO 22 (by kernel_rfl)
          have r23 := hO 23 (by kernel_rfl)
          have r24 := hO 24 (by kernel_rfl)
          have r25 := hO 25 (by kernel_rfl)
          have r26 := hO 26 (by kernel_rfl)
          have r27 := hO 27 (by kernel_rfl)
          have r28 := hO 28 (by kernel_rfl)
          have r29 := hO 29 (by kernel_rfl)
          have r30 := hO 30 (by kernel_rfl)
          have r31 := hO 31 (by kernel_rfl)
          have r32 := hO 32 (by kernel_rfl)
          have r33 := hO 33 (by kernel_rfl)
          have r34 := hO 34 (by kernel_rfl)
          have r35 := hO 35 (by kernel_rfl)
          have r36 := hO 36 (by kernel_rfl)
          have r37 := hO 37 (by kernel_rfl)
          have r38 := hO 38 (by kernel_rfl)
          have r39 := hO 39 (by kernel_rfl)
          have r40 := hO 40 (by kernel_rfl)
          have r41 := hO 41 (by kernel_rfl)
          have r42 := hO 42 (by kernel_rfl)
          have r43 := hO 43 (by kernel_rfl)
          have r44 := hO 44 (by kernel_rfl)
          have r45 := hO 45 (by kernel_rfl)
          have r46 := hO 46 (by kernel_rfl)
          have r47 := hO 47 (by kernel_rfl)
          have r48 := hO 48 (by kernel_rfl)
          have r49 := hO 49 (by kernel_rfl)
          have r50 := hO 50 (by kernel_rfl)
          have r51 := hO 51 (by kernel_rfl)
          have r52 := hO 52 (by kernel_rfl)
          have r53 := hO 53 (by kernel_rfl)
          have r54 := hO 54 (by kernel_rfl)
          have r55 := hO 55 (by kernel_rfl)
          have r56 := hO 56 (by kernel_rfl)
          have r57 := hO 57 (by kernel_rfl)
          have r58 := hO 58 (by kernel_rfl)
          have r59 := hO 59 (by kernel_rfl)
          have r60 := hO 60 (by kernel_rfl)
          have r61 := hO 61 (by kernel_rfl)
          have r62 := hO 62 (by kernel_rfl)
          have r63 := hO 63 (by kernel_rfl)
          have r64 := hO 64 (by kernel_rfl)
          have r65 := hO 65 (by kernel_rfl)
          have r66 := hO 66 (by kernel_rfl)
          have r67 := hO 67 (by kernel_rfl)
          have r68 := hO 68 (by kernel_rfl)
          have r69 := hO 69 (by kernel_rfl)
          have r70 := hO 70 (by kernel_rfl)
          have r71 := hO 71 (by kernel_rfl)
          have r72 := hO 72 (by kernel_rfl)
          have r73 := hO 73 (by kernel_rfl)
          have r74 := hO 74 (by kernel_rfl)
          have r75 := hO 75 (by kernel_rfl)
          have r76 := hO 76 (by kernel_rfl)
          have r85 := hD 8 85 (by decide) (by kernel_rfl)
          obtain ⟨ua, uk, es, hgs⟩ := r85
          have r86 := hD 9 86 (by decide) (by kernel_rfl)
          replace r86 : f 86 = (.pointer (some ⟨wr.heap.size, 2, none⟩)) := r86
          have r87 := hO 87 (by kernel_rfl)
          have r88 := hO 88 (by kernel_rfl)
          have r89 := hO 89 (by kernel_rfl)
          have r90 := hO 90 (by kernel_rfl)
          have r91 := hO 91 (by kernel_rfl)
          have r92 := hO 92 (by kernel_rfl)
          have r93 := hO 93 (by kernel_rfl)
          have r94 := hO 94 (by kernel_rfl)
          have r95 := hO 95 (by kernel_rfl)
          have r96 := hO 96 (by kernel_rfl)
          have r97 := hO 97 (by kernel_rfl)
          have r98 := hO 98 (by kernel_rfl)
          have r99 := hO 99 (by kernel_rfl)
          have eL : mono.lit 100 f [] = ⟨#[f 0, f 1, f 2, f 3, f 4, f 5, f 6, f 7, f 8, f 9, f 10, f 11, f 12, f 13, f 14, f 15, f 16, f 17, f 18, f 19, f 20, f 21, f 22, f 23, f 24, f 25, f 26, f 27, f 28, f 29, f 30, f 31, f 32, f 33, f 34, f 35, f 36, f 37, f 38, f 39, f 40, f 41, f 42, f 43, f 44, f 45, f 46, f 47, f 48, f 49, f 50, f 51, f 52, f 53, f 54, f 55, f 56, f 57, f 58, f 59, f 60, f 61, f 62, f 63, f 64, f 65, f 66, f 67, f 68, f 69, f 70, f 71, f 72, f 73, f 74, f 75, f 76, f 77, f 78, f 79, f 80, f 81, f 82, f 83, f 84, f 85, f 86, f 87, f 88, f 89, f 90, f 91, f 92, f 93, f 94, f 95, f 96, f 97, f 98, f 99], []⟩ := rfl
          rw [eL, r0, r1, r2, r3, r4, r5, r6, r7, r8, r9, r10, r11, r12, r13, r14, r15, r16, r17, r18, r19, r20, r21, r22, r23, r24, r25, r26, r27, r28, r29, r30, r31, r32, r33, r34, r35, r36, r37, r38, r39, r40, r41, r42, r43, r44, r45, r46, r47, r48, r49, r50, r51, r52, r53, r54, r55, r56, r57, r58, r59, r60, r61, r62, r63, r64, r65, r66, r67, r68, r69, r70, r71, r72, r73, r74, r75, r76, es, r86, r87, r88, r89, r90, r91, r92, r93, r94, r95, r96, r97, r98, r99]
          clear eL hO hD r0 r1 r2 r3 r4 r5 r6 r7 r8 r9 r10 r11 r12 r13 r14 r15 r16 r17 r18 r19 r20 r21 r22 r23 r24 r25 r26 r27 r28 r29 r30 r31 r32 r33 r34 r35 r36 r37 r38 r39 r40 r41 r42 r43 r44 r45 r46 r47 r48 r49 r50 r51 r52 r53 r54 r55 r56 r57 r58 r59 r60 r61 r62 r63 r64 r65 r66 r67 r68 r69 r70 r71 r72 r73 r74 r75 r76 r86 r87 r88 r89 r90 r91 r92 r93 r94 r95 r96 r97 r98 r99
          change wpList _ _ _ (_ :: []) _ _
          have hBW := hDr.trans (hB.mono hDr.size)
          have hbW := (hBW.block _ (heap_lt hbx)).trans hbx
          have zW := frz hbW 2
          have cW := cell_of_row W wr.heap.size 2 _ _ (0, 0) hbW
          have r1 := own_set (j := 2) (x := .slice ua x.lg.length uk) hgs hbW (by decide)
          have hbN := heap_setCell hbW 2 (.slice ua x.lg.length uk)
          have hRN := (hRx.trans (hBW.mono hRx.size)).setCell (p := ⟨wr.heap.size, 2, none⟩) (Nat.le_refl _) (.slice ua x.lg.length uk)
          have hBN := (hBx.trans (hBW.mono hBx.size)).setCell (p := ⟨wr.heap.size, 2, none⟩) hwr (.slice ua x.lg.length uk)
          have hSN : (W.setCell ⟨wr.heap.size, 2, none⟩ (.slice ua x.lg.length uk)).heap.size = W.heap.size := by simp
          obtain ⟨Wd, hWd⟩ : ∃ X, X = W.setCell ⟨wr.heap.size, 2, none⟩ (.slice ua x.lg.length uk) := ⟨_, rfl⟩
          rw [← hWd] at r1 hbN hRN hBN
          clear hcel hdup hgs hbx hBx hRx hB es hDr
          have hbx := hbN
          have hRx := hRN
          have hBx := hBN
          simp only [List.setIfInBounds_toArray, List.set_cons_zero, List.set_cons_succ] at hbx
          clear hbN hRN hBN hBW hSN
          have hC3 := hC.below hRx
          have hal7 := alloc_bR Wd (.cells #[.int .i64 x.i, .string x.nm, .slice ua x.lg.length uk] 47)
          have hC7 := hC3.below hal7
          have q := fun j => cell_of_row Wd wr.heap.size j _ _ (0, 0) hbx
          have b0 : Wd.cell? ⟨wr.heap.size, 0, none⟩ = some (.int .i64 x.i) := q 0
          have b1 : Wd.cell? ⟨wr.heap.size, 1, none⟩ = some (.string x.nm) := q 1
          have b2 : Wd.cell? ⟨wr.heap.size, 2, none⟩ = some (.slice ua x.lg.length uk) := q 2
          obtain ⟨y0, y1, y2, y3, y4⟩ := cellsSB hC3.o
          have hlow : w.heap.size + 1 + 1 + 1 ≤ wr.heap.size := hC.lt
          have t1 := own_lower (own_belowG r1 hal7) hlow
          go_upto_region 19 with fail
          rw [← hWd]
          clear hWd q zW cW hbW hC hC3 hal7 r1 hpar hbx hRx hBx
          go_wp2_with (at_builtin; refine wpList_append_own _ rfl (.tmp 88) (.tmp 90) 23 rfl (w.heap.size + 1 + 1 + 1) 47 i1 (.agg #[.int .i64 0, .string ⟨#[]⟩, .slice none 0 0]) 3 48 Try.underlying23 hin1 hy0 hy1 hy2 rfl (by decide) _ Lb.length _ rfl hC7.ow.b.row ⟨_, 0, none⟩ 1 1 [.int .i64 x.i, .string x.nm, .slice ua x.lg.length uk] rfl rfl (many_new _ _ _) (three_br _ _ _ _ _) (by have := HL.out; unfold maxLen; omega) (by have := HL.out; omega) hC7.lt ?_; intro v6 w6 ho6 hg6 _; obtain ⟨a9, k9, rfl⟩ := own_form ho6; have hE := (hC7.grow (j := 3) (v9 := .slice none 0 0) hC7.ow.b.row (.inr (.inl rfl)) hg6).1; obtain ⟨p0, p1, p2, p3, p4⟩ := cellsSB hE; have p6 := frz hE 3)
          have hfin : Cp w ⟨nc, nb, Lk, bs, us⟩ ⟨nc, nb, Lk, Lb ++ [x], []⟩ (.slice a1 Lk.length k1) (.slice (some ⟨g, off, none⟩) bs.length k2) (.slice a3 us.length k3) (.slice av Lk.length kv) (.slice a9 (Lb.length + 1) k9) (.slice none 0 0) uu (ll ++ [.slice ua x.lg.length uk]) (w6.setCell ⟨w.heap.size + 1 + 1, 3, none⟩ (.slice a9 (Lb.length + 1) k9)) := cp_br hC7 t1 ho6 hg6
          rw [← HLs.out] at hfin
          exact ⟨⟨k + 1, _, _, by omega, by go_num, hfin⟩, by simp [Go.RowKit.intOf]; omega⟩
        · have hlt' : ¬ (k : Int) < (bs.length : Int) := by omega
          have eL : Lb = bs := by rw [HLb.out, List.take_of_length_le (by omega)]
          subst eL
          clear hbs hbr HL HLb
          obtain ⟨y0, y1, y2, y3, y4⟩ := cellsSB hC.o
          obtain ⟨j0, jin, jz0, jz1, jz2⟩ := info_parts Try.infoCu
          obtain ⟨q1, q2⟩ := rdcu_src (hru.below hC.b)
          go_upto_region 20 with fail
          go_upto_region 21 with (at_builtin; refine wpList_plain rfl (fun K hK => ?_); refine wp_dupG (.tmp 94) (.tmp 96) (B := w.heap.size + 1 + 1 + 1) Try.underlying24 jin jz0 jz1 jz2 rfl (by decide) rfl rfl rfl (ucs_len us) q1 q2 (ucs_one us) (by unfold maxLen; omega) (by omega) hC.lt ?_; intro a9 k9 w9 ho9 hb9; refine hK _ _ ?_; have hE := hC.o.below hb9; obtain ⟨p0, p1, p2, p3, p4⟩ := cellsSB hE; have p6 := frz hE 4; have hF := cp_cu hC ho9 hb9)
          clear hC q1 q2 hru x0 x1 x2 x3 x4 y0 y1 y2 y3 y4 p0 p1 p2 p3 p4 p6 hE ho9 hb9 jin jz0 jz1 jz2
          simp only at hF
          generalize w9.setCell ⟨w.heap.size + 1 + 1, 4, none⟩ (.slice a9 us.length k9) = WX at *
          obtain ⟨z0, z1, z2, z3, z4⟩ := cellsSB hF.o
          obtain ⟨e0, e1, e2, e3, e4⟩ := cellsSB hF.r
          obtain ⟨f0, f1, f2, f3, f4⟩ := frzS hF.r
          go_wp21
          have hfin := hF.r.put ⟨nc, nb, Lk, Lb, us⟩ (.slice av Lk.length kv) (.slice bv' Lb.length kb) (.slice a9 us.length k9)
          have ho := ow_putS (S' := ⟨nc, nb, Lk, Lb, us⟩) (u1 := .slice av Lk.length kv) (u2 := .slice bv' Lb.length kb) (u3 := .slice a9 us.length k9) hF.r (hF.ow.lower (B' := w.heap.size) (by omega))
          have hb := below_putS hF.b (g := w.heap.size + 1) (by omega) ⟨nc, nb, Lk, Lb, us⟩ (.slice av Lk.length kv) (.slice bv' Lb.length kb) (.slice a9 us.length k9)
          simp only at hfin ho hb
          generalize ((((WX.setCell ⟨w.heap.size + 1, 0, none⟩ (.int .i64 nc)).setCell ⟨w.heap.size + 1, 1, none⟩ (.int .i64 nb)).setCell ⟨w.heap.size + 1, 2, none⟩ (.slice av Lk.length kv)).setCell ⟨w.heap.size + 1, 3, none⟩ (.slice bv' Lb.length kb)).setCell ⟨w.heap.size + 1, 4, none⟩ (.slice a9 us.length k9) = WF at *
          clear e0 e1 e2 e3 e4 z0 z1 z2 z3 z4 f0 f1 f2 f3 f4 hF
          refine bodyPost_ret (results_cell_row rfl _ _ (w.heap.size + 1) 26 _ (0, 0) _ rfl hfin Try.underlying26 rfl Try.sizeSt) rfl ?_
          exact ⟨_, _, _, rfl, ⟨uu, ll, ho⟩, hb⟩
theorem StU.ls {up : Bool} {S : StD} (h : StU up S) : S.cs.length ≤ 9223372036854775000 ∧ S.bs.length ≤ 9223372036854775000 ∧ S.us.length ≤ 9223372036854775000 := by
  have := h.cl.1; have := h.bl.1; have := h.ul.1; omega
end Go.Proofs.Ythhdpabelcgfjaa
