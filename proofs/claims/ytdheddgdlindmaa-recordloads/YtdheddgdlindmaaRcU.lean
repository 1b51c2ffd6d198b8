/-
  record: Load.
-/
import Derived.Test.YtdheddgdlindmaaRcS
import Derived.Test.YtdheddgdlindmaaDrB
namespace Go.Proofs.Ytdheddgdlindmaa
open Go.ChangeShapes Go.WideShapes Go.ChangeAt Go.RowKit Go.PlainAid

theorem rchk_any {ds : List OpD} (h : chk ds = 0) : ds.length ≤ 3000 := by
  rw [chk] at h
  split at h
  · omega
  · omega
theorem dec_inR (s : ByteArray) : (decR s).1.length ≤ 3000 ∧ ∀ o ∈ (decR s).1, o.In := by
  unfold decR
  split
  · simp
  · rename_i hn
    have h0 : (pk.tk s 0 1125899906842624).2.2 = 0 := by omega
    rcases pk.tk_cases s 0 1125899906842624 with ⟨n, p, hr, -, -, hp, -⟩ | ⟨er, hr, her⟩
    · rw [hr] at hn ⊢
      simp only
      cases hg : decGo s (n : Int).toNat (p : Int) [] with
      | none => simp [decF]
      | some r =>
        obtain ⟨l, q⟩ := r
        unfold decF
        simp only
        split
        · simp
        · rename_i hc
          have hc0 : chk (l.map St.op) = 0 := by omega
          obtain ⟨m, e1, -, e2, -⟩ := decGo_of _ p [] l q hp hg
          rw [List.nil_append] at e1
          subst e1
          refine ⟨rchk_any hc0, ?_⟩
          intro o ho
          simp only [List.mem_map] at ho
          obtain ⟨st, h1, rfl⟩ := ho
          exact raw_in (e2 st h1)
    · rw [hr] at h0
      simp only at h0
      omega
theorem rd_in (s : ByteArray) (a : Int) (f : Bool) : (rdF s a f).1.length ≤ 3000 ∧ ∀ o ∈ (rdF s a f).1, o.In := by
  unfold rdF
  split
  · simp
  · exact dec_inR _
theorem rt_bd (s : ByteArray) (a : Int) (f : Bool) : (rtF s a f).1.size ≤ 20000 := by
  by_cases h : (rtF s a f).2.2 = false
  · exact rtF_size h
  · cases f with
    | true => show ByteArray.size ⟨#[]⟩ ≤ _; decide
    | false =>
      simp only [rtF] at h ⊢
      unfold pk.tkT at h ⊢
      split
      · rename_i h1
        rw [if_pos h1] at h
        split
        · show ByteArray.size ⟨#[]⟩ ≤ _; decide
        · rename_i h2
          rw [if_neg h2] at h
          simp at h
      · show ByteArray.size ⟨#[]⟩ ≤ _; decide
theorem rcG_len (s : ByteArray) : ∀ (n : Nat) (a : Int) (f : Bool), (rcG s n a f).1.length ≤ n
  | 0, _, _ => by simp [rcG]
  | n + 1, a, true => by simp [rcG]
  | n + 1, a, false => by
    have := rcG_len s n (rnF s a false).2.1 (rnF s a false).2.2
    rw [rcG]
    simp only [List.length_cons]
    omega
theorem rc_bd (s : ByteArray) (a : Int) (f : Bool) : (rcF s a f).1.length ≤ 1125899906842624 := by
  unfold rcF
  have h1 := rcG_len s (rnF s a f).1.toNat (rnF s a f).2.1 (rnF s a f).2.2
  have h2 := rn_bd s a f
  omega
theorem prE_len (S : StD) : (prE S).1.length ≤ 1000 := by
  unfold prE
  split
  · rename_i h
    have := st_ok h
    have h1 := this.cl
    have h2 := this.bl
    have h3 := this.ul
    simp only [prD, List.length_append, List.length_map, List.length_cons, List.length_nil]
    omega
  · simp
theorem zero_fit : zeroS.Fit := ⟨by decide, by decide, by decide, by decide, by simp [zeroS], by simp [zeroS]⟩
/-- A pair more: it is no longer than one more, and it fits. -/
theorem tkF_more (S : StD) (x : PaD) : (tkF S x).1.bs.length ≤ S.bs.length + 1 ∧ (tkF S x).1.cs.length ≤ S.cs.length + 1 ∧ (tkF S x).1.us.length ≤ S.us.length + 1 := by
  unfold tkF
  split
  · exact ⟨by simp, by simp, by simp⟩
  · split
    · unfold tkB; exact ⟨by simp, by simp, by simp⟩
    · split
      · unfold tkC; exact ⟨by simp, by simp, by simp⟩
      · split
        · unfold tkN; exact ⟨by simp, by simp, by simp⟩
        · split
          · unfold tkU; exact ⟨by simp, by simp, by simp⟩
          · exact ⟨by simp, by simp, by simp⟩
theorem tkB_fit {S : StD} (s : ByteArray) (h : S.Fit) : (tkB S s).1.Fit := by
  unfold tkB
  rcases hx1 : rnF s 0 false with ⟨i, a1, f1⟩
  have r2 := rt_bd s a1 f1
  rcases hx2 : rtF s a1 f1 with ⟨nm, a2, f2⟩
  have r3 := rc_bd s a2 f2
  rcases hx3 : rcF s a2 f2 with ⟨lg, a3, f3⟩
  rw [hx2] at r2
  rw [hx3] at r3
  simp only [hx2, hx3] at *
  refine ⟨h.c0, h.c1, h.b0, h.b1, h.cs, fun y hy => ?_⟩
  rcases List.mem_append.1 hy with hy | hy
  · exact h.bs y hy
  · rw [List.mem_singleton.1 hy]
    exact ⟨by simp only; omega, by simp only; omega⟩
theorem tkC_fit {S : StD} (s : ByteArray) (h : S.Fit) : (tkC S s).1.Fit := by
  unfold tkC
  rcases hx1 : rnF s 0 false with ⟨n, a1, f1⟩
  have r2 := rc_bd s a1 f1
  rcases hx2 : rcF s a1 f1 with ⟨ps, a2, f2⟩
  have r3 := rd_in s a2 f2
  rcases hx3 : rdF s a2 f2 with ⟨d, a3, f3⟩
  have r4 := rd_in s a3 f3
  rcases hx4 : rdF s a3 f3 with ⟨o, a4, f4⟩
  rcases hx5 : rnF s a4 f4 with ⟨c, a5, f5⟩
  rcases hx6 : rnF s a5 f5 with ⟨q, a6, f6⟩
  rw [hx2] at r2
  rw [hx3] at r3
  rw [hx4] at r4
  simp only [hx2, hx3, hx4, hx5, hx6] at *
  refine ⟨h.c0, h.c1, h.b0, h.b1, fun y hy => ?_, h.bs⟩
  rcases List.mem_append.1 hy with hy | hy
  · exact h.cs y hy
  · rw [List.mem_singleton.1 hy]
    exact ⟨by simp only; omega, by have := r3.1; simp only; unfold maxLen; omega, r3.2, by have := r4.1; simp only; unfold maxLen; omega, r4.2⟩
theorem tkN_fit {S : StD} (s : ByteArray) (h : S.Fit) : (tkN S s).1.Fit := by
  unfold tkN
  have r1 := rn_bd s 0 false
  rcases hx1 : rnF s 0 false with ⟨n, a1, f1⟩
  have r2 := rn_bd s a1 f1
  rcases hx2 : rnF s a1 f1 with ⟨m, a2, f2⟩
  rw [hx1] at r1
  rw [hx2] at r2
  simp only [hx2] at *
  exact ⟨by simp only; omega, by simp only; omega, by simp only; omega, by simp only; omega, h.cs, h.bs⟩
theorem tkF_fit {S : StD} (x : PaD) (h : S.Fit) : (tkF S x).1.Fit := by
  unfold tkF
  split
  · exact h
  · split
    · exact tkB_fit _ h
    · split
      · exact tkC_fit _ h
      · split
        · exact tkN_fit _ h
        · split
          · unfold tkU
            exact ⟨h.c0, h.c1, h.b0, h.b1, h.cs, h.bs⟩
          · exact h
theorem results_row_tmpR {P : Program} {fn : Func} {p u : Tmp} {ty : TypeId} (h : fn.results = #[.cell p ty, .tmp u]) (tmps : Array Value) (w : World) (g : Nat) (t : TypeId) (cs : Array Value) (fr : Nat × Nat) (d : TypeDesc)
    (hp : tmps.getD p undef = .pointer (some ⟨g, 0, none⟩)) (hg : w.heap[g]? = some (.cells cs t fr))
    (hu : P.underlying ty = some d) (hd : (match d with | .struct _ | .array _ _ => true | _ => false) = true) (hi : (P.info? ty).map (·.size) = some cs.size) :
    (results fn tmps).run P w = .ok (.tuple #[.agg cs, tmps.getD u undef]) w := by
  have hp' : tmps[p]?.getD undef = .pointer (some ⟨g, 0, none⟩) := by simpa using hp
  simp [results, h, hp', asAddr, run_loadVar_row w g t ty cs fr d hg hu hd hi]
theorem Try.sizeSt : (Try.prog.info? 26).map (·.size) = some 5 := by kernel_rfl
/-- All of a state's box is written. -/
theorem SB.put {W : World} {g : Nat} {S : StD} {v1 v2 v3 : Value} (h : SB W g S v1 v2 v3) (S' : StD) (u1 u2 u3 : Value) : SB (((((W.setCell ⟨g, 0, none⟩ (.int .i64 S'.nc)).setCell ⟨g, 1, none⟩ (.int .i64 S'.nb)).setCell ⟨g, 2, none⟩ u1).setCell ⟨g, 3, none⟩ u2).setCell ⟨g, 4, none⟩ u3) g S' u1 u2 u3 :=
  heap_setCell (heap_setCell (heap_setCell (heap_setCell (heap_setCell h 0 (.int .i64 S'.nc)) 1 (.int .i64 S'.nb)) 2 u1) 3 u2) 4 u3
theorem below_putS {B g : Nat} {W0 W : World} (h : Below B W0 W) (hg : B ≤ g) (S' : StD) (u1 u2 u3 : Value) : Below B W0 (((((W.setCell ⟨g, 0, none⟩ (.int .i64 S'.nc)).setCell ⟨g, 1, none⟩ (.int .i64 S'.nb)).setCell ⟨g, 2, none⟩ u1).setCell ⟨g, 3, none⟩ u2).setCell ⟨g, 4, none⟩ u3) :=
  ((((h.setCell (p := ⟨g, 0, none⟩) hg _).setCell (p := ⟨g, 1, none⟩) hg _).setCell (p := ⟨g, 2, none⟩) hg _).setCell (p := ⟨g, 3, none⟩) hg _).setCell (p := ⟨g, 4, none⟩) hg _
theorem ow_putS {B g : Nat} {W : World} {S S' T : StD} {v1 v2 v3 u1 u2 u3 t1 t2 t3 : Value} {us : List (Value × Value × Value)} {ls : List Value} (h : SB W g S v1 v2 v3) (ho : OwSt W B t1 t2 t3 T us ls) : OwSt (((((W.setCell ⟨g, 0, none⟩ (.int .i64 S'.nc)).setCell ⟨g, 1, none⟩ (.int .i64 S'.nb)).setCell ⟨g, 2, none⟩ u1).setCell ⟨g, 3, none⟩ u2).setCell ⟨g, 4, none⟩ u3) B t1 t2 t3 T us ls := by
  have k1 := heap_setCell h 0 (.int .i64 S'.nc)
  have k2 := heap_setCell k1 1 (.int .i64 S'.nb)
  have k3 := heap_setCell k2 2 u1
  have k4 := heap_setCell k3 3 u2
  exact ((((ho.rk (rk_set h) noRow_st).rk (rk_set k1) noRow_st).rk (rk_set k2) noRow_st).rk (rk_set k3) noRow_st).rk (rk_set k4) noRow_st
theorem frzS {W : World} {g : Nat} {S : StD} {v1 v2 v3 : Value} (h : SB W g S v1 v2 v3) : W.frozen? ⟨g, 0, none⟩ = false ∧ W.frozen? ⟨g, 1, none⟩ = false ∧ W.frozen? ⟨g, 2, none⟩ = false ∧ W.frozen? ⟨g, 3, none⟩ = false ∧ W.frozen? ⟨g, 4, none⟩ = false := ⟨frz h 0, frz h 1, frz h 2, frz h 3, frz h 4⟩
/-- Load on its way. -/
structure Ld (w : World) (S : StD) (v1 v2 v3 : Value) (us : List (Value × Value × Value)) (ls : List Value) (W : World) : Prop where
  z : SB W w.heap.size zeroS (.slice none 0 0) (.slice none 0 0) (.slice none 0 0)
  s : SB W (w.heap.size + 1) S v1 v2 v3
  o : OwSt W (w.heap.size + 1 + 1) v1 v2 v3 S us ls
  b : Below w.heap.size w W
theorem ld_new (w : World) : Ld w zeroS (.slice none 0 0) (.slice none 0 0) (.slice none 0 0) [] [] ((w.alloc (.cells (zeroS.fs (.slice none 0 0) (.slice none 0 0) (.slice none 0 0)) 26)).alloc (.cells (zeroS.fs (.slice none 0 0) (.slice none 0 0) (.slice none 0 0)) 26)) := by
  have h1 := sb_new (w.alloc (.cells (zeroS.fs (.slice none 0 0) (.slice none 0 0) (.slice none 0 0)) 26)) zeroS (.slice none 0 0) (.slice none 0 0) (.slice none 0 0)
  rw [World.size_alloc] at h1
  exact ⟨(sb_new w zeroS _ _ _).below (alloc_bR _ _), h1, owst_nil _ _, (alloc_bR w _).trans ((alloc_bR _ _).mono (alloc_bR w _).size)⟩
theorem Ld.below {w W W' : World} {S : StD} {v1 v2 v3 : Value} {us : List (Value × Value × Value)} {ls : List Value} (h : Ld w S v1 v2 v3 us ls W) (hb : Below W.heap.size W W') : Ld w S v1 v2 v3 us ls W' := ⟨h.z.below hb, h.s.below hb, h.o.below hb, h.b.trans (hb.mono h.b.size)⟩
end Go.Proofs.Ytdheddgdlindmaa
