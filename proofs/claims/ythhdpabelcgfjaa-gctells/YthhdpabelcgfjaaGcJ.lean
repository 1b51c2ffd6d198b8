/-
  gc's reference: Sweep.
-/
import Derived.Test.YthhdpabelcgfjaaGcI
namespace Go.Proofs.Ythhdpabelcgfjaa
open Go.Maps Go.ChangeShapes Go.WideShapes Go.ChangeAt Go.RowKit Go.PlainAid

/-! ### The kept commits, in a row whose inner rows are older -/

structure RK (w W : World) (B : Nat) (K : List CoD) (us : List (Value × Value × Value)) (fv : Value) : Prop where
  ul : us.length = K.length
  ow : W.ownsRow B 40 6 fv K.length (ccs K us)
  inn : ∀ (i : Nat) (x : CoD) (u : Value × Value × Value), K[i]? = some x → us[i]? = some u → RdI w u.1 x.ps ∧ RdD w u.2.1 x.d ∧ RdD w u.2.2 x.o
section
variable {w W W' : World} {B : Nat} {K : List CoD} {us : List (Value × Value × Value)} {fv : Value}
theorem RK.push {fv' : Value} {x : CoD} {u : Value × Value × Value} (h : RK w W B K us fv) (ho : W'.ownsRow B 40 6 fv' (K.length + 1) (ccs K us ++ [.int .i64 x.n, u.1, u.2.1, u.2.2, .int .i64 x.c, .int .i64 x.s])) (h1 : RdI w u.1 x.ps) (h2 : RdD w u.2.1 x.d) (h3 : RdD w u.2.2 x.o) : RK w W' B (K ++ [x]) (us ++ [u]) fv' := by
  refine ⟨by simp [h.ul], by rw [List.length_append, ccs_app K us x u h.ul]; exact ho, fun i y z hy hz => ?_⟩
  by_cases hi : i < K.length
  · rw [List.getElem?_append_left hi] at hy
    rw [List.getElem?_append_left (by rw [h.ul]; exact hi)] at hz
    exact h.inn i y z hy hz
  · obtain ⟨-, rfl⟩ := last_one hi hy
    obtain ⟨-, rfl⟩ := last_one (by rw [h.ul]; exact hi) hz
    exact ⟨h1, h2, h3⟩
theorem RK.rd (h : RK w W B K us fv) (hb : Below w.heap.size w W) : RdCo W fv K := by
  have hr := h.ow
  rcases hr.2 with ⟨rfl, h0⟩ | ⟨g, cap, cur, rfl, _, hg, hn, _, _, ht⟩
  · have : K = [] := List.length_eq_zero_iff.1 h0
    subst this
    exact RdCo.nil W
  · refine ⟨_, _, rfl, fun i x hi => ?_⟩
    obtain ⟨u, h1, q0, q1, q2, q3, q4, q5⟩ := ccs_at K us i x h.ul hi
    have q := hr.cells (g := g) rfl
    have hadd : ∀ k, (⟨g, 0, none⟩ : Addr).add k = ⟨g, k, none⟩ := fun k => by unfold Addr.add; split <;> simp_all
    simp only [hadd] at q
    obtain ⟨i1, i2, i3⟩ := h.inn i x u hi h1
    refine ⟨g, 0, u.1, u.2.1, u.2.2, rfl, heap_lt hg, ?_, i1.below hb, i2.below hb, i3.below hb⟩
    rw [Nat.zero_add]
    exact ⟨q _ _ q0, q _ _ q1, q _ _ q2, q _ _ q3, q _ _ q4, q _ _ q5⟩
end
theorem kept_snoc (L : List Int) (l : List CoD) (x : CoD) : kept L (l ++ [x]) = kept L l ++ (if x.n ∈ L then [x] else []) := by
  simp only [kept, List.filter_append, List.filter_cons, List.filter_nil, decide_eq_true_eq]
theorem rk_putS {W : World} {g : Nat} {c : Array Value} (h : W.heap[g]? = some (.cells c 26)) (a b d e f : Value) : Rk W (((((W.setCell ⟨g, 0, none⟩ a).setCell ⟨g, 1, none⟩ b).setCell ⟨g, 2, none⟩ d).setCell ⟨g, 3, none⟩ e).setCell ⟨g, 4, none⟩ f) 26 := by
  have h1 := heap_setCell h 0 a
  have h2 := heap_setCell h1 1 b
  have h3 := heap_setCell h2 2 d
  have h4 := heap_setCell h3 3 e
  exact fun B t z n v xs hn ho => rk_set h4 _ _ _ _ _ _ hn (rk_set h3 _ _ _ _ _ _ hn (rk_set h2 _ _ _ _ _ _ hn (rk_set h1 _ _ _ _ _ _ hn (rk_set h _ _ _ _ _ _ hn ho))))
theorem many_atJ {W : World} {g : Nat} {c : List Value} {t : TypeId} (h : W.heap[g]? = some (.cells c.toArray t)) : ∀ j u, c[j]? = some u → W.cell? ((⟨g, 0, none⟩ : Addr).add j) = some u := fun j u hj => by
  rw [adK, Nat.zero_add, cell_of_row W g j _ _ (0, 0) h]
  simpa using hj
def phRw (p1 Q g off n ka1 k m : Nat) (av : Option Addr) (kv : Nat) (x : CoD) (ap : Option Addr) (kp : Nat) (ad : Option Addr) (kd : Nat) (ae : Option Addr) (ke : Nat) : Nat → Value → World → Prop
  | 0, v, _ => v = (.pointer (some ⟨Q, 2, none⟩))
  | 1, v, _ => v = (.slice av m kv)
  | 2, v, _ => v = (.pointer (some ⟨p1, 2, none⟩))
  | 3, v, _ => v = (.slice (some ⟨g, off, none⟩) n ka1)
  | 4, v, _ => v = (.int .i64 (k : Int))
  | 5, v, _ => v = (.pointer (some ⟨g, off + k * 6, none⟩))
  | 6, v, _ => v = (.agg #[.int .i64 x.n, .slice ap x.ps.length kp, .slice ad x.d.length kd, .slice ae x.o.length ke, .int .i64 x.c, .int .i64 x.s])
  | 7, v, W => ∃ g, v = .slice (some ⟨g, 0, none⟩) 1 1 ∧ W.heap[g]? = some (.cells #[.int .i64 x.n, .slice ap x.ps.length kp, .slice ad x.d.length kd, .slice ae x.o.length ke, .int .i64 x.c, .int .i64 x.s] 40)
  | _, _, _ => True
theorem phRw_stays {p1 Q g off n ka1 k m : Nat} {av : Option Addr} {kv : Nat} {x : CoD} {ap : Option Addr} {kp : Nat} {ad : Option Addr} {kd : Nat} {ae : Option Addr} {ke : Nat} (i : Nat) (v : Value) (w w' : World) (h : phRw p1 Q g off n ka1 k m av kv x ap kp ad kd ae ke i v w) (hg : Below w.heap.size w w') : phRw p1 Q g off n ka1 k m av kv x ap kp ad kd ae ke i v w' := by
  unfold phRw at h ⊢
  split at h
  all_goals first
    | exact h
    | trivial
    | (obtain ⟨g, e, hq⟩ := h; exact ⟨g, e, (hg.block g (heap_lt hq)).trans hq⟩)
/-- Sweep on its way. -/
structure RS (w W : World) (B Q : Nat) (S : StD) (v1 v2 v3 : Value) (L : List Int) (vL : Value) (k : Nat) : Prop where
  kp : ∃ us fv, RK w W B (kept L (S.cs.take k)) us fv ∧ SB W Q S fv v2 v3
  p1 : SB W w.heap.size S v1 v2 v3
  p2 : SB W (w.heap.size + 1) zeroS (.slice none 0 0) (.slice none 0 0) (.slice none 0 0)
  bl : Below w.heap.size w W
  lr : W.ownsRow w.heap.size 3 1 vL L.length (ivs L)
  hq : w.heap.size + 1 < Q
  hB : Q < B
  hz : B ≤ W.heap.size
section
variable {w W W' : World} {B Q : Nat} {S : StD} {v1 v2 v3 : Value} {L : List Int} {vL : Value} {k : Nat}
theorem RS.below (h : RS w W B Q S v1 v2 v3 L vL k) (hb : Below W.heap.size W W') : RS w W' B Q S v1 v2 v3 L vL k := by
  obtain ⟨us, fv, h1, h2⟩ := h.kp
  exact ⟨⟨us, fv, ⟨h1.ul, own_belowG h1.ow hb, h1.inn⟩, h2.below hb⟩, h.p1.below hb, h.p2.below hb, h.bl.trans (hb.mono h.bl.size), own_belowG h.lr hb, h.hq, h.hB, Nat.le_trans h.hz hb.size⟩
theorem RS.push {fv fv' : Value} {us : List (Value × Value × Value)} {x : CoD} {u : Value × Value × Value} (h : RS w W B Q S v1 v2 v3 L vL k) (h1 : RK w W B (kept L (S.cs.take k)) us fv) (h2 : SB W Q S fv v2 v3) (ho : W'.ownsRow B 40 6 fv' ((kept L (S.cs.take k)).length + 1) (ccs (kept L (S.cs.take k)) us ++ [.int .i64 x.n, u.1, u.2.1, u.2.2, .int .i64 x.c, .int .i64 x.s])) (hg : W.grownBy W' fv.ownBlock) (i1 : RdI w u.1 x.ps) (i2 : RdD w u.2.1 x.d) (i3 : RdD w u.2.2 x.o) (hk : kept L (S.cs.take (k + 1)) = kept L (S.cs.take k) ++ [x]) :
    SB W' Q S fv v2 v3 ∧ RS w (W'.setCell ⟨Q, 2, none⟩ fv') B Q S v1 v2 v3 L vL (k + 1) := by
  have hne : ∀ (j : Nat) (c : Array Value), W.heap[j]? = some (Obj.cells c 26) → W'.heap[j]? = some (Obj.cells c 26) := fun j c hj => (hg.block j (heap_lt hj) (box_apart h1.ow hj (by decide))).trans hj
  have q1 := hne _ _ h.p1
  have q2 := hne _ _ h.p2
  have q5 := hne _ _ h2
  have hrk := rk_own h1.ow hg
  have hk7 := rk_set (x := fv') (j := 2) q5
  have h3 := h1.push ho i1 i2 i3
  rw [← hk] at h3
  have hq := h.hq
  refine ⟨q5, ⟨⟨_, fv', ⟨h3.ul, hk7 _ _ _ _ _ _ (by decide) h3.ow, h3.inn⟩, heap_setCell q5 2 _⟩, ?_, ?_, ?_, ?_, h.hq, h.hB, ?_⟩⟩
  · exact (Below.heap_setCell W' ⟨Q, 2, none⟩ fv' w.heap.size (by simp; omega)).trans q1
  · exact (Below.heap_setCell W' ⟨Q, 2, none⟩ fv' (w.heap.size + 1) (by simp; omega)).trans q2
  · exact (h.bl.grown hg h.bl.size (fun j hj => by have := (h1.ow.lt j hj).1; have := h.hB; omega)).setCell (p := ⟨Q, 2, none⟩) (by simp; omega) _
  · exact hk7 _ _ _ _ _ _ (by decide) (hrk _ _ _ _ _ _ (by decide) h.lr)
  · have := h.hz
    have h9 := hg.size
    have h8 := (grown_set W' Q 2 fv').size
    omega
theorem RS.skip (h : RS w W B Q S v1 v2 v3 L vL k) (hk : kept L (S.cs.take (k + 1)) = kept L (S.cs.take k)) : RS w W B Q S v1 v2 v3 L vL (k + 1) := by
  refine ⟨?_, h.p1, h.p2, h.bl, h.lr, h.hq, h.hB, h.hz⟩
  rw [hk]
  exact h.kp
end
set_option maxRecDepth 20000 in
set_option maxHeartbeats 2000000 in
theorem rsweep_any {up : Bool} (S : StD) (v1 v2 v3 : Value) (w : World) (hr : RdSt w v1 v2 v3 S) (hU : StU up S) :
    Calls Try.prog 9 #[.agg (S.fs v1 v2 v3)] w fun e w' => ∃ u1 u2 u3 L, e = .returned (.tuple #[.agg ((StD.mk S.nc S.nb (kept L S.cs) S.bs S.us).fs u1 u2 u3), .int .i64 ((S.cs.length : Int) - ((kept L S.cs).length : Int))]) ∧ SrtNeed S.cs S.bs L ∧ RdSt w' u1 u2 u3 ⟨S.nc, S.nb, kept L S.cs, S.bs, S.us⟩ ∧ Below w.heap.size w w' := by
  obtain ⟨a1, k1, e1, hcs⟩ := id hr.c
  subst e1
  obtain ⟨a2, k2, e2, -⟩ := id hr.b
  subst e2
  obtain ⟨a3, k3, e3, -⟩ := id hr.u
  subst e3
  obtain ⟨i0, hin, hz0, hz1, hz2⟩ := info_parts Try.infoCm
  have hp0 := sb_new w S (.slice a1 S.cs.length k1) (.slice a2 S.bs.length k2) (.slice a3 S.us.length k3)
  have hb0 := alloc_bR w (.cells (S.fs (.slice a1 S.cs.length k1) (.slice a2 S.bs.length k2) (.slice a3 S.us.length k3)) 26)
  have hr1 := sb_new (w.alloc (.cells (S.fs (.slice a1 S.cs.length k1) (.slice a2 S.bs.length k2) (.slice a3 S.us.length k3)) 26)) zeroS (.slice none 0 0) (.slice none 0 0) (.slice none 0 0)
  have hb1 := alloc_bR (w.alloc (.cells (S.fs (.slice a1 S.cs.length k1) (.slice a2 S.bs.length k2) (.slice a3 S.us.length k3)) 26)) (.cells (zeroS.fs (.slice none 0 0) (.slice none 0 0) (.slice none 0 0)) 26)
  have hp1 := hp0.below hb1
  have hbb := hb0.trans (hb1.mono (by simp))
  rw [World.size_alloc] at hr1
  have hzz : w.heap.size + 1 + 1 ≤ ((w.alloc (.cells (S.fs (.slice a1 S.cs.length k1) (.slice a2 S.bs.length k2) (.slice a3 S.us.length k3)) 26)).alloc (.cells (zeroS.fs (.slice none 0 0) (.slice none 0 0) (.slice none 0 0)) 26)).heap.size := by simp
  have cN := fun W (h : Below w.heap.size w W) => rneeded_any S _ _ _ W (hr.below h) hU
  have hlc := hU.cl.1
  have hcl0 : (kept ([] : List Int) (S.cs.take 0)) = [] := rfl
  clear hU hp0 hb0 hb1 hcl0
  have hrb := hr.b
  have hru := hr.u
  clear hr
  obtain ⟨nc, nb, cs, bs, us⟩ := S
  simp only [StD.fs, zeroS] at *
  obtain ⟨x0, x1, x2, x3, x4⟩ := cellsSB hp1
  go_enter Try.func9, Try.ntmps9
  go_wp2_with fail
  generalize ((w.alloc (.cells #[.int .i64 nc, .int .i64 nb, .slice a1 cs.length k1, .slice a2 bs.length k2, .slice a3 us.length k3] 26)).alloc (.cells #[.int .i64 0, .int .i64 0, .slice none 0 0, .slice none 0 0, .slice none 0 0] 26)) = w1 at *
  refine (cN w1 hbb).mono ?_
  rintro e w2 ⟨L, vL, rfl, hN, hoL, hb2⟩
  have hLl : L.length ≤ cs.length := by
    have h := nodup_len (K := cs.map CoD.n) (hN.1.imp (fun h => Int.ne_of_lt h)) (fun n hn => (fdC_mem cs n).1 ((hN.2 n).1 hn).fd)
    rwa [List.length_map] at h
  have hp2 := hp1.below hb2
  have hr2 := hr1.below hb2
  have hbb2 := hbb.trans (hb2.mono hbb.size)
  have hz2 := hb2.size
  have hal := alloc_bR w2 (.cells #[.int .i64 nc, .int .i64 nb, .slice a1 cs.length k1, .slice a2 bs.length k2, .slice a3 us.length k3] 26)
  have hq3 : SB (w2.alloc (.cells #[.int .i64 nc, .int .i64 nb, .slice a1 cs.length k1, .slice a2 bs.length k2, .slice a3 us.length k3] 26)) w2.heap.size ⟨nc, nb, cs, bs, us⟩ (.slice a1 cs.length k1) (.slice a2 bs.length k2) (.slice a3 us.length k3) := sb_new w2 ⟨nc, nb, cs, bs, us⟩ _ _ _
  have hp3 := hp2.below hal
  have hr3 := hr2.below hal
  have hL3 := own_belowG (own_lower hoL hbb.size) hal
  have hbb3 := hbb2.trans (hal.mono hbb2.size)
  have hz3 : w2.heap.size + 1 ≤ (w2.alloc (.cells #[.int .i64 nc, .int .i64 nb, .slice a1 cs.length k1, .slice a2 bs.length k2, .slice a3 us.length k3] 26)).heap.size := by simp
  clear x0 x1 x2 x3 x4 cN hp1 hr1 hbb hb2 hal hoL
  obtain ⟨x0, x1, x2, x3, x4⟩ := cellsSB hp2
  clear hp2 hr2 hbb2
  go_upto_region 3 with fail
  clear x0 x1 x2 x3 x4
  generalize hQ : w2.heap.size = Q at *
  generalize w2.alloc (.cells #[.int .i64 nc, .int .i64 nb, .slice a1 cs.length k1, .slice a2 bs.length k2, .slice a3 us.length k3] 26) = w3 at *
  obtain ⟨x0, x1, x2, x3, x4⟩ := cellsSB hq3
  obtain ⟨f0, f1, f2, f3, f4⟩ := frzS hq3
  go_upto_region 5 with fail
  have hS0 : RS w (w3.setCell ⟨Q, 2, none⟩ (.slice none 0 0)) (Q + 1) Q ⟨nc, nb, cs, bs, us⟩ (.slice a1 cs.length k1) (.slice a2 bs.length k2) (.slice a3 us.length k3) L vL 0 := by
    refine ⟨⟨[], .slice none 0 0, ⟨rfl, World.ownsRow_nil _ _ _ _, fun i x u h => by simp [kept] at h⟩, heap_setCell hq3 2 _⟩, ?_, ?_, ?_, ?_, by omega, by omega, ?_⟩
    · exact (Below.heap_setCell w3 ⟨Q, 2, none⟩ (.slice none 0 0) w.heap.size (by simp; omega)).trans hp3
    · exact (Below.heap_setCell w3 ⟨Q, 2, none⟩ (.slice none 0 0) (w.heap.size + 1) (by simp; omega)).trans hr3
    · exact hbb3.setCell (p := ⟨Q, 2, none⟩) (by simp; omega) _
    · exact rk_set (x := .slice none 0 0) (j := 2) hq3 _ _ _ _ _ _ (by decide) hL3
    · have := (grown_set w3 Q 2 (.slice none 0 0)).size
      omega
  clear x0 x1 x2 x3 x4 f0 f1 f2 f3 f4 hq3 hp3 hr3 hL3 hbb3 hz3 hz2 hzz hQ
  generalize w3.setCell ⟨Q, 2, none⟩ (.slice none 0 0) = w4 at *
  go_loopw [6] (fun i wr => ∃ k : Nat, k ≤ cs.length ∧ i = .int .i64 (k : Int) ∧ RS w wr (Q + 1) Q ⟨nc, nb, cs, bs, us⟩ (.slice a1 cs.length k1) (.slice a2 bs.length k2) (.slice a3 us.length k3) L vL k) (fun i _ => cs.length - (Go.RowKit.intOf i).toNat)
  case atStart => exact ⟨0, by omega, rfl, hS0⟩
  case round =>
    clear hS0
    obtain ⟨k, hk, rfl, hS⟩ := hrel
    obtain ⟨x0, x1, x2, x3, x4⟩ := cellsSB hS.p1
    by_cases hlt : k < cs.length
    · have hlt' : (k : Int) < (cs.length : Int) := by omega
      have hxk : cs[k]? = some cs[k] := by simp [hlt]
      obtain ⟨g, off, pv, dv, ov, rfl, hgw, hc6, r1, r2, r3⟩ := hcs k _ hxk
      obtain ⟨ap, kp, rfl⟩ := rdi_len r1
      obtain ⟨ad, kd, rfl, -⟩ := id r2
      obtain ⟨ae, ke, rfl, -⟩ := id r3
      have hgl : g < wr.heap.size := Nat.lt_of_lt_of_le hgw hS.bl.size
      obtain ⟨c0, c1, c2, c3, c4, c5⟩ := hc6
      have q := fun o => hS.bl.cell (p := ⟨g, o, none⟩) hgw
      rw [← q] at c0 c1 c2 c3 c4 c5
      have eK : kept L (cs.take (k + 1)) = kept L (cs.take k) ++ (if (cs[k]).n ∈ L then [cs[k]] else []) := by
        rw [List.take_succ_eq_append_getElem hlt, kept_snoc]
      have hkl : (kept L (cs.take k)).length ≤ k := Nat.le_trans (List.length_filter_le _ _) (by simp; omega)
      have cH := fun W (h : Below wr.heap.size wr W) n => rhas21_any vL L n W (rdi_own (own_belowG hS.lr h)) (by omega)
      generalize cs[k] = x at *
      clear hxk hcs q
      go_wp2_with fail
      refine (cH wr (Below.refl _ _) x.n).mono ?_
      rintro e w5 ⟨rfl, hb5⟩
      have hS5 := hS.below hb5
      by_cases hm : x.n ∈ L
      · rw [if_pos hm] at eK
        rw [decide_eq_true hm]
        obtain ⟨HK⟩ : Nonempty (Hid (kept L (cs.take (k + 1)) = kept L (cs.take k) ++ [x])) := ⟨eK⟩
        clear hm eK cH hS x0 x1 x2 x3 x4
        rw [← hb5.cell (p := ⟨g, _, none⟩) hgl] at c0 c1 c2 c3 c4 c5
        have hSd := hS5.below (Below.refl w5.heap.size w5).drew
        obtain ⟨uz, fv, hRK, hQ⟩ := hSd.kp
        obtain ⟨av, kv, rfl⟩ := own_form hRK.ow
        have hS := hSd.p1
        have hg : g < w5.drew.heap.size := Nat.lt_of_lt_of_le hgl hb5.size
        have hpush := fun W (hb : Below w5.drew.heap.size w5.drew W) fv' W' ho hg => (hSd.below hb).push (x := x) (u := (.slice ap x.ps.length kp, .slice ad x.d.length kd, .slice ae x.o.length ke)) (us := uz) (fv := .slice av (kept L (cs.take k)).length kv) ⟨hRK.ul, own_belowG hRK.ow hb, hRK.inn⟩ (hQ.below hb) (fv' := fv') (W' := W') ho hg r1 r2 r3 HK.out
        have hzd := hSd.hz
        simp only at hpush
        clear hS5 hb5 hgl HK hSd r1 r2 r3
        generalize hKk : kept L (cs.take k) = Kk at *
        go_upto_region 8 with fail
        refine mono.region_monoT (phRw w.heap.size Q g off cs.length k1 k Kk.length av kv x ap kp ad kd ae ke) 8 44 [] [0, 1, 2, 3, 4, 5, 6, 7] (by kernel_rfl) rfl rfl (by kernel_rfl) (by kernel_rfl) (by kernel_rfl) (by kernel_rfl) (by kernel_rfl) (by kernel_rfl) phRw_stays (.cons ?_ (.cons ?_ (.cons ?_ (.cons ?_ (.cons ?_ (.cons ?_ (.cons ?_ (.cons ?_ (.nil))))))))) ?_
        · refine mono.dutyT_of rfl ?_
          intro f W hR hO hD K hK
          have eL : mono.lit 44 f [] = ⟨#[f 0, f 1, f 2, f 3, f 4, f 5, f 6, f 7, f 8, f 9, f 10, f 11, f 12, f 13, f 14, f 15, f 16, f 17, f 18, f 19, f 20, f 21, f 22, f 23, f 24, f 25, f 26, f 27, f 28, f 29, f 30, f 31, f 32, f 33, f 34, f 35, f 36, f 37, f 38, f 39, f 40, f 41, f 42, f 43], []⟩ := rfl
          replace hK : ∀ v W', Below W.heap.size W W' → phRw w.heap.size Q g off cs.length k1 k Kk.length av kv x ap kp ad kd ae ke 0 v W' → K ((mono.lit 44 f []).put (some 26) v) W' := hK
          rw [eL] at hK ⊢
          simp only [Act.put, List.setIfInBounds_toArray, List.set_cons_succ, List.set_cons_zero] at hK
          have o5 : f 5 = (.pointer (some ⟨Q, 0, none⟩)) := hO 5 (by kernel_rfl)
          rw [o5] at hK ⊢
          go_simp
          exact hK _ _ (Below.refl _ _) rfl
        · refine mono.dutyT_of rfl ?_
          intro f W hR hO hD K hK
          have eL : mono.lit 44 f [] = ⟨#[f 0, f 1, f 2, f 3, f 4, f 5, f 6, f 7, f 8, f 9, f 10, f 11, f 12, f 13, f 14, f 15, f 16, f 17, f 18, f 19, f 20, f 21, f 22, f 23, f 24, f 25, f 26, f 27, f 28, f 29, f 30, f 31, f 32, f 33, f 34, f 35, f 36, f 37, f 38, f 39, f 40, f 41, f 42, f 43], []⟩ := rfl
          replace hK : ∀ v W', Below W.heap.size W W' → phRw w.heap.size Q g off cs.length k1 k Kk.length av kv x ap kp ad kd ae ke 1 v W' → K ((mono.lit 44 f []).put (some 27) v) W' := hK
          rw [eL] at hK ⊢
          simp only [Act.put, List.setIfInBounds_toArray, List.set_cons_succ, List.set_cons_zero] at hK
          have q0 := hD 0 26 (by kernel_rfl) (by kernel_rfl)
          replace q0 : f 26 = (.pointer (some ⟨Q, 2, none⟩)) := q0
          rw [q0] at hK ⊢
          obtain ⟨x0, x1, x2, x3, x4⟩ := cellsSB (hQ.below hR)
          go_simp
          exact hK _ _ (Below.refl _ _) rfl
        · refine mono.dutyT_of rfl ?_
          intro f W hR hO hD K hK
          have eL : mono.lit 44 f [] = ⟨#[f 0, f 1, f 2, f 3, f 4, f 5, f 6, f 7, f 8, f 9, f 10, f 11, f 12, f 13, f 14, f 15, f 16, f 17, f 18, f 19, f 20, f 21, f 22, f 23, f 24, f 25, f 26, f 27, f 28, f 29, f 30, f 31, f 32, f 33, f 34, f 35, f 36, f 37, f 38, f 39, f 40, f 41, f 42, f 43], []⟩ := rfl
          replace hK : ∀ v W', Below W.heap.size W W' → phRw w.heap.size Q g off cs.length k1 k Kk.length av kv x ap kp ad kd ae ke 2 v W' → K ((mono.lit 44 f []).put (some 28) v) W' := hK
          rw [eL] at hK ⊢
          simp only [Act.put, List.setIfInBounds_toArray, List.set_cons_succ, List.set_cons_zero] at hK
          have o1 : f 1 = (.pointer (some ⟨w.heap.size, 0, none⟩)) := hO 1 (by kernel_rfl)
          rw [o1] at hK ⊢
          go_simp
          exact hK _ _ (Below.refl _ _) rfl
        · refine mono.dutyT_of rfl ?_
          intro f W hR hO hD K hK
          have eL : mono.lit 44 f [] = ⟨#[f 0, f 1, f 2, f 3, f 4, f 5, f 6, f 7, f 8, f 9, f 10, f 11, f 12, f 13, f 14, f 15, f 16, f 17, f 18, f 19, f 20, f 21, f 22, f 23, f 24, f 25, f 26, f 27, f 28, f 29, f 30, f 31, f 32, f 33, f 34, f 35, f 36, f 37, f 38, f 39, f 40, f 41, f 42, f 43], []⟩ := rfl
          replace hK : ∀ v W', Below W.heap.size W W' → phRw w.heap.size Q g off cs.length k1 k Kk.length av kv x ap kp ad kd ae ke 3 v W' → K ((mono.lit 44 f []).put (some 29) v) W' := hK
          rw [eL] at hK ⊢
          simp only [Act.put, List.setIfInBounds_toArray, List.set_cons_succ, List.set_cons_zero] at hK
          have q2 := hD 2 28 (by kernel_rfl) (by kernel_rfl)
          replace q2 : f 28 = (.pointer (some ⟨w.heap.size, 2, none⟩)) := q2
          rw [q2] at hK ⊢
          obtain ⟨x0, x1, x2, x3, x4⟩ := cellsSB (hS.below hR)
          go_simp
          exact hK _ _ (Below.refl _ _) rfl
        · refine mono.dutyT_of rfl ?_
          intro f W hR hO hD K hK
          have eL : mono.lit 44 f [] = ⟨#[f 0, f 1, f 2, f 3, f 4, f 5, f 6, f 7, f 8, f 9, f 10, f 11, f 12, f 13, f 14, f 15, f 16, f 17, f 18, f 19, f 20, f 21, f 22, f 23, f 24, f 25, f 26, f 27, f 28, f 29, f 30, f 31, f 32, f 33, f 34, f 35, f 36, f 37, f 38, f 39, f 40, f 41, f 42, f 43], []⟩ := rfl
          replace hK : ∀ v W', Below W.heap.size W W' → phRw w.heap.size Q g off cs.length k1 k Kk.length av kv x ap kp ad kd ae ke 4 v W' → K ((mono.lit 44 f []).put (some 30) v) W' := hK
          rw [eL] at hK ⊢
          simp only [Act.put, List.setIfInBounds_toArray, List.set_cons_succ, List.set_cons_zero] at hK
          have o6 : f 6 = (.int .i64 (k : Int)) := hO 6 (by kernel_rfl)
          rw [o6] at hK ⊢
          go_simp
          exact hK _ _ (Below.refl _ _) rfl
        · refine mono.dutyT_of rfl ?_
          intro f W hR hO hD K hK
          have eL : mono.lit 44 f [] = ⟨#[f 0, f 1, f 2, f 3, f 4, f 5, f 6, f 7, f 8, f 9, f 10, f 11, f 12, f 13, f 14, f 15, f 16, f 17, f 18, f 19, f 20, f 21, f 22, f 23, f 24, f 25, f 26, f 27, f 28, f 29, f 30, f 31, f 32, f 33, f 34, f 35, f 36, f 37, f 38, f 39, f 40, f 41, f 42, f 43], []⟩ := rfl
          replace hK : ∀ v W', Below W.heap.size W W' → phRw w.heap.size Q g off cs.length k1 k Kk.length av kv x ap kp ad kd ae ke 5 v W' → K ((mono.lit 44 f []).put (some 31) v) W' := hK
          rw [eL] at hK ⊢
          simp only [Act.put, List.setIfInBounds_toArray, List.set_cons_succ, List.set_cons_zero] at hK
          have q3 := hD 3 29 (by kernel_rfl) (by kernel_rfl)
          replace q3 : f 29 = (.slice (some ⟨g, off, none⟩) cs.length k1) := q3
          have q4 := hD 4 30 (by kernel_rfl) (by kernel_rfl)
          replace q4 : f 30 = (.int .i64 (k : Int)) := q4
          rw [q3, q4] at hK ⊢
          go_simp
          exact hK _ _ (Below.refl _ _) rfl
        · refine mono.dutyT_of rfl ?_
          intro f W hR hO hD K hK
          have eL : mono.lit 44 f [] = ⟨#[f 0, f 1, f 2, f 3, f 4, f 5, f 6, f 7, f 8, f 9, f 10, f 11, f 12, f 13, f 14, f 15, f 16, f 17, f 18, f 19, f 20, f 21, f 22, f 23, f 24, f 25, f 26, f 27, f 28, f 29, f 30, f 31, f 32, f 33, f 34, f 35, f 36, f 37, f 38, f 39, f 40, f 41, f 42, f 43], []⟩ := rfl
          replace hK : ∀ v W', Below W.heap.size W W' → phRw w.heap.size Q g off cs.length k1 k Kk.length av kv x ap kp ad kd ae ke 6 v W' → K ((mono.lit 44 f []).put (some 32) v) W' := hK
          rw [eL] at hK ⊢
          simp only [Act.put, List.setIfInBounds_toArray, List.set_cons_succ, List.set_cons_zero] at hK
          have q5 := hD 5 31 (by kernel_rfl) (by kernel_rfl)
          replace q5 : f 31 = (.pointer (some ⟨g, off + k * 6, none⟩)) := q5
          rw [q5] at hK ⊢
          have y0 := (hR.cell (p := ⟨g, _, none⟩) hg).trans c0
          have y1 := (hR.cell (p := ⟨g, _, none⟩) hg).trans c1
          have y2 := (hR.cell (p := ⟨g, _, none⟩) hg).trans c2
          have y3 := (hR.cell (p := ⟨g, _, none⟩) hg).trans c3
          have y4 := (hR.cell (p := ⟨g, _, none⟩) hg).trans c4
          have y5 := (hR.cell (p := ⟨g, _, none⟩) hg).trans c5
          go_simp
          exact hK _ _ (Below.refl _ _) rfl
        · refine mono.dutyT_of rfl ?_
          intro f W hR hO hD K hK
          have eL : mono.lit 44 f [] = ⟨#[f 0, f 1, f 2, f 3, f 4, f 5, f 6, f 7, f 8, f 9, f 10, f 11, f 12, f 13, f 14, f 15, f 16, f 17, f 18, f 19, f 20, f 21, f 22, f 23, f 24, f 25, f 26, f 27, f 28, f 29, f 30, f 31, f 32, f 33, f 34, f 35, f 36, f 37, f 38, f 39, f 40, f 41, f 42, f 43], []⟩ := rfl
          replace hK : ∀ v W', Below W.heap.size W W' → phRw w.heap.size Q g off cs.length k1 k Kk.length av kv x ap kp ad kd ae ke 7 v W' → K ((mono.lit 44 f []).put (some 33) v) W' := hK
          rw [eL] at hK ⊢
          simp only [Act.put, List.setIfInBounds_toArray, List.set_cons_succ, List.set_cons_zero] at hK
          have q6 := hD 6 32 (by kernel_rfl) (by kernel_rfl)
          replace q6 : f 32 = (.agg #[.int .i64 x.n, .slice ap x.ps.length kp, .slice ad x.d.length kd, .slice ae x.o.length ke, .int .i64 x.c, .int .i64 x.s]) := q6
          rw [q6] at hK ⊢
          go_simp
          exact hK _ _ (alloc_bR W _) ⟨_, rfl, heap_alloc_new W _⟩
        · intro f W hB hO hD
          have r0 := hO 0 (by kernel_rfl)
          have r1 := hO 1 (by kernel_rfl)
          have r2 := hO 2 (by kernel_rfl)
          have r3 := hO 3 (by kernel_rfl)
          have r4 := hO 4 (by kernel_rfl)
          have r5 := hO 5 (by kernel_rfl)
          have r6 := hO 6 (by kernel_rfl)
          have r7 := hO 7 (by kernel_rfl)
          have r8 := hO 8 (by kernel_rfl)
          have r9 := hO 9 (by kernel_rfl)
          have r10 := hO 10 (by kernel_rfl)
          have r11 := hO 11 (by kernel_rfl)
          have r12 := hO 12 (by kernel_rfl)
          have r13 := hO 13 (by kernel_rfl)
          have r14 := hO 14 (by kernel_rfl)
          have r15 := hO 15 (by kernel_rfl)
          have r16 := hO 16 (by kernel_rfl)
          have r17 := hO 17 (by kernel_rfl)
          have r18 := hO 18 (by kernel_rfl)
          have r19 := hO 19 (by kernel_rfl)
          have r20 := hO 20 (by kernel_rfl)
          have r21 := hO 21 (by kernel_rfl)
          have r22 := hO 22 (by kernel_rfl)
          have r23 := hO 23 (by kernel_rfl)
          have r24 := hO 24 (by kernel_rfl)
          have r25 := hO 25 (by kernel_rfl)
          have r27 := hD 1 27 (by decide) (by kernel_rfl)
          replace r27 : f 27 = (.slice av Kk.length kv) := r27
          have r33 := hD 7 33 (by decide) (by kernel_rfl)
          obtain ⟨gs, es, hgs⟩ := r33
          have r34 := hO 34 (by kernel_rfl)
          have r35 := hO 35 (by kernel_rfl)
          have r36 := hO 36 (by kernel_rfl)
          have r37 := hO 37 (by kernel_rfl)
          have r38 := hO 38 (by kernel_rfl)
          have r39 := hO 39 (by kernel_rfl)
          have r40 := hO 40 (by kernel_rfl)
          have r41 := hO 41 (by kernel_rfl)
          have r42 := hO 42 (by kernel_rfl)
          have r43 := hO 43 (by kernel_rfl)
          have eL : mono.lit 44 f [] = ⟨#[f 0, f 1, f 2, f 3, f 4, f 5, f 6, f 7, f 8, f 9, f 10, f 11, f 12, f 13, f 14, f 15, f 16, f 17, f 18, f 19, f 20, f 21, f 22, f 23, f 24, f 25, f 26, f 27, f 28, f 29, f 30, f 31, f 32, f 33, f 34, f 35, f 36, f 37, f 38, f 39, f 40, f 41, f 42, f 43], []⟩ := rfl
          rw [eL, r0, r1, r2, r3, r4, r5, r6, r7, r8, r9, r10, r11, r12, r13, r14, r15, r16, r17, r18, r19, r20, r21, r22, r23, r24, r25, r27, es, r34, r35, r36, r37, r38, r39, r40, r41, r42, r43]
          clear eL hO hD r0 r1 r2 r3 r4 r5 r6 r7 r8 r9 r10 r11 r12 r13 r14 r15 r16 r17 r18 r19 r20 r21 r22 r23 r24 r25 r27 r34 r35 r36 r37 r38 r39 r40 r41 r42 r43
          change wpList _ _ _ (_ :: _ :: _ :: []) _ _
          have hoE := own_belowG hRK.ow hB
          have hmn := many_atJ (c := [.int .i64 x.n, .slice ap x.ps.length kp, .slice ad x.d.length kd, .slice ae x.o.length ke, .int .i64 x.c, .int .i64 x.s]) hgs
          have hzE : Q + 1 ≤ W.heap.size := Nat.le_trans hzd hB.size
          clear hgs es hRK hQ hS c0 c1 c2 c3 c4 c5
          go_wp2_with (at_builtin; refine wpList_append_own _ rfl (.tmp 27) (.tmp 33) 22 rfl (Q + 1) 40 i0 (.agg #[.int .i64 0, .slice none 0 0, .slice none 0 0, .slice none 0 0, .int .i64 0, .int .i64 0]) 6 96 Try.underlying22 hin hz0 hz1 hz2 rfl (by decide) _ Kk.length _ rfl hoE ⟨gs, 0, none⟩ 1 1 [.int .i64 x.n, .slice ap x.ps.length kp, .slice ad x.d.length kd, .slice ae x.o.length ke, .int .i64 x.c, .int .i64 x.s] rfl rfl hmn (six_co _ _ _ _ _ _ _ _ _ _ _ _) (by unfold maxLen; omega) (by omega) hzE ?_; intro v6 w6 ho6 hg6 _; obtain ⟨hQ6, hS6⟩ := hpush W hB v6 w6 ho6 hg6; obtain ⟨x0, x1, x2, x3, x4⟩ := cellsSB hQ6; obtain ⟨f0, f1, f2, f3, f4⟩ := frzS hQ6; obtain ⟨a6, k6, rfl⟩ := own_form ho6)
          exact ⟨⟨k + 1, by omega, by go_num, hS6⟩, by simp [Go.RowKit.intOf]; omega⟩
      · rw [if_neg hm, List.append_nil] at eK
        rw [decide_eq_false hm]
        have hS6 := hS5.skip eK
        clear hm eK cH hS c0 c1 c2 c3 c4 c5 x0 x1 x2 x3 x4
        go_wp2_with fail
        exact ⟨⟨k + 1, by omega, by go_num, hS6⟩, by simp [Go.RowKit.intOf]; omega⟩
    · have hlt' : ¬ (k : Int) < (cs.length : Int) := by omega
      obtain rfl : k = cs.length := by omega
      obtain ⟨uz, fv, hRK, hq7⟩ := hS.kp
      simp only [List.take_length] at hRK
      obtain ⟨aD, kD, rfl⟩ := own_form hRK.ow
      have hr8 : SB wr (w.heap.size + 1) ⟨0, 0, [], [], []⟩ (.slice none 0 0) (.slice none 0 0) (.slice none 0 0) := hS.p2
      have hbb7 := hS.bl
      have hKl : (kept L cs).length ≤ cs.length := List.length_filter_le _ _
      generalize hKp : kept L cs = Kp at *
      have hwl : IntKind.i64.wrap ((cs.length : Int) - (Kp.length : Int)) = (cs.length : Int) - (Kp.length : Int) := wraps_i64 _ (by omega) (by omega)
      obtain ⟨y0, y1, y2, y3, y4⟩ := cellsSB hr8
      obtain ⟨z0, z1, z2, z3, z4⟩ := cellsSB hq7
      obtain ⟨f0, f1, f2, f3, f4⟩ := frzS hr8
      have hrq : w.heap.size + 1 < Q := hS.hq
      have hpq : w.heap.size < Q := by omega
      have hne : ¬ Q = w.heap.size + 1 := by omega
      clear hS hcs hlt hlt' hk
      go_upto_region 9 with fail
      go_region
      have hfin := SB.put hr8 ⟨nc, nb, Kp, bs, us⟩ (.slice aD Kp.length kD) (.slice a2 bs.length k2) (.slice a3 us.length k3)
      have hb := below_putS hbb7 (g := w.heap.size + 1) (by omega) ⟨nc, nb, Kp, bs, us⟩ (.slice aD Kp.length kD) (.slice a2 bs.length k2) (.slice a3 us.length k3)
      have ho := rk_putS hr8 (.int .i64 nc) (.int .i64 nb) (.slice aD Kp.length kD) (.slice a2 bs.length k2) (.slice a3 us.length k3) _ _ _ _ _ _ (by decide) hRK.ow
      simp only at hfin ho hb
      generalize ((((wr.setCell ⟨w.heap.size + 1, 0, none⟩ (.int .i64 nc)).setCell ⟨w.heap.size + 1, 1, none⟩ (.int .i64 nb)).setCell ⟨w.heap.size + 1, 2, none⟩ (.slice aD Kp.length kD)).setCell ⟨w.heap.size + 1, 3, none⟩ (.slice a2 bs.length k2)).setCell ⟨w.heap.size + 1, 4, none⟩ (.slice a3 us.length k3) = WF at *
      have hfin' : WF.drew.heap[w.heap.size + 1]? = some (.cells _ 26) := hfin
      have hbd := hb.drew
      have hRd : RdSt WF.drew (.slice aD Kp.length kD) (.slice a2 bs.length k2) (.slice a3 us.length k3) ⟨nc, nb, Kp, bs, us⟩ := ⟨RK.rd ⟨hRK.ul, own_belowG ho (Below.refl _ _).drew, hRK.inn⟩ hbd, hrb.below hbd, hru.below hbd⟩
      clear y0 y1 y2 y3 y4 z0 z1 z2 z3 z4 f0 f1 f2 f3 f4
      go_wp21
      refine bodyPost_ret (results_row_tmpR rfl _ _ (w.heap.size + 1) 26 _ (0, 0) _ rfl hfin' Try.underlying26 rfl Try.sizeSt) rfl ?_
      subst hKp
      exact ⟨.slice aD (kept L cs).length kD, .slice a2 bs.length k2, .slice a3 us.length k3, L, rfl, hN, hRd, hbd⟩
end Go.Proofs.Ythhdpabelcgfjaa
