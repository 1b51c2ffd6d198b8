/-
  gc's reference: Needed.
-/
import Derived.Test.YthhdpabelcgfjaaGcIs
import Derived.Test.YthhdpabelcgfjaaMonT
namespace Go.Proofs.Ythhdpabelcgfjaa
open Go.Maps Go.ChangeShapes Go.WideShapes Go.ChangeAt Go.RowKit Go.PlainAid

/-! ### As data: what is met, and from where on it is still to be looked at -/

theorem mk1_drop (f : Int → Bool) (M : List Int) (k : Nat) (n : Int) (hk : k ≤ M.length) : ∃ N, mk1 f (M, M.drop k) n = (N, N.drop k) ∧ k ≤ N.length := by
  unfold mk1
  split
  · exact ⟨M ++ [n], by rw [List.drop_append_of_le_length hk], by simp; omega⟩
  · exact ⟨M, rfl, hk⟩
theorem mkS_drop (f : Int → Bool) : ∀ (l M : List Int) (k : Nat), k ≤ M.length → ∃ N, mkS f (M, M.drop k) l = (N, N.drop k) ∧ k ≤ N.length
  | [], M, k, hk => ⟨M, rfl, hk⟩
  | n :: l, M, k, hk => by
    obtain ⟨N, e, hN⟩ := mk1_drop f M k n hk
    obtain ⟨N2, e2, hN2⟩ := mkS_drop f l N k hN
    refine ⟨N2, ?_, hN2⟩
    show mkS f (mk1 f (M, M.drop k) n) l = _
    rw [e, e2]
theorem GI.front {cs : List CoD} {bs : List BrD} {k : Nat} {M fr fz : List Int} (h : GI cs bs k (M, fr)) (hn : fz.Nodup) (hm : ∀ x, x ∈ fz ↔ x ∈ fr) : GI cs bs k (M, fz) :=
  ⟨⟨h.mi.nd, h.mi.fd, hn, fun n hx => h.mi.sb n ((hm n).1 hx), h.mi.kk⟩, h.sound, fun m hx => (h.clos m hx).imp (hm m).2 id, h.logs⟩
theorem GI.popF {cs : List CoD} {bs : List BrD} {k : Nat} {M fr : List Int} {m : Int} {ps : List Int} (h : GI cs bs k (M, m :: fr)) (hp : paL cs m = some ps) : GI cs bs k (mkS (fdC cs) (M, fr) ps) := by
  refine GI.pop (m := m) (h.front ?_ fun x => by simp [or_comm]) hp
  have := h.mi.nr
  simp only [List.nodup_cons] at this
  exact List.nodup_append.2 ⟨this.2, by simp, fun a ha b hb e => by simp at hb; subst hb; subst e; exact this.1 ha⟩

/-! ### What is met, in the world -/

structure NR (w1 W : World) (M : List Int) (fv : Value) : Prop where
  ow : W.ownsRow w1.heap.size 3 1 fv M.length (ivs M)
  bl : Below w1.heap.size w1 W
section
variable {w1 W W' : World} {M : List Int} {fv : Value}
theorem NR.below (h : NR w1 W M fv) (hb : Below W.heap.size W W') : NR w1 W' M fv := ⟨own_belowG h.ow hb, h.bl.trans (hb.mono h.bl.size)⟩
theorem NR.push {fv' : Value} {n : Int} (h : NR w1 W M fv) (ho : W'.ownsRow w1.heap.size 3 1 fv' (M.length + 1) (ivs M ++ [.int .i64 n])) (hg : W.grownBy W' fv.ownBlock) : NR w1 W' (M ++ [n]) fv' :=
  ⟨by simpa [ivs] using ho, h.bl.grown hg h.bl.size (fun j hj => (h.ow.lt j hj).1)⟩
/-- A number of the row is changed. -/
theorem NR.set {g K : Nat} (h : NR w1 W M (.slice (some ⟨g, 0, none⟩) M.length K)) (hg : w1.heap.size ≤ g) (k : Nat) (b : Int) : NR w1 (W.setCell ⟨g, k, none⟩ (.int .i64 b)) (M.set k b) (.slice (some ⟨g, 0, none⟩) (M.set k b).length K) := by
  obtain ⟨s1, s2⟩ := h.ow.stored k (.int .i64 b)
  have e : (ivs M).set k (.int .i64 b) = ivs (M.set k b) := by simp [ivs, List.map_set]
  rw [e] at s1
  exact ⟨by simpa using s1, h.bl.setCell (p := ⟨g, k, none⟩) hg _⟩
theorem NR.cell {g K : Nat} (h : NR w1 W M (.slice (some ⟨g, 0, none⟩) M.length K)) {k : Nat} {a : Int} (hk : M[k]? = some a) : W.cell? ⟨g, k, none⟩ = some (.int .i64 a) ∧ W.frozen? ⟨g, k, none⟩ = false := by
  have c := h.ow.cells (g := g) rfl k (.int .i64 a) (by simp [ivs, hk])
  rw [adK, Nat.zero_add] at c
  exact ⟨c, own_fz h.ow k⟩
theorem nr_new (w : World) : NR w w [] (.slice none 0 0) := ⟨World.ownsRow_nil _ _ _ _, Below.refl _ _⟩
end
/-! ### Two numbers change places (tools/gen/genGcI.py) -/

structure BxSw (w1 : World) (gq n fvK : Nat) (N : List Int) (k : Nat) (a b : Int) (L : Nat → Bool) (W : World) : Prop where
  row : ∃ x y, NR w1 W ((N.set (k + 1) x).set k y) (.slice (some ⟨gq, 0, none⟩) n fvK) ∧ (L 15 = false → x = b) ∧ (L 15 = true → x = a) ∧ (L 17 = false → y = a) ∧ (L 17 = true → y = b)
  c1 : L 15 = true → L 9 = true ∧ L 13 = true
  c2 : L 17 = true → L 9 = true ∧ L 13 = true
  ln : N.length = n
  kl : k + 1 < n
section
variable {w1 : World} {gq n fvK : Nat} {N : List Int} {k : Nat} {a b : Int} {L : Nat → Bool} {W : World}
theorem BxSw.start (hn : N.length = n) (ha : N[k]? = some a) (hb : N[k + 1]? = some b) (h : NR w1 W N (.slice (some ⟨gq, 0, none⟩) n fvK)) : BxSw w1 gq n fvK N k a b (fun _ => false) W := by
  obtain ⟨h1, rfl⟩ := List.getElem?_eq_some_iff.1 ha
  obtain ⟨h2, rfl⟩ := List.getElem?_eq_some_iff.1 hb
  refine ⟨⟨_, _, ?_, fun _ => rfl, fun e => by (cases e), fun _ => rfl, fun e => by (cases e)⟩, fun e => by (cases e), fun e => by (cases e), hn, by omega⟩
  rw [List.set_getElem_self, List.set_getElem_self]
  exact h
theorem BxSw.step {i : Nat} (h : BxSw w1 gq n fvK N k a b L W) (h1 : 15 ≠ i) (h2 : 17 ≠ i) : BxSw w1 gq n fvK N k a b (fun j => if j = i then true else L j) W := by
  obtain ⟨x, y, hr, x1, x2, y1, y2⟩ := h.row
  refine ⟨⟨x, y, hr, ?_, ?_, ?_, ?_⟩, ?_, ?_, h.ln, h.kl⟩
  · rw [if_neg h1]; exact x1
  · rw [if_neg h1]; exact x2
  · rw [if_neg h2]; exact y1
  · rw [if_neg h2]; exact y2
  · rw [if_neg h1]
    intro e
    have e1 := h.c1 e
    exact ⟨by split <;> first | rfl | exact e1.1, by split <;> first | rfl | exact e1.2⟩
  · rw [if_neg h2]
    intro e
    have e1 := h.c2 e
    exact ⟨by split <;> first | rfl | exact e1.1, by split <;> first | rfl | exact e1.2⟩
theorem NR.cell' {g K : Nat} {M : List Int} (h : NR w1 W M (.slice (some ⟨g, 0, none⟩) n K)) (hl : M.length = n) {k : Nat} {a : Int} (hk : M[k]? = some a) : W.cell? ⟨g, k, none⟩ = some (.int .i64 a) ∧ W.frozen? ⟨g, k, none⟩ = false := by
  subst hl
  exact h.cell hk
theorem BxSw.ca (h : BxSw w1 gq n fvK N k a b L W) (hi : L 9 = false) : W.cell? ⟨gq, k, none⟩ = some (.int .i64 a) := by
  obtain ⟨x, y, hr, x1, x2, y1, y2⟩ := h.row
  have : L 17 = false := by
    cases hs : L 17 with
    | false => rfl
    | true => rw [(h.c2 hs).1] at hi; cases hi
  rw [y1 this] at hr
  have := h.kl
  have := h.ln
  exact (hr.cell' (by simpa using h.ln) (by rw [List.getElem?_set_self (by simp; omega)])).1
theorem BxSw.cb (h : BxSw w1 gq n fvK N k a b L W) (hi : L 13 = false) : W.cell? ⟨gq, k + 1, none⟩ = some (.int .i64 b) := by
  obtain ⟨x, y, hr, x1, x2, y1, y2⟩ := h.row
  have : L 15 = false := by
    cases hs : L 15 with
    | false => rfl
    | true => rw [(h.c1 hs).2] at hi; cases hi
  rw [x1 this] at hr
  have := h.kl
  have := h.ln
  exact (hr.cell' (by simpa using h.ln) (by rw [List.getElem?_set_ne (by omega), List.getElem?_set_self (by omega)])).1
theorem BxSw.anya (h : BxSw w1 gq n fvK N k a b L W) : ∃ v, W.cell? ⟨gq, k, none⟩ = some v ∧ W.frozen? ⟨gq, k, none⟩ = false := by
  obtain ⟨x, y, hr, -⟩ := h.row
  have := h.kl
  have := h.ln
  obtain ⟨h1, h2⟩ := hr.cell' (k := k) (a := y) (by simpa using h.ln) (by rw [List.getElem?_set_self (by simp; omega)])
  exact ⟨_, h1, h2⟩
theorem BxSw.anyb (h : BxSw w1 gq n fvK N k a b L W) : ∃ v, W.cell? ⟨gq, k + 1, none⟩ = some v ∧ W.frozen? ⟨gq, k + 1, none⟩ = false := by
  obtain ⟨x, y, hr, -⟩ := h.row
  have := h.kl
  have := h.ln
  obtain ⟨h1, h2⟩ := hr.cell' (k := k + 1) (a := x) (by simpa using h.ln) (by rw [List.getElem?_set_ne (by omega), List.getElem?_set_self (by omega)])
  exact ⟨_, h1, h2⟩
theorem NR.set' {g K : Nat} {M : List Int} (h : NR w1 W M (.slice (some ⟨g, 0, none⟩) n K)) (hl : M.length = n) (hg : w1.heap.size ≤ g) (k : Nat) (b : Int) : NR w1 (W.setCell ⟨g, k, none⟩ (.int .i64 b)) (M.set k b) (.slice (some ⟨g, 0, none⟩) n K) := by
  subst hl
  have := h.set hg k b
  rwa [List.length_set] at this
theorem BxSw.sto1 (h : BxSw w1 gq n fvK N k a b L W) (hg : w1.heap.size ≤ gq) (e9 : L 9 = true) (e13 : L 13 = true) : BxSw w1 gq n fvK N k a b (fun j => if j = 15 then true else L j) (W.setCell ⟨gq, k + 1, none⟩ (.int .i64 a)) := by
  obtain ⟨x, y, hr, x1, x2, y1, y2⟩ := h.row
  have hs := hr.set' (by simpa using h.ln) hg (k + 1) a
  rw [List.set_comm _ _ (by omega), List.set_set] at hs
  exact ⟨⟨a, y, hs, fun e => by simp at e, fun _ => rfl, by simpa using y1, by simpa using y2⟩, fun _ => by simp [e9, e13], by simpa using h.c2, h.ln, h.kl⟩
theorem BxSw.sto2 (h : BxSw w1 gq n fvK N k a b L W) (hg : w1.heap.size ≤ gq) (e9 : L 9 = true) (e13 : L 13 = true) : BxSw w1 gq n fvK N k a b (fun j => if j = 17 then true else L j) (W.setCell ⟨gq, k, none⟩ (.int .i64 b)) := by
  obtain ⟨x, y, hr, x1, x2, y1, y2⟩ := h.row
  have hs := hr.set' (by simpa using h.ln) hg k b
  rw [List.set_set] at hs
  exact ⟨⟨x, b, hs, by simpa using x1, by simpa using x2, fun e => by simp at e, fun _ => rfl⟩, by simpa using h.c1, fun _ => by simp [e9, e13], h.ln, h.kl⟩
end
def phSw (gq n fvK k : Nat) (a b : Int) : Nat → Value → World → Prop
  | 0, v, _ => v = (.slice (some ⟨gq, 0, none⟩) n fvK)
  | 1, v, _ => v = (.int .i64 ((k + 1 : Nat) : Int))
  | 2, v, _ => v = (.slice (some ⟨gq, 0, none⟩) n fvK)
  | 3, v, _ => v = (.int .i64 ((k + 1 : Nat) : Int))
  | 4, v, _ => v = (.int .i64 (k : Int))
  | 5, v, _ => v = (.slice (some ⟨gq, 0, none⟩) n fvK)
  | 6, v, _ => v = (.int .i64 ((k + 1 : Nat) : Int))
  | 7, v, _ => v = (.int .i64 (k : Int))
  | 8, v, _ => v = (.pointer (some ⟨gq, k, none⟩))
  | 9, v, _ => v = (.int .i64 a)
  | 10, v, _ => v = (.slice (some ⟨gq, 0, none⟩) n fvK)
  | 11, v, _ => v = (.int .i64 ((k + 1 : Nat) : Int))
  | 12, v, _ => v = (.pointer (some ⟨gq, (k + 1), none⟩))
  | 13, v, _ => v = (.int .i64 b)
  | 14, v, _ => v = (.pointer (some ⟨gq, (k + 1), none⟩))
  | 15, _, _ => True
  | 16, v, _ => v = (.pointer (some ⟨gq, k, none⟩))
  | 17, _, _ => True
  | _, _, _ => True
theorem phSw_stays {gq n fvK k : Nat} {a b : Int} (i : Nat) (v : Value) (w w' : World) (h : phSw gq n fvK k a b i v w) (_hg : w.grownBy w' (some gq)) : phSw gq n fvK k a b i v w' := by
  unfold phSw at h ⊢
  split at h
  all_goals first
    | exact h
    | trivial
set_option maxRecDepth 20000 in
set_option maxHeartbeats 1000000 in
theorem rneeded_any {up : Bool} (S : StD) (v1 v2 v3 : Value) (w : World) (hr : RdSt w v1 v2 v3 S) (hU : StU up S) :
    Calls Try.prog 12 #[.agg (S.fs v1 v2 v3)] w fun e w' => ∃ L v, e = .returned v ∧ SrtNeed S.cs S.bs L ∧ w'.ownsRow w.heap.size 3 1 v L.length (ivs L) ∧ Below w.heap.size w w' := by
  obtain ⟨a1, k1, e1, hcs⟩ := id hr.c
  subst e1
  obtain ⟨a2, k2, e2, hbs⟩ := id hr.b
  subst e2
  obtain ⟨a3, k3, e3, -⟩ := id hr.u
  subst e3
  have lc := hU.cl.1
  have lb := hU.bl.1
  have hco := hU.co
  have hbr := hU.br
  have cA := fun W (h : Below w.heap.size w W) n => at21_any S _ _ _ n W (hr.below h) lc
  have hp0 := sb_new w S (.slice a1 S.cs.length k1) (.slice a2 S.bs.length k2) (.slice a3 S.us.length k3)
  have hb0 := alloc_bR w (.cells (S.fs (.slice a1 S.cs.length k1) (.slice a2 S.bs.length k2) (.slice a3 S.us.length k3)) 26)
  clear hr hU
  obtain ⟨nc, nb, cs, bs, uu⟩ := S
  simp only [StD.fs] at *
  obtain ⟨i0, hin, hz0, hz1, hz2⟩ := info_parts Try.infoIntR
  go_enter Try.func12, Try.ntmps12
  go_upto_region 3 with fail
  generalize w.alloc (.cells #[.int .i64 nc, .int .i64 nb, .slice a1 cs.length k1, .slice a2 bs.length k2, .slice a3 uu.length k3] 26) = w1 at *
  have hz : w.heap.size ≤ w1.heap.size := hb0.size
  have hn0 := nr_new w1
  have hg0 : Hid (GI cs bs 0 ([], [])) := GI.start cs bs
  go_loopw [3, 4] (fun gv i wr => ∃ (k : Nat) (M : List Int), k ≤ bs.length ∧ i = .int .i64 (k : Int) ∧ Hid (GI cs bs k (M, M)) ∧ NR w1 wr M gv) (fun _ i _ => bs.length - (Go.RowKit.intOf i).toNat)
  case atStart => exact ⟨0, [], by omega, rfl, hg0, hn0⟩
  case round =>
    clear hn0 hg0
    obtain ⟨k, M, hk, rfl, hG, hM⟩ := hrel
    obtain ⟨x0, x1, x2, x3, x4⟩ := cellsSB (hp0.below hM.bl)
    by_cases hlt : k < bs.length
    · have hlt' : (k : Int) < (bs.length : Int) := by omega
      obtain ⟨g, off, lv, rfl, hg, ⟨-, -, c2⟩, r1⟩ := hbs k bs[k] (by simp [hlt])
      have hxk : bs[k]? = some bs[k] := by simp [hlt]
      have hbw := hb0.trans (hM.bl.mono hz)
      have hxu := hbr bs[k] (List.getElem_mem hlt)
      have hG2 : Hid (GI cs bs (k + 1) (mkS (fdC cs) (M, M) bs[k].lg)) := hG.out.log hxk
      obtain ⟨al, kl, e3⟩ := rdi_len r1
      rw [e3] at c2 r1
      generalize bs[k] = x at *
      clear hxk hbs hbr e3
      have hc2 : ∀ W, Below w.heap.size w W → W.cell? ⟨g, off + k * 3 + 2, none⟩ = some (.slice al x.lg.length kl) := fun W h => (h.cell (p := ⟨g, _, none⟩) hg).trans c2
      have hr1 : ∀ W, Below w.heap.size w W → RdI W (.slice al x.lg.length kl) x.lg := fun W h => r1.below h
      have hll : x.lg.length ≤ 17592186044416 := by have := hxu.2.1.1; omega
      clear c2 r1 hxu hlt
      go_upto_region 6 with fail
      clear x0 x1 x2 x3 x4 hbw
      have hS0 : Hid (mkS (fdC cs) (M, M) (x.lg.take 0) = (M, M)) := rfl
      have hML : ∀ i N, mkS (fdC cs) (M, M) (x.lg.take i) = (N, N) → N.length ≤ cs.length := fun i N e => by
        have h := (MI.all (x.lg.take i) hG.out.mi).len.1
        rw [e, List.length_map] at h
        exact h
      clear hG
      generalize wr = wa at *
      go_loopw [3, 5] (fun gv j wr => ∃ (i : Nat) (N : List Int), i ≤ x.lg.length ∧ j = .int .i64 (i : Int) ∧ Hid (mkS (fdC cs) (M, M) (x.lg.take i) = (N, N)) ∧ NR w1 wr N gv) (fun _ j _ => x.lg.length - (Go.RowKit.intOf j).toNat)
      case atStart => exact ⟨0, M, by omega, rfl, hS0, hM⟩
      case round =>
        clear hM hS0
        obtain ⟨i, N, hi, rfl, hS, hN⟩ := hrel
        have hbw := hb0.trans (hN.bl.mono hz)
        obtain ⟨x0, x1, x2, x3, x4⟩ := cellsSB (hp0.below hN.bl)
        have c2 := hc2 _ hbw
        obtain ⟨fvA, fvK, rfl⟩ := own_form hN.ow
        by_cases hlt : i < x.lg.length
        · have hlti : (i : Int) < (x.lg.length : Int) := by omega
          obtain ⟨al', kl', e, hcl⟩ := hr1 _ hbw
          cases e
          obtain ⟨b2, o2, rfl, hb2, c0⟩ := hcl i x.lg[i] (by simp [hlt])
          have eS : Hid (mkS (fdC cs) (M, M) (x.lg.take (i + 1)) = mk1 (fdC cs) (N, N) x.lg[i]) := by
            show _ = _
            rw [List.take_succ_eq_append_getElem hlt, mkS_snoc, hS.out]
          generalize x.lg[i] = n at *
          have hml : N.length ≤ 17592186044000 := by have := hML _ _ hS.out; omega
          clear hS hcl hr1 hc2 hG2 hML
          have cA1 := cA wr hbw n
          have cH1 := fun W (h : Below wr.heap.size wr W) => rhas21_any _ N n W (rdi_own (hN.below h).ow) (by omega)
          by_cases hf : fdC cs n = true
          · obtain ⟨q, hq⟩ : ∃ q : Nat, atC cs n = (q : Int) := ⟨(atC cs n).toNat, by have := (atC_some cs n).2 hf; omega⟩
            rw [hq] at cA1
            by_cases hm : n ∈ N
            · have e1 : mk1 (fdC cs) (N, N) n = (N, N) := by unfold mk1; exact if_neg fun h => h.2 hm
              rw [e1] at eS
              rw [decide_eq_true hm] at cH1
              clear hm e1 hf hq
              go_wp2_with fail
              refine cA1.mono ?_
              rintro e w4 ⟨rfl, hb4⟩
              clear cA1 c2 c0
              go_wp2_with fail
              refine (cH1 _ hb4).mono ?_
              rintro e w5 ⟨rfl, hb5⟩
              clear cH1
              have hN5 := (hN.below hb4).below hb5
              go_wp2_with fail
              exact ⟨⟨i + 1, N, by omega, by go_num, eS, hN5⟩, by simp [Go.RowKit.intOf]; omega⟩
            · have e1 : mk1 (fdC cs) (N, N) n = (N ++ [n], N ++ [n]) := by unfold mk1; exact if_pos ⟨hf, hm⟩
              rw [e1] at eS
              rw [decide_eq_false hm] at cH1
              clear hm e1 hf hq
              go_wp2_with fail
              refine cA1.mono ?_
              rintro e w4 ⟨rfl, hb4⟩
              clear cA1 c2 c0
              go_wp2_with fail
              refine (cH1 _ hb4).mono ?_
              rintro e w5 ⟨rfl, hb5⟩
              clear cH1
              have hN5 := (hN.below hb4).below hb5
              have hal := alloc_bR w5 (.cells #[.int .i64 n] 3)
              have hoE := (hN5.below hal)
              have hBl := hoE.bl.size
              clear hN hN5 hb4 hb5 hbw x0 x1 x2 x3 x4
              have hoW := hoE.ow
              go_wp2_with (at_builtin; refine wpList_append_own _ rfl (.tmp 49) (.tmp 51) 28 rfl w1.heap.size 3 i0 (.int .i64 0) 1 8 Try.underlying28 hin hz0 hz1 hz2 rfl (by decide) _ N.length _ rfl hoW ⟨_, 0, none⟩ 1 1 [.int .i64 n] rfl rfl (many_new _ _ _) (one_intR _) (by unfold maxLen; omega) (by omega) (by omega) ?_; intro v6 w6 ho6 hg6 _; obtain ⟨a6, k6, rfl⟩ := own_form ho6; have hD := hoE.push ho6 hg6)
              exact ⟨⟨i + 1, _, by omega, by go_num, eS, hD⟩, by simp [Go.RowKit.intOf]; omega⟩
          · have e1 : mk1 (fdC cs) (N, N) n = (N, N) := by unfold mk1; exact if_neg fun h => hf h.1
            rw [e1] at eS
            rw [atC_none (Bool.eq_false_iff.2 hf)] at cA1
            clear e1 hf cH1
            go_wp2_with fail
            refine cA1.mono ?_
            rintro e w4 ⟨rfl, hb4⟩
            clear cA1 c2 c0
            have hN5 := hN.below hb4
            go_wp2_with fail
            exact ⟨⟨i + 1, N, by omega, by go_num, eS, hN5⟩, by simp [Go.RowKit.intOf]; omega⟩
        · have hlti : ¬ (i : Int) < (x.lg.length : Int) := by omega
          have hG3 : Hid (GI cs bs (k + 1) (N, N)) := by
            have e := hS.out
            rw [List.take_of_length_le (by omega)] at e
            have h := hG2.out
            rw [e] at h
            exact h
          clear hS hG2 hc2 hr1 hML
          go_wp2_with fail
          exact ⟨⟨k + 1, N, by omega, by go_num, hG3, hN⟩, by simp [Go.RowKit.intOf]; omega⟩
    · have hlt' : ¬ (k : Int) < (bs.length : Int) := by omega
      have hG1 : Hid (GI cs bs bs.length (M, M.drop 0)) := by
        have h := hG.out
        rwa [show k = bs.length by omega] at h
      clear hG hbs hbr
      go_upto_region 12 with fail
      have hML : ∀ k N, GI cs bs bs.length (N, N.drop k) → N.length ≤ cs.length := fun k N h => by
        have := h.mi.len.1
        rwa [List.length_map] at this
      clear hk hlt hlt' x0 x1 x2 x3 x4
      generalize wr = wa at *
      go_loopw [3, 7] (fun gv i wr => ∃ (k : Nat) (M : List Int), k ≤ M.length ∧ i = .int .i64 (k : Int) ∧ Hid (GI cs bs bs.length (M, M.drop k)) ∧ NR w1 wr M gv) (fun _ i _ => cs.length - (Go.RowKit.intOf i).toNat)
      case atStart => exact ⟨0, M, by omega, rfl, hG1, hM⟩
      case round =>
        clear hM hG1
        obtain ⟨k, M, hk, rfl, hG, hM⟩ := hrel
        have hbw := hb0.trans (hM.bl.mono hz)
        obtain ⟨fvA, fvK, rfl⟩ := own_form hM.ow
        have hml := hML _ _ hG.out
        by_cases hlt : k < M.length
        · have hlt' : (k : Int) < (M.length : Int) := by omega
          obtain ⟨gq, rfl, hgB, hgl, hgf⟩ := own_block hM.ow (by omega)
          have c0 := hM.ow.cells (g := gq) rfl k (.int .i64 M[k]) (by simp [ivs])
          rw [adK, Nat.zero_add] at c0
          have hfd : fdC cs M[k] = true := hG.out.mi.fd _ (List.getElem_mem hlt)
          obtain ⟨ps, hps⟩ := Option.isSome_iff_exists.1 hfd
          obtain ⟨q, hq, hql, x, hx, hxn, hxp⟩ := atC_at cs _ ps hps
          have hG2 : Hid (GI cs bs bs.length (mkS (fdC cs) (M, M.drop (k + 1)) ps)) := by
            have h := hG.out
            rw [List.drop_eq_getElem_cons hlt] at h
            exact h.popF hps
          obtain ⟨g, off, p1, p2, p3, rfl, hg, ⟨-, c1, -⟩, r1, -⟩ := hcs q x hx
          have hpl : ps.length ≤ 17592186044416 := by have := (hco x (List.mem_of_getElem? hx)).2.2.2.1.1; rw [hxp] at this; omega
          rw [hxp] at r1
          obtain ⟨al, kl, e3⟩ := rdi_len r1
          subst e3
          have hr1 : ∀ W, Below w.heap.size w W → RdI W (.slice al ps.length kl) ps := fun W h => r1.below h
          have hql' : (q : Int) < (cs.length : Int) := by omega
          rw [← hbw.cell (p := ⟨g, _, none⟩) hg] at c1
          have hgw : g < wr.heap.size := Nat.lt_of_lt_of_le hg hbw.size
          have hgw0 : w.heap.size < wr.heap.size := Nat.lt_of_lt_of_le (heap_lt hp0) hM.bl.size
          obtain ⟨x0, x1, x2, x3, x4⟩ := cellsSB (hp0.below hM.bl)
          have b0 : ∀ s : Beh wr, s.it.cell? ⟨w.heap.size, 0, none⟩ = some (.int .i64 nc) := fun s => (s.h.cell (p := ⟨_, _, none⟩) hgw0).trans x0
          have b1 : ∀ s : Beh wr, s.it.cell? ⟨w.heap.size, 1, none⟩ = some (.int .i64 nb) := fun s => (s.h.cell (p := ⟨_, _, none⟩) hgw0).trans x1
          have b2 : ∀ s : Beh wr, s.it.cell? ⟨w.heap.size, 2, none⟩ = some (.slice (some ⟨g, off, none⟩) cs.length k1) := fun s => (s.h.cell (p := ⟨_, _, none⟩) hgw0).trans x2
          have b3 : ∀ s : Beh wr, s.it.cell? ⟨w.heap.size, 3, none⟩ = some (.slice a2 bs.length k2) := fun s => (s.h.cell (p := ⟨_, _, none⟩) hgw0).trans x3
          have b4 : ∀ s : Beh wr, s.it.cell? ⟨w.heap.size, 4, none⟩ = some (.slice a3 uu.length k3) := fun s => (s.h.cell (p := ⟨_, _, none⟩) hgw0).trans x4
          have b5 : ∀ s : Beh wr, s.it.cell? ⟨gq, k, none⟩ = some (.int .i64 M[k]) := fun s => (s.h.cell (p := ⟨_, _, none⟩) hgl).trans c0
          have b6 : ∀ s : Beh wr, s.it.cell? ⟨g, off + q * 6 + 1, none⟩ = some (.slice al ps.length kl) := fun s => (s.h.cell (p := ⟨_, _, none⟩) hgw).trans c1
          have cA1 := fun s : Beh wr => cA s.it (hbw.trans (s.h.mono hbw.size)) M[k]
          rw [hq] at cA1
          generalize M[k] = m at *
          have hmi : MI (fdC cs) (cs.map CoD.n) (M, M.drop (k + 1)) := ⟨hG.out.mi.nd, hG.out.mi.fd, hG.out.mi.nd.sublist (List.drop_sublist _ _), fun n hn => List.mem_of_mem_drop hn, hG.out.mi.kk⟩
          have hML2 : ∀ i N, mkS (fdC cs) (M, M.drop (k + 1)) (ps.take i) = (N, N.drop (k + 1)) → N.length ≤ cs.length ∧ k + 1 ≤ N.length := fun i N e => by
            have h := (MI.all (ps.take i) hmi).len.1
            have h2 := mkS_more (fdC cs) (ps.take i) (M, M.drop (k + 1))
            rw [e] at h h2
            rw [List.length_map] at h
            exact ⟨h, Nat.le_trans hlt h2⟩
          have hS0 : Hid (mkS (fdC cs) (M, M.drop (k + 1)) (ps.take 0) = (M, M.drop (k + 1))) := rfl
          have hkc : k < cs.length := by omega
          clear c1 r1 hx hxn hxp hps hfd hq hcs hco x0 x1 x2 x3 x4 hgf hG c0 hmi
          go_upto_region 14 with fail
          refine wp_region_beh (by kernel_rfl) (by kernel_rfl) ?_
          repeat (go_big_quiet_step ((go_at_call 26; exact Beh.call (cA1 _))))
          refine wpQuiet_nil ?_
          intro wq hw'
          have hwq := Beh.out hw'
          have hMq := hM.below hwq
          clear hw' b0 b1 b2 b3 b4 b5 b6 cA1 hM hbw hgl hgw hgw0 hg hlt' hlt hql hql'
          go_upto_region 16 with fail
          generalize wq = wb at *
          go_loopw [3, 9] (fun gv j wr => ∃ (i : Nat) (N : List Int), i ≤ ps.length ∧ j = .int .i64 (i : Int) ∧ Hid (mkS (fdC cs) (M, M.drop (k + 1)) (ps.take i) = (N, N.drop (k + 1))) ∧ NR w1 wr N gv) (fun _ j _ => ps.length - (Go.RowKit.intOf j).toNat)
          case atStart => exact ⟨0, M, by omega, rfl, hS0, hMq⟩
          case round =>
            clear hMq hS0
            obtain ⟨i, N, hi, rfl, hS, hN⟩ := hrel
            have hbw := hb0.trans (hN.bl.mono hz)
            obtain ⟨fvA, fvK, rfl⟩ := own_form hN.ow
            by_cases hlt : i < ps.length
            · have hlti : (i : Int) < (ps.length : Int) := by omega
              obtain ⟨al', kl', e, hcl⟩ := hr1 _ hbw
              cases e
              obtain ⟨c2, o2, rfl, hc2, c0⟩ := hcl i ps[i] (by simp [hlt])
              have eS : Hid (mkS (fdC cs) (M, M.drop (k + 1)) (ps.take (i + 1)) = mk1 (fdC cs) (N, N.drop (k + 1)) ps[i]) := by
                show _ = _
                rw [List.take_succ_eq_append_getElem hlt, mkS_snoc, hS.out]
              generalize ps[i] = n at *
              obtain ⟨hml, hkn⟩ := hML2 _ _ hS.out
              have hml2 : N.length ≤ 17592186044000 := by omega
              have hgw0 : w.heap.size < wr.heap.size := Nat.lt_of_lt_of_le (heap_lt hp0) hN.bl.size
              obtain ⟨x0, x1, x2, x3, x4⟩ := cellsSB (hp0.below hN.bl)
              have b0 : ∀ s : Beh wr, s.it.cell? ⟨w.heap.size, 0, none⟩ = some (.int .i64 nc) := fun s => (s.h.cell (p := ⟨_, _, none⟩) hgw0).trans x0
              have b1 : ∀ s : Beh wr, s.it.cell? ⟨w.heap.size, 1, none⟩ = some (.int .i64 nb) := fun s => (s.h.cell (p := ⟨_, _, none⟩) hgw0).trans x1
              have b2 : ∀ s : Beh wr, s.it.cell? ⟨w.heap.size, 2, none⟩ = some (.slice (some ⟨g, off, none⟩) cs.length k1) := fun s => (s.h.cell (p := ⟨_, _, none⟩) hgw0).trans x2
              have b3 : ∀ s : Beh wr, s.it.cell? ⟨w.heap.size, 3, none⟩ = some (.slice a2 bs.length k2) := fun s => (s.h.cell (p := ⟨_, _, none⟩) hgw0).trans x3
              have b4 : ∀ s : Beh wr, s.it.cell? ⟨w.heap.size, 4, none⟩ = some (.slice a3 uu.length k3) := fun s => (s.h.cell (p := ⟨_, _, none⟩) hgw0).trans x4
              have b5 : ∀ s : Beh wr, s.it.cell? ⟨c2, o2 + i, none⟩ = some (.int .i64 n) := fun s => (s.h.cell (p := ⟨_, _, none⟩) hc2).trans c0
              have cA1 := fun s : Beh wr => cA s.it (hbw.trans (s.h.mono hbw.size)) n
              have cH1 := fun s : Beh wr => rhas21_any _ N n s.it (rdi_own (hN.below s.h).ow) (by omega)
              clear hS hcl hr1 hG2 hML2 x0 x1 x2 x3 x4 c0 hML
              by_cases hf : fdC cs n = true
              · obtain ⟨q, hq⟩ : ∃ q : Nat, atC cs n = (q : Int) := ⟨(atC cs n).toNat, by have := (atC_some cs n).2 hf; omega⟩
                rw [hq] at cA1
                have hd1 : decide ((q : Int) ≥ 0) = true := decide_eq_true (by omega)
                have hd2 : decide ((0 : Int) ≤ (q : Int)) = true := decide_eq_true (by omega)
                by_cases hm : n ∈ N
                · have e1 : mk1 (fdC cs) (N, N.drop (k + 1)) n = (N, N.drop (k + 1)) := by unfold mk1; exact if_neg fun h => h.2 hm
                  rw [e1] at eS
                  rw [decide_eq_true hm] at cH1
                  clear hm e1 hf hq
                  go_upto_region 18 with fail
                  refine wp_region_beh (by kernel_rfl) (by kernel_rfl) ?_
                  repeat (go_big_quiet_step ((first | (go_at_call 26; exact Beh.call (cA1 _)) | (go_at_call 24; exact Beh.call (cH1 _)))))
                  refine wpQuiet_nil ?_
                  intro wq hw'
                  have hwq := Beh.out hw'
                  have hN5 := hN.below hwq
                  clear hw' b0 b1 b2 b3 b4 b5 cA1 cH1 hN hbw hd1 hd2
                  go_wp2_with fail
                  exact ⟨⟨i + 1, N, by omega, by go_num, eS, hN5⟩, by simp [Go.RowKit.intOf]; omega⟩
                · have e1 : mk1 (fdC cs) (N, N.drop (k + 1)) n = (N ++ [n], (N ++ [n]).drop (k + 1)) := by
                    rw [List.drop_append_of_le_length hkn]
                    unfold mk1
                    exact if_pos ⟨hf, hm⟩
                  rw [e1] at eS
                  rw [decide_eq_false hm] at cH1
                  clear hm e1 hf hq
                  go_upto_region 18 with fail
                  refine wp_region_beh (by kernel_rfl) (by kernel_rfl) ?_
                  repeat (go_big_quiet_step ((first | (go_at_call 26; exact Beh.call (cA1 _)) | (go_at_call 24; exact Beh.call (cH1 _)))))
                  refine wpQuiet_nil ?_
                  intro wq hw'
                  have hwq := Beh.out hw'
                  have hN5 := hN.below hwq
                  have c0 := b5 ⟨wq, hwq⟩
                  simp only at c0
                  have hal := alloc_bR wq (.cells #[.int .i64 n] 3)
                  have hoE := hN5.below hal
                  have hBl := hoE.bl.size
                  have hoW := hoE.ow
                  clear hw' b0 b1 b2 b3 b4 b5 cA1 cH1 hN hbw hd1 hd2 hN5
                  go_wp2_with (at_builtin; refine wpList_append_own _ rfl (.tmp 92) (.tmp 97) 28 rfl w1.heap.size 3 i0 (.int .i64 0) 1 8 Try.underlying28 hin hz0 hz1 hz2 rfl (by decide) _ N.length _ rfl hoW ⟨_, 0, none⟩ 1 1 [.int .i64 n] rfl rfl (many_new _ _ _) (one_intR _) (by unfold maxLen; omega) (by omega) (by omega) ?_; intro v6 w6 ho6 hg6 _; obtain ⟨a6, k6, rfl⟩ := own_form ho6; have hD := hoE.push ho6 hg6)
                  exact ⟨⟨i + 1, _, by omega, by go_num, eS, hD⟩, by simp [Go.RowKit.intOf]; omega⟩
              · have e1 : mk1 (fdC cs) (N, N.drop (k + 1)) n = (N, N.drop (k + 1)) := by unfold mk1; exact if_neg fun h => hf h.1
                rw [e1] at eS
                rw [atC_none (Bool.eq_false_iff.2 hf)] at cA1
                clear e1 hf cH1
                have hd1 : decide ((-1 : Int) ≥ 0) = false := rfl
                have hd2 : decide ((0 : Int) ≤ (-1 : Int)) = false := rfl
                go_upto_region 18 with fail
                refine wp_region_beh (by kernel_rfl) (by kernel_rfl) ?_
                repeat (go_big_quiet_step ((go_at_call 26; exact Beh.call (cA1 _))))
                refine wpQuiet_nil ?_
                intro wq hw'
                have hwq := Beh.out hw'
                have hN5 := hN.below hwq
                clear hw' b0 b1 b2 b3 b4 b5 cA1 hN hbw hd1 hd2
                go_wp2_with fail
                exact ⟨⟨i + 1, N, by omega, by go_num, eS, hN5⟩, by simp [Go.RowKit.intOf]; omega⟩
            · have hlti : ¬ (i : Int) < (ps.length : Int) := by omega
              obtain ⟨hml, hkn⟩ := hML2 _ _ hS.out
              have hG3 : Hid (GI cs bs bs.length (N, N.drop (k + 1))) := by
                have e := hS.out
                rw [List.take_of_length_le (by omega)] at e
                have h := hG2.out
                rw [e] at h
                exact h
              clear hS hG2 hr1 hML hML2
              go_wp2_with fail
              exact ⟨⟨k + 1, N, by omega, by go_num, hG3, hN⟩, by simp [Go.RowKit.intOf]; omega⟩
        · have hlt' : ¬ (k : Int) < (M.length : Int) := by omega
          have hIN : IsNeed cs bs M := by
            have h := hG.out
            rw [List.drop_of_length_le (by omega)] at h
            exact h.done (Nat.le_refl _)
          have hP0 : Hid (M.Perm M ∧ (M.take 0).Pairwise (· < ·)) := ⟨List.Perm.refl _, by simp⟩
          clear hG hML hcs hco cA hk hlt
          go_upto_region 21 with fail
          have hfin : ∀ N, N.Perm M ∧ (N.take M.length).Pairwise (· < ·) → SrtNeed cs bs N := fun N h => by
            have hl := h.1.length_eq
            have h2 := h.2
            rw [List.take_of_length_le (by omega)] at h2
            exact ⟨h2, fun n => (h.1.mem_iff).trans (hIN.iff n)⟩
          have hnd := hIN.nd
          have hml2 : M.length ≤ 17592186044000 := by omega
          clear hIN hml hlt' hp0 hbw
          generalize wr = wb at *
          obtain ⟨n, hn⟩ : ∃ n, n = M.length := ⟨_, rfl⟩
          have hM0 : Hid (M.length = n) := hn.symm
          rw [← hn] at hfin hml2
          rw [← hn]
          clear hn
          go_loopw [10] (fun i wr => ∃ (k : Nat) (N : List Int), k ≤ n ∧ i = .int .i64 (k : Int) ∧ Hid (N.length = n) ∧ Hid (N.Perm M ∧ (N.take k).Pairwise (· < ·)) ∧ NR w1 wr N (.slice fvA n fvK)) (fun i _ => n - (Go.RowKit.intOf i).toNat)
          case atStart => exact ⟨0, M, by omega, rfl, hM0, hP0, by have h := hM; rw [hM0.out] at h; exact h⟩
          case round =>
            clear hM hM0 hP0
            obtain ⟨i, N, hi, rfl, hNl, hP, hN⟩ := hrel
            by_cases hlt : i < n
            · have hlt' : (i : Int) < (n : Int) := by omega
              have hI0 : Hid (Ins M N i i) := Ins.start hP.out.1 hP.out.2 (by rw [hNl.out]; exact hlt)
              have how := hN.ow
              rw [hNl.out] at how
              obtain ⟨gq, rfl, hgB, -, -⟩ := own_block how (by omega)
              clear how hP
              go_upto_region 24 with fail
              have hN0 := hN
              clear hN
              generalize wr = wc at *
              go_loopw [11] (fun j wr => ∃ (k : Nat) (N : List Int), k ≤ i ∧ j = .int .i64 (k : Int) ∧ Hid (N.length = n) ∧ Hid (Ins M N i k) ∧ NR w1 wr N (.slice (some ⟨gq, 0, none⟩) n fvK)) (fun j _ => (Go.RowKit.intOf j).toNat)
              case atStart => exact ⟨i, N, by omega, rfl, hNl, hI0, hN0⟩
              case round =>
                clear hN0 hI0 hNl
                obtain ⟨k, N, hk, rfl, hNl, hI, hN⟩ := hrel
                have hgq : gq < wr.heap.size := (hN.ow.lt gq rfl).2
                have hdone : (∀ j a b, k = j + 1 → N[j]? = some a → N[k]? = some b → ¬ b < a) → Hid (N.Perm M ∧ (N.take (i + 1)).Pairwise (· < ·)) := fun h => hI.out.done hnd h
                rcases Nat.eq_zero_or_pos k with rfl | hkp
                · have hF := hdone (fun j a b e => by omega)
                  have hd1 : decide (((0 : Nat) : Int) > 0) = false := rfl
                  have hd2 : decide ((0 : Int) < ((0 : Nat) : Int)) = false := rfl
                  clear hdone hI
                  go_upto_region 24 with fail
                  refine wp_region_beh (by kernel_rfl) (by kernel_rfl) ?_
                  repeat (go_big_quiet_step (fail))
                  refine wpQuiet_nil ?_
                  intro wq hw'
                  have hwq := Beh.out hw'
                  have hNq := hN.below hwq
                  clear hw' hN hd1 hd2
                  go_wp2_with fail
                  exact ⟨⟨i + 1, N, by omega, by go_num, hNl, hF, hNq⟩, by simp [Go.RowKit.intOf]; omega⟩
                · obtain ⟨k, rfl⟩ : ∃ k', k = k' + 1 := ⟨k - 1, by omega⟩
                  have hnl := hNl.out
                  obtain ⟨a, ha⟩ : ∃ a, N[k]? = some a := ⟨N[k], by simp⟩
                  obtain ⟨b, hb⟩ : ∃ b, N[k + 1]? = some b := ⟨N[k + 1], by simp⟩
                  have hNe : NR w1 wr N (.slice (some ⟨gq, 0, none⟩) N.length fvK) := by rw [hnl]; exact hN
                  obtain ⟨ca, fa⟩ := hNe.cell ha
                  obtain ⟨cb, fb⟩ := hNe.cell hb
                  have b0 : ∀ s : Beh wr, s.it.cell? ⟨gq, k, none⟩ = some (.int .i64 a) := fun s => (s.h.cell (p := ⟨_, _, none⟩) hgq).trans ca
                  have b1 : ∀ s : Beh wr, s.it.cell? ⟨gq, k + 1, none⟩ = some (.int .i64 b) := fun s => (s.h.cell (p := ⟨_, _, none⟩) hgq).trans cb
                  have hwk : IntKind.i64.wrap (((k + 1 : Nat) : Int) - 1) = (k : Int) := by rw [show (((k + 1 : Nat) : Int) - 1) = (k : Int) by omega, IntKind.wrap_i64]; omega
                  have hjl : (k : Int) < (n : Int) := by omega
                  have hjl2 : (k : Int) + 1 < (n : Int) := by omega
                  have hd1 : decide (((k + 1 : Nat) : Int) > 0) = true := decide_eq_true (by omega)
                  have hd2 : decide ((0 : Int) < ((k + 1 : Nat) : Int)) = true := decide_eq_true (by omega)
                  have hd3 : decide ((0 : Int) < (k : Int) + 1) = true := decide_eq_true (by omega)
                  by_cases hba : b < a
                  · have hI2 : Hid (Ins M ((N.set (k + 1) a).set k b) i k) := hI.out.step ha hb hba
                    have hg2 : decide (b < a) = true := decide_eq_true hba
                    clear hdone hI
                    go_upto_region 24 with fail
                    refine wp_region_beh (by kernel_rfl) (by kernel_rfl) ?_
                    repeat (go_big_quiet_step (fail))
                    refine wpQuiet_nil ?_
                    intro wq hw'
                    have hwq := Beh.out hw'
                    have hNq := hNe.below hwq
                    clear hw' hN hNe hd1 hd2 hd3 b0 b1 hg2 ca cb fa fb
                    have hw4 : IntKind.i64.wrap (k : Int) = (k : Int) := by rw [IntKind.wrap_i64]; omega
                    have hNd := hNq.below (Below.refl wq.heap.size wq).drew
                    have hBx : BxSw w1 gq n fvK N k a b (fun _ => false) wq.drew := .start hnl ha hb (by have h := hNd; rw [hnl] at h; exact h)
                    clear hNq hNd
                    go_upto_region 26 with fail
                    refine mono.region_monoS (fun W W' => World.grownBy W W' (some gq)) (gb_reflT gq) (fun _ _ _ => gb_transT) (phSw gq n fvK k a b) (BxSw w1 gq n fvK N k a b) 139 [] [0, 1, 2, 3, 4, 5, 6, 7, 8, 9, 10, 11, 12, 13, 14, 15, 16, 17] (by kernel_rfl) rfl rfl (by kernel_rfl) [] (by kernel_rfl) (by simp) (phSw_stays) (hBx) (.cons ?_ (.cons ?_ (.cons ?_ (.cons ?_ (.cons ?_ (.cons ?_ (.cons ?_ (.cons ?_ (.cons ?_ (.cons ?_ (.cons ?_ (.cons ?_ (.cons ?_ (.cons ?_ (.cons ?_ (.cons ?_ (.cons ?_ (.cons ?_ (.nil))))))))))))))))))) ?_
                    · refine mono.dutyS_of rfl ?_
                      intro f W L hR hO hD hL hi hX K hK
                      have eL : mono.lit 139 f [] = ⟨#[f 0, f 1, f 2, f 3, f 4, f 5, f 6, f 7, f 8, f 9, f 10, f 11, f 12, f 13, f 14, f 15, f 16, f 17, f 18, f 19, f 20, f 21, f 22, f 23, f 24, f 25, f 26, f 27, f 28, f 29, f 30, f 31, f 32, f 33, f 34, f 35, f 36, f 37, f 38, f 39, f 40, f 41, f 42, f 43, f 44, f 45, f 46, f 47, f 48, f 49, f 50, f 51, f 52, f 53, f 54, f 55, f 56, f 57, f 58, f 59, f 60, f 61, f 62, f 63, f 64, f 65, f 66, f 67, f 68, f 69, f 70, f 71, f 72, f 73, f 74, f 75, f 76, f 77, f 78, f 79, f 80, f 81, f 82, f 83, f 84, f 85, f 86, f 87, f 88, f 89, f 90, f 91, f 92, f 93, f 94, f 95, f 96, f 97, f 98, f 99, f 100, f 101, f 102, f 103, f 104, f 105, f 106, f 107, f 108, f 109, f 110, f 111, f 112, f 113, f 114, f 115, f 116, f 117, f 118, f 119, f 120, f 121, f 122, f 123, f 124, f 125, f 126, f 127, f 128, f 129, f 130, f 131, f 132, f 133, f 134, f 135, f 136, f 137, f 138], []⟩ := rfl
                      replace hK : ∀ v W', (fun W W' => World.grownBy W W' (some gq)) W W' → phSw gq n fvK k a b 0 v W' → BxSw w1 gq n fvK N k a b (fun j => if j = 0 then true else L j) W' → K ((mono.lit 139 f []).put (some 122) v) W' := hK
                      rw [eL] at hK ⊢
                      simp only [Act.put, List.setIfInBounds_toArray, List.set_cons_succ, List.set_cons_zero] at hK
                      have o3 : f 3 = (.slice (some ⟨gq, 0, none⟩) n fvK) := hO 3 (by kernel_rfl)
                      rw [o3] at hK ⊢
                      go_simp
                      exact hK _ _ (gb_reflT gq _) rfl (hX.step (by decide) (by decide))
                    · refine mono.dutyS_of rfl ?_
                      intro f W L hR hO hD hL hi hX K hK
                      have eL : mono.lit 139 f [] = ⟨#[f 0, f 1, f 2, f 3, f 4, f 5, f 6, f 7, f 8, f 9, f 10, f 11, f 12, f 13, f 14, f 15, f 16, f 17, f 18, f 19, f 20, f 21, f 22, f 23, f 24, f 25, f 26, f 27, f 28, f 29, f 30, f 31, f 32, f 33, f 34, f 35, f 36, f 37, f 38, f 39, f 40, f 41, f 42, f 43, f 44, f 45, f 46, f 47, f 48, f 49, f 50, f 51, f 52, f 53, f 54, f 55, f 56, f 57, f 58, f 59, f 60, f 61, f 62, f 63, f 64, f 65, f 66, f 67, f 68, f 69, f 70, f 71, f 72, f 73, f 74, f 75, f 76, f 77, f 78, f 79, f 80, f 81, f 82, f 83, f 84, f 85, f 86, f 87, f 88, f 89, f 90, f 91, f 92, f 93, f 94, f 95, f 96, f 97, f 98, f 99, f 100, f 101, f 102, f 103, f 104, f 105, f 106, f 107, f 108, f 109, f 110, f 111, f 112, f 113, f 114, f 115, f 116, f 117, f 118, f 119, f 120, f 121, f 122, f 123, f 124, f 125, f 126, f 127, f 128, f 129, f 130, f 131, f 132, f 133, f 134, f 135, f 136, f 137, f 138], []⟩ := rfl
                      replace hK : ∀ v W', (fun W W' => World.grownBy W W' (some gq)) W W' → phSw gq n fvK k a b 1 v W' → BxSw w1 gq n fvK N k a b (fun j => if j = 1 then true else L j) W' → K ((mono.lit 139 f []).put (some 123) v) W' := hK
                      rw [eL] at hK ⊢
                      simp only [Act.put, List.setIfInBounds_toArray, List.set_cons_succ, List.set_cons_zero] at hK
                      have o11 : f 11 = (.int .i64 ((k + 1 : Nat) : Int)) := hO 11 (by kernel_rfl)
                      rw [o11] at hK ⊢
                      go_simp
                      exact hK _ _ (gb_reflT gq _) rfl (hX.step (by decide) (by decide))
                    · refine mono.dutyS_of rfl ?_
                      intro f W L hR hO hD hL hi hX K hK
                      have eL : mono.lit 139 f [] = ⟨#[f 0, f 1, f 2, f 3, f 4, f 5, f 6, f 7, f 8, f 9, f 10, f 11, f 12, f 13, f 14, f 15, f 16, f 17, f 18, f 19, f 20, f 21, f 22, f 23, f 24, f 25, f 26, f 27, f 28, f 29, f 30, f 31, f 32, f 33, f 34, f 35, f 36, f 37, f 38, f 39, f 40, f 41, f 42, f 43, f 44, f 45, f 46, f 47, f 48, f 49, f 50, f 51, f 52, f 53, f 54, f 55, f 56, f 57, f 58, f 59, f 60, f 61, f 62, f 63, f 64, f 65, f 66, f 67, f 68, f 69, f 70, f 71, f 72, f 73, f 74, f 75, f 76, f 77, f 78, f 79, f 80, f 81, f 82, f 83, f 84, f 85, f 86, f 87, f 88, f 89, f 90, f 91, f 92, f 93, f 94, f 95, f 96, f 97, f 98, f 99, f 100, f 101, f 102, f 103, f 104, f 105, f 106, f 107, f 108, f 109, f 110, f 111, f 112, f 113, f 114, f 115, f 116, f 117, f 118, f 119, f 120, f 121, f 122, f 123, f 124, f 125, f 126, f 127, f 128, f 129, f 130, f 131, f 132, f 133, f 134, f 135, f 136, f 137, f 138], []⟩ := rfl
                      replace hK : ∀ v W', (fun W W' => World.grownBy W W' (some gq)) W W' → phSw gq n fvK k a b 2 v W' → BxSw w1 gq n fvK N k a b (fun j => if j = 2 then true else L j) W' → K ((mono.lit 139 f []).put (some 124) v) W' := hK
                      rw [eL] at hK ⊢
                      simp only [Act.put, List.setIfInBounds_toArray, List.set_cons_succ, List.set_cons_zero] at hK
                      have o3 : f 3 = (.slice (some ⟨gq, 0, none⟩) n fvK) := hO 3 (by kernel_rfl)
                      rw [o3] at hK ⊢
                      go_simp
                      exact hK _ _ (gb_reflT gq _) rfl (hX.step (by decide) (by decide))
                    · refine mono.dutyS_of rfl ?_
                      intro f W L hR hO hD hL hi hX K hK
                      have eL : mono.lit 139 f [] = ⟨#[f 0, f 1, f 2, f 3, f 4, f 5, f 6, f 7, f 8, f 9, f 10, f 11, f 12, f 13, f 14, f 15, f 16, f 17, f 18, f 19, f 20, f 21, f 22, f 23, f 24, f 25, f 26, f 27, f 28, f 29, f 30, f 31, f 32, f 33, f 34, f 35, f 36, f 37, f 38, f 39, f 40, f 41, f 42, f 43, f 44, f 45, f 46, f 47, f 48, f 49, f 50, f 51, f 52, f 53, f 54, f 55, f 56, f 57, f 58, f 59, f 60, f 61, f 62, f 63, f 64, f 65, f 66, f 67, f 68, f 69, f 70, f 71, f 72, f 73, f 74, f 75, f 76, f 77, f 78, f 79, f 80, f 81, f 82, f 83, f 84, f 85, f 86, f 87, f 88, f 89, f 90, f 91, f 92, f 93, f 94, f 95, f 96, f 97, f 98, f 99, f 100, f 101, f 102, f 103, f 104, f 105, f 106, f 107, f 108, f 109, f 110, f 111, f 112, f 113, f 114, f 115, f 116, f 117, f 118, f 119, f 120, f 121, f 122, f 123, f 124, f 125, f 126, f 127, f 128, f 129, f 130, f 131, f 132, f 133, f 134, f 135, f 136, f 137, f 138], []⟩ := rfl
                      replace hK : ∀ v W', (fun W W' => World.grownBy W W' (some gq)) W W' → phSw gq n fvK k a b 3 v W' → BxSw w1 gq n fvK N k a b (fun j => if j = 3 then true else L j) W' → K ((mono.lit 139 f []).put (some 125) v) W' := hK
                      rw [eL] at hK ⊢
                      simp only [Act.put, List.setIfInBounds_toArray, List.set_cons_succ, List.set_cons_zero] at hK
                      have o11 : f 11 = (.int .i64 ((k + 1 : Nat) : Int)) := hO 11 (by kernel_rfl)
                      rw [o11] at hK ⊢
                      go_simp
                      exact hK _ _ (gb_reflT gq _) rfl (hX.step (by decide) (by decide))
                    · refine mono.dutyS_of rfl ?_
                      intro f W L hR hO hD hL hi hX K hK
                      have eL : mono.lit 139 f [] = ⟨#[f 0, f 1, f 2, f 3, f 4, f 5, f 6, f 7, f 8, f 9, f 10, f 11, f 12, f 13, f 14, f 15, f 16, f 17, f 18, f 19, f 20, f 21, f 22, f 23, f 24, f 25, f 26, f 27, f 28, f 29, f 30, f 31, f 32, f 33, f 34, f 35, f 36, f 37, f 38, f 39, f 40, f 41, f 42, f 43, f 44, f 45, f 46, f 47, f 48, f 49, f 50, f 51, f 52, f 53, f 54, f 55, f 56, f 57, f 58, f 59, f 60, f 61, f 62, f 63, f 64, f 65, f 66, f 67, f 68, f 69, f 70, f 71, f 72, f 73, f 74, f 75, f 76, f 77, f 78, f 79, f 80, f 81, f 82, f 83, f 84, f 85, f 86, f 87, f 88, f 89, f 90, f 91, f 92, f 93, f 94, f 95, f 96, f 97, f 98, f 99, f 100, f 101, f 102, f 103, f 104, f 105, f 106, f 107, f 108, f 109, f 110, f 111, f 112, f 113, f 114, f 115, f 116, f 117, f 118, f 119, f 120, f 121, f 122, f 123, f 124, f 125, f 126, f 127, f 128, f 129, f 130, f 131, f 132, f 133, f 134, f 135, f 136, f 137, f 138], []⟩ := rfl
                      replace hK : ∀ v W', (fun W W' => World.grownBy W W' (some gq)) W W' → phSw gq n fvK k a b 4 v W' → BxSw w1 gq n fvK N k a b (fun j => if j = 4 then true else L j) W' → K ((mono.lit 139 f []).put (some 126) v) W' := hK
                      rw [eL] at hK ⊢
                      simp only [Act.put, List.setIfInBounds_toArray, List.set_cons_succ, List.set_cons_zero] at hK
                      have q3 := hD 3 125 (by kernel_rfl) (by kernel_rfl)
                      replace q3 : f 125 = (.int .i64 ((k + 1 : Nat) : Int)) := q3
                      rw [q3] at hK ⊢
                      go_simp
                      exact hK _ _ (gb_reflT gq _) rfl (hX.step (by decide) (by decide))
                    · refine mono.dutyS_of rfl ?_
                      intro f W L hR hO hD hL hi hX K hK
                      have eL : mono.lit 139 f [] = ⟨#[f 0, f 1, f 2, f 3, f 4, f 5, f 6, f 7, f 8, f 9, f 10, f 11, f 12, f 13, f 14, f 15, f 16, f 17, f 18, f 19, f 20, f 21, f 22, f 23, f 24, f 25, f 26, f 27, f 28, f 29, f 30, f 31, f 32, f 33, f 34, f 35, f 36, f 37, f 38, f 39, f 40, f 41, f 42, f 43, f 44, f 45, f 46, f 47, f 48, f 49, f 50, f 51, f 52, f 53, f 54, f 55, f 56, f 57, f 58, f 59, f 60, f 61, f 62, f 63, f 64, f 65, f 66, f 67, f 68, f 69, f 70, f 71, f 72, f 73, f 74, f 75, f 76, f 77, f 78, f 79, f 80, f 81, f 82, f 83, f 84, f 85, f 86, f 87, f 88, f 89, f 90, f 91, f 92, f 93, f 94, f 95, f 96, f 97, f 98, f 99, f 100, f 101, f 102, f 103, f 104, f 105, f 106, f 107, f 108, f 109, f 110, f 111, f 112, f 113, f 114, f 115, f 116, f 117, f 118, f 119, f 120, f 121, f 122, f 123, f 124, f 125, f 126, f 127, f 128, f 129, f 130, f 131, f 132, f 133, f 134, f 135, f 136, f 137, f 138], []⟩ := rfl
                      replace hK : ∀ v W', (fun W W' => World.grownBy W W' (some gq)) W W' → phSw gq n fvK k a b 5 v W' → BxSw w1 gq n fvK N k a b (fun j => if j = 5 then true else L j) W' → K ((mono.lit 139 f []).put (some 127) v) W' := hK
                      rw [eL] at hK ⊢
                      simp only [Act.put, List.setIfInBounds_toArray, List.set_cons_succ, List.set_cons_zero] at hK
                      have o3 : f 3 = (.slice (some ⟨gq, 0, none⟩) n fvK) := hO 3 (by kernel_rfl)
                      rw [o3] at hK ⊢
                      go_simp
                      exact hK _ _ (gb_reflT gq _) rfl (hX.step (by decide) (by decide))
                    · refine mono.dutyS_of rfl ?_
                      intro f W L hR hO hD hL hi hX K hK
                      have eL : mono.lit 139 f [] = ⟨#[f 0, f 1, f 2, f 3, f 4, f 5, f 6, f 7, f 8, f 9, f 10, f 11, f 12, f 13, f 14, f 15, f 16, f 17, f 18, f 19, f 20, f 21, f 22, f 23, f 24, f 25, f 26, f 27, f 28, f 29, f 30, f 31, f 32, f 33, f 34, f 35, f 36, f 37, f 38, f 39, f 40, f 41, f 42, f 43, f 44, f 45, f 46, f 47, f 48, f 49, f 50, f 51, f 52, f 53, f 54, f 55, f 56, f 57, f 58, f 59, f 60, f 61, f 62, f 63, f 64, f 65, f 66, f 67, f 68, f 69, f 70, f 71, f 72, f 73, f 74, f 75, f 76, f 77, f 78, f 79, f 80, f 81, f 82, f 83, f 84, f 85, f 86, f 87, f 88, f 89, f 90, f 91, f 92, f 93, f 94, f 95, f 96, f 97, f 98, f 99, f 100, f 101, f 102, f 103, f 104, f 105, f 106, f 107, f 108, f 109, f 110, f 111, f 112, f 113, f 114, f 115, f 116, f 117, f 118, f 119, f 120, f 121, f 122, f 123, f 124, f 125, f 126, f 127, f 128, f 129, f 130, f 131, f 132, f 133, f 134, f 135, f 136, f 137, f 138], []⟩ := rfl
                      replace hK : ∀ v W', (fun W W' => World.grownBy W W' (some gq)) W W' → phSw gq n fvK k a b 6 v W' → BxSw w1 gq n fvK N k a b (fun j => if j = 6 then true else L j) W' → K ((mono.lit 139 f []).put (some 128) v) W' := hK
                      rw [eL] at hK ⊢
                      simp only [Act.put, List.setIfInBounds_toArray, List.set_cons_succ, List.set_cons_zero] at hK
                      have o11 : f 11 = (.int .i64 ((k + 1 : Nat) : Int)) := hO 11 (by kernel_rfl)
                      rw [o11] at hK ⊢
                      go_simp
                      exact hK _ _ (gb_reflT gq _) rfl (hX.step (by decide) (by decide))
                    · refine mono.dutyS_of rfl ?_
                      intro f W L hR hO hD hL hi hX K hK
                      have eL : mono.lit 139 f [] = ⟨#[f 0, f 1, f 2, f 3, f 4, f 5, f 6, f 7, f 8, f 9, f 10, f 11, f 12, f 13, f 14, f 15, f 16, f 17, f 18, f 19, f 20, f 21, f 22, f 23, f 24, f 25, f 26, f 27, f 28, f 29, f 30, f 31, f 32, f 33, f 34, f 35, f 36, f 37, f 38, f 39, f 40, f 41, f 42, f 43, f 44, f 45, f 46, f 47, f 48, f 49, f 50, f 51, f 52, f 53, f 54, f 55, f 56, f 57, f 58, f 59, f 60, f 61, f 62, f 63, f 64, f 65, f 66, f 67, f 68, f 69, f 70, f 71, f 72, f 73, f 74, f 75, f 76, f 77, f 78, f 79, f 80, f 81, f 82, f 83, f 84, f 85, f 86, f 87, f 88, f 89, f 90, f 91, f 92, f 93, f 94, f 95, f 96, f 97, f 98, f 99, f 100, f 101, f 102, f 103, f 104, f 105, f 106, f 107, f 108, f 109, f 110, f 111, f 112, f 113, f 114, f 115, f 116, f 117, f 118, f 119, f 120, f 121, f 122, f 123, f 124, f 125, f 126, f 127, f 128, f 129, f 130, f 131, f 132, f 133, f 134, f 135, f 136, f 137, f 138], []⟩ := rfl
                      replace hK : ∀ v W', (fun W W' => World.grownBy W W' (some gq)) W W' → phSw gq n fvK k a b 7 v W' → BxSw w1 gq n fvK N k a b (fun j => if j = 7 then true else L j) W' → K ((mono.lit 139 f []).put (some 129) v) W' := hK
                      rw [eL] at hK ⊢
                      simp only [Act.put, List.setIfInBounds_toArray, List.set_cons_succ, List.set_cons_zero] at hK
                      have q6 := hD 6 128 (by kernel_rfl) (by kernel_rfl)
                      replace q6 : f 128 = (.int .i64 ((k + 1 : Nat) : Int)) := q6
                      rw [q6] at hK ⊢
                      go_simp
                      exact hK _ _ (gb_reflT gq _) rfl (hX.step (by decide) (by decide))
                    · refine mono.dutyS_of rfl ?_
                      intro f W L hR hO hD hL hi hX K hK
                      have eL : mono.lit 139 f [] = ⟨#[f 0, f 1, f 2, f 3, f 4, f 5, f 6, f 7, f 8, f 9, f 10, f 11, f 12, f 13, f 14, f 15, f 16, f 17, f 18, f 19, f 20, f 21, f 22, f 23, f 24, f 25, f 26, f 27, f 28, f 29, f 30, f 31, f 32, f 33, f 34, f 35, f 36, f 37, f 38, f 39, f 40, f 41, f 42, f 43, f 44, f 45, f 46, f 47, f 48, f 49, f 50, f 51, f 52, f 53, f 54, f 55, f 56, f 57, f 58, f 59, f 60, f 61, f 62, f 63, f 64, f 65, f 66, f 67, f 68, f 69, f 70, f 71, f 72, f 73, f 74, f 75, f 76, f 77, f 78, f 79, f 80, f 81, f 82, f 83, f 84, f 85, f 86, f 87, f 88, f 89, f 90, f 91, f 92, f 93, f 94, f 95, f 96, f 97, f 98, f 99, f 100, f 101, f 102, f 103, f 104, f 105, f 106, f 107, f 108, f 109, f 110, f 111, f 112, f 113, f 114, f 115, f 116, f 117, f 118, f 119, f 120, f 121, f 122, f 123, f 124, f 125, f 126, f 127, f 128, f 129, f 130, f 131, f 132, f 133, f 134, f 135, f 136, f 137, f 138], []⟩ := rfl
                      replace hK : ∀ v W', (fun W W' => World.grownBy W W' (some gq)) W W' → phSw gq n fvK k a b 8 v W' → BxSw w1 gq n fvK N k a b (fun j => if j = 8 then true else L j) W' → K ((mono.lit 139 f []).put (some 130) v) W' := hK
                      rw [eL] at hK ⊢
                      simp only [Act.put, List.setIfInBounds_toArray, List.set_cons_succ, List.set_cons_zero] at hK
                      have q5 := hD 5 127 (by kernel_rfl) (by kernel_rfl)
                      replace q5 : f 127 = (.slice (some ⟨gq, 0, none⟩) n fvK) := q5
                      have q7 := hD 7 129 (by kernel_rfl) (by kernel_rfl)
                      replace q7 : f 129 = (.int .i64 (k : Int)) := q7
                      rw [q5, q7] at hK ⊢
                      go_simp
                      exact hK _ _ (gb_reflT gq _) rfl (hX.step (by decide) (by decide))
                    · refine mono.dutyS_of rfl ?_
                      intro f W L hR hO hD hL hi hX K hK
                      have eL : mono.lit 139 f [] = ⟨#[f 0, f 1, f 2, f 3, f 4, f 5, f 6, f 7, f 8, f 9, f 10, f 11, f 12, f 13, f 14, f 15, f 16, f 17, f 18, f 19, f 20, f 21, f 22, f 23, f 24, f 25, f 26, f 27, f 28, f 29, f 30, f 31, f 32, f 33, f 34, f 35, f 36, f 37, f 38, f 39, f 40, f 41, f 42, f 43, f 44, f 45, f 46, f 47, f 48, f 49, f 50, f 51, f 52, f 53, f 54, f 55, f 56, f 57, f 58, f 59, f 60, f 61, f 62, f 63, f 64, f 65, f 66, f 67, f 68, f 69, f 70, f 71, f 72, f 73, f 74, f 75, f 76, f 77, f 78, f 79, f 80, f 81, f 82, f 83, f 84, f 85, f 86, f 87, f 88, f 89, f 90, f 91, f 92, f 93, f 94, f 95, f 96, f 97, f 98, f 99, f 100, f 101, f 102, f 103, f 104, f 105, f 106, f 107, f 108, f 109, f 110, f 111, f 112, f 113, f 114, f 115, f 116, f 117, f 118, f 119, f 120, f 121, f 122, f 123, f 124, f 125, f 126, f 127, f 128, f 129, f 130, f 131, f 132, f 133, f 134, f 135, f 136, f 137, f 138], []⟩ := rfl
                      replace hK : ∀ v W', (fun W W' => World.grownBy W W' (some gq)) W W' → phSw gq n fvK k a b 9 v W' → BxSw w1 gq n fvK N k a b (fun j => if j = 9 then true else L j) W' → K ((mono.lit 139 f []).put (some 131) v) W' := hK
                      rw [eL] at hK ⊢
                      simp only [Act.put, List.setIfInBounds_toArray, List.set_cons_succ, List.set_cons_zero] at hK
                      have q8 := hD 8 130 (by kernel_rfl) (by kernel_rfl)
                      replace q8 : f 130 = (.pointer (some ⟨gq, k, none⟩)) := q8
                      rw [q8] at hK ⊢
                      have y0 := hX.ca hi
                      go_simp
                      exact hK _ _ (gb_reflT gq _) rfl (hX.step (by decide) (by decide))
                    · refine mono.dutyS_of rfl ?_
                      intro f W L hR hO hD hL hi hX K hK
                      have eL : mono.lit 139 f [] = ⟨#[f 0, f 1, f 2, f 3, f 4, f 5, f 6, f 7, f 8, f 9, f 10, f 11, f 12, f 13, f 14, f 15, f 16, f 17, f 18, f 19, f 20, f 21, f 22, f 23, f 24, f 25, f 26, f 27, f 28, f 29, f 30, f 31, f 32, f 33, f 34, f 35, f 36, f 37, f 38, f 39, f 40, f 41, f 42, f 43, f 44, f 45, f 46, f 47, f 48, f 49, f 50, f 51, f 52, f 53, f 54, f 55, f 56, f 57, f 58, f 59, f 60, f 61, f 62, f 63, f 64, f 65, f 66, f 67, f 68, f 69, f 70, f 71, f 72, f 73, f 74, f 75, f 76, f 77, f 78, f 79, f 80, f 81, f 82, f 83, f 84, f 85, f 86, f 87, f 88, f 89, f 90, f 91, f 92, f 93, f 94, f 95, f 96, f 97, f 98, f 99, f 100, f 101, f 102, f 103, f 104, f 105, f 106, f 107, f 108, f 109, f 110, f 111, f 112, f 113, f 114, f 115, f 116, f 117, f 118, f 119, f 120, f 121, f 122, f 123, f 124, f 125, f 126, f 127, f 128, f 129, f 130, f 131, f 132, f 133, f 134, f 135, f 136, f 137, f 138], []⟩ := rfl
                      replace hK : ∀ v W', (fun W W' => World.grownBy W W' (some gq)) W W' → phSw gq n fvK k a b 10 v W' → BxSw w1 gq n fvK N k a b (fun j => if j = 10 then true else L j) W' → K ((mono.lit 139 f []).put (some 132) v) W' := hK
                      rw [eL] at hK ⊢
                      simp only [Act.put, List.setIfInBounds_toArray, List.set_cons_succ, List.set_cons_zero] at hK
                      have o3 : f 3 = (.slice (some ⟨gq, 0, none⟩) n fvK) := hO 3 (by kernel_rfl)
                      rw [o3] at hK ⊢
                      go_simp
                      exact hK _ _ (gb_reflT gq _) rfl (hX.step (by decide) (by decide))
                    · refine mono.dutyS_of rfl ?_
                      intro f W L hR hO hD hL hi hX K hK
                      have eL : mono.lit 139 f [] = ⟨#[f 0, f 1, f 2, f 3, f 4, f 5, f 6, f 7, f 8, f 9, f 10, f 11, f 12, f 13, f 14, f 15, f 16, f 17, f 18, f 19, f 20, f 21, f 22, f 23, f 24, f 25, f 26, f 27, f 28, f 29, f 30, f 31, f 32, f 33, f 34, f 35, f 36, f 37, f 38, f 39, f 40, f 41, f 42, f 43, f 44, f 45, f 46, f 47, f 48, f 49, f 50, f 51, f 52, f 53, f 54, f 55, f 56, f 57, f 58, f 59, f 60, f 61, f 62, f 63, f 64, f 65, f 66, f 67, f 68, f 69, f 70, f 71, f 72, f 73, f 74, f 75, f 76, f 77, f 78, f 79, f 80, f 81, f 82, f 83, f 84, f 85, f 86, f 87, f 88, f 89, f 90, f 91, f 92, f 93, f 94, f 95, f 96, f 97, f 98, f 99, f 100, f 101, f 102, f 103, f 104, f 105, f 106, f 107, f 108, f 109, f 110, f 111, f 112, f 113, f 114, f 115, f 116, f 117, f 118, f 119, f 120, f 121, f 122, f 123, f 124, f 125, f 126, f 127, f 128, f 129, f 130, f 131, f 132, f 133, f 134, f 135, f 136, f 137, f 138], []⟩ := rfl
                      replace hK : ∀ v W', (fun W W' => World.grownBy W W' (some gq)) W W' → phSw gq n fvK k a b 11 v W' → BxSw w1 gq n fvK N k a b (fun j => if j = 11 then true else L j) W' → K ((mono.lit 139 f []).put (some 133) v) W' := hK
                      rw [eL] at hK ⊢
                      simp only [Act.put, List.setIfInBounds_toArray, List.set_cons_succ, List.set_cons_zero] at hK
                      have o11 : f 11 = (.int .i64 ((k + 1 : Nat) : Int)) := hO 11 (by kernel_rfl)
                      rw [o11] at hK ⊢
                      go_simp
                      exact hK _ _ (gb_reflT gq _) rfl (hX.step (by decide) (by decide))
                    · refine mono.dutyS_of rfl ?_
                      intro f W L hR hO hD hL hi hX K hK
                      have eL : mono.lit 139 f [] = ⟨#[f 0, f 1, f 2, f 3, f 4, f 5, f 6, f 7, f 8, f 9, f 10, f 11, f 12, f 13, f 14, f 15, f 16, f 17, f 18, f 19, f 20, f 21, f 22, f 23, f 24, f 25, f 26, f 27, f 28, f 29, f 30, f 31, f 32, f 33, f 34, f 35, f 36, f 37, f 38, f 39, f 40, f 41, f 42, f 43, f 44, f 45, f 46, f 47, f 48, f 49, f 50, f 51, f 52, f 53, f 54, f 55, f 56, f 57, f 58, f 59, f 60, f 61, f 62, f 63, f 64, f 65, f 66, f 67, f 68, f 69, f 70, f 71, f 72, f 73, f 74, f 75, f 76, f 77, f 78, f 79, f 80, f 81, f 82, f 83, f 84, f 85, f 86, f 87, f 88, f 89, f 90, f 91, f 92, f 93, f 94, f 95, f 96, f 97, f 98, f 99, f 100, f 101, f 102, f 103, f 104, f 105, f 106, f 107, f 108, f 109, f 110, f 111, f 112, f 113, f 114, f 115, f 116, f 117, f 118, f 119, f 120, f 121, f 122, f 123, f 124, f 125, f 126, f 127, f 128, f 129, f 130, f 131, f 132, f 133, f 134, f 135, f 136, f 137, f 138], []⟩ := rfl
                      replace hK : ∀ v W', (fun W W' => World.grownBy W W' (some gq)) W W' → phSw gq n fvK k a b 12 v W' → BxSw w1 gq n fvK N k a b (fun j => if j = 12 then true else L j) W' → K ((mono.lit 139 f []).put (some 134) v) W' := hK
                      rw [eL] at hK ⊢
                      simp only [Act.put, List.setIfInBounds_toArray, List.set_cons_succ, List.set_cons_zero] at hK
                      have q10 := hD 10 132 (by kernel_rfl) (by kernel_rfl)
                      replace q10 : f 132 = (.slice (some ⟨gq, 0, none⟩) n fvK) := q10
                      have q11 := hD 11 133 (by kernel_rfl) (by kernel_rfl)
                      replace q11 : f 133 = (.int .i64 ((k + 1 : Nat) : Int)) := q11
                      rw [q10, q11] at hK ⊢
                      go_simp
                      exact hK _ _ (gb_reflT gq _) rfl (hX.step (by decide) (by decide))
                    · refine mono.dutyS_of rfl ?_
                      intro f W L hR hO hD hL hi hX K hK
                      have eL : mono.lit 139 f [] = ⟨#[f 0, f 1, f 2, f 3, f 4, f 5, f 6, f 7, f 8, f 9, f 10, f 11, f 12, f 13, f 14, f 15, f 16, f 17, f 18, f 19, f 20, f 21, f 22, f 23, f 24, f 25, f 26, f 27, f 28, f 29, f 30, f 31, f 32, f 33, f 34, f 35, f 36, f 37, f 38, f 39, f 40, f 41, f 42, f 43, f 44, f 45, f 46, f 47, f 48, f 49, f 50, f 51, f 52, f 53, f 54, f 55, f 56, f 57, f 58, f 59, f 60, f 61, f 62, f 63, f 64, f 65, f 66, f 67, f 68, f 69, f 70, f 71, f 72, f 73, f 74, f 75, f 76, f 77, f 78, f 79, f 80, f 81, f 82, f 83, f 84, f 85, f 86, f 87, f 88, f 89, f 90, f 91, f 92, f 93, f 94, f 95, f 96, f 97, f 98, f 99, f 100, f 101, f 102, f 103, f 104, f 105, f 106, f 107, f 108, f 109, f 110, f 111, f 112, f 113, f 114, f 115, f 116, f 117, f 118, f 119, f 120, f 121, f 122, f 123, f 124, f 125, f 126, f 127, f 128, f 129, f 130, f 131, f 132, f 133, f 134, f 135, f 136, f 137, f 138], []⟩ := rfl
                      replace hK : ∀ v W', (fun W W' => World.grownBy W W' (some gq)) W W' → phSw gq n fvK k a b 13 v W' → BxSw w1 gq n fvK N k a b (fun j => if j = 13 then true else L j) W' → K ((mono.lit 139 f []).put (some 135) v) W' := hK
                      rw [eL] at hK ⊢
                      simp only [Act.put, List.setIfInBounds_toArray, List.set_cons_succ, List.set_cons_zero] at hK
                      have q12 := hD 12 134 (by kernel_rfl) (by kernel_rfl)
                      replace q12 : f 134 = (.pointer (some ⟨gq, (k + 1), none⟩)) := q12
                      rw [q12] at hK ⊢
                      have y1 := hX.cb hi
                      go_simp
                      exact hK _ _ (gb_reflT gq _) rfl (hX.step (by decide) (by decide))
                    · refine mono.dutyS_of rfl ?_
                      intro f W L hR hO hD hL hi hX K hK
                      have eL : mono.lit 139 f [] = ⟨#[f 0, f 1, f 2, f 3, f 4, f 5, f 6, f 7, f 8, f 9, f 10, f 11, f 12, f 13, f 14, f 15, f 16, f 17, f 18, f 19, f 20, f 21, f 22, f 23, f 24, f 25, f 26, f 27, f 28, f 29, f 30, f 31, f 32, f 33, f 34, f 35, f 36, f 37, f 38, f 39, f 40, f 41, f 42, f 43, f 44, f 45, f 46, f 47, f 48, f 49, f 50, f 51, f 52, f 53, f 54, f 55, f 56, f 57, f 58, f 59, f 60, f 61, f 62, f 63, f 64, f 65, f 66, f 67, f 68, f 69, f 70, f 71, f 72, f 73, f 74, f 75, f 76, f 77, f 78, f 79, f 80, f 81, f 82, f 83, f 84, f 85, f 86, f 87, f 88, f 89, f 90, f 91, f 92, f 93, f 94, f 95, f 96, f 97, f 98, f 99, f 100, f 101, f 102, f 103, f 104, f 105, f 106, f 107, f 108, f 109, f 110, f 111, f 112, f 113, f 114, f 115, f 116, f 117, f 118, f 119, f 120, f 121, f 122, f 123, f 124, f 125, f 126, f 127, f 128, f 129, f 130, f 131, f 132, f 133, f 134, f 135, f 136, f 137, f 138], []⟩ := rfl
                      replace hK : ∀ v W', (fun W W' => World.grownBy W W' (some gq)) W W' → phSw gq n fvK k a b 14 v W' → BxSw w1 gq n fvK N k a b (fun j => if j = 14 then true else L j) W' → K ((mono.lit 139 f []).put (some 136) v) W' := hK
                      rw [eL] at hK ⊢
                      simp only [Act.put, List.setIfInBounds_toArray, List.set_cons_succ, List.set_cons_zero] at hK
                      have q0 := hD 0 122 (by kernel_rfl) (by kernel_rfl)
                      replace q0 : f 122 = (.slice (some ⟨gq, 0, none⟩) n fvK) := q0
                      have q1 := hD 1 123 (by kernel_rfl) (by kernel_rfl)
                      replace q1 : f 123 = (.int .i64 ((k + 1 : Nat) : Int)) := q1
                      rw [q0, q1] at hK ⊢
                      go_simp
                      exact hK _ _ (gb_reflT gq _) rfl (hX.step (by decide) (by decide))
                    · refine mono.dutyS_of rfl ?_
                      intro f W L hR hO hD hL hi hX K hK
                      have eL : mono.lit 139 f [] = ⟨#[f 0, f 1, f 2, f 3, f 4, f 5, f 6, f 7, f 8, f 9, f 10, f 11, f 12, f 13, f 14, f 15, f 16, f 17, f 18, f 19, f 20, f 21, f 22, f 23, f 24, f 25, f 26, f 27, f 28, f 29, f 30, f 31, f 32, f 33, f 34, f 35, f 36, f 37, f 38, f 39, f 40, f 41, f 42, f 43, f 44, f 45, f 46, f 47, f 48, f 49, f 50, f 51, f 52, f 53, f 54, f 55, f 56, f 57, f 58, f 59, f 60, f 61, f 62, f 63, f 64, f 65, f 66, f 67, f 68, f 69, f 70, f 71, f 72, f 73, f 74, f 75, f 76, f 77, f 78, f 79, f 80, f 81, f 82, f 83, f 84, f 85, f 86, f 87, f 88, f 89, f 90, f 91, f 92, f 93, f 94, f 95, f 96, f 97, f 98, f 99, f 100, f 101, f 102, f 103, f 104, f 105, f 106, f 107, f 108, f 109, f 110, f 111, f 112, f 113, f 114, f 115, f 116, f 117, f 118, f 119, f 120, f 121, f 122, f 123, f 124, f 125, f 126, f 127, f 128, f 129, f 130, f 131, f 132, f 133, f 134, f 135, f 136, f 137, f 138], []⟩ := rfl
                      replace hK : ∀ v W', (fun W W' => World.grownBy W W' (some gq)) W W' → phSw gq n fvK k a b 15 v W' → BxSw w1 gq n fvK N k a b (fun j => if j = 15 then true else L j) W' → K ((mono.lit 139 f []).put none v) W' := hK
                      rw [eL] at hK ⊢
                      simp only [Act.put] at hK
                      have q14 := hD 14 136 (by kernel_rfl) (by kernel_rfl)
                      replace q14 : f 136 = (.pointer (some ⟨gq, (k + 1), none⟩)) := q14
                      have q9 := hD 9 131 (by kernel_rfl) (by kernel_rfl)
                      replace q9 : f 131 = (.int .i64 a) := q9
                      rw [q14, q9] at hK ⊢
                      obtain ⟨yv, yc, yf⟩ := hX.anyb
                      go_simp
                      exact hK undef _ (grown_set _ _ _ _) trivial (hX.sto1 hgB (hL 9 (by kernel_rfl)) (hL 13 (by kernel_rfl)))
                    · refine mono.dutyS_of rfl ?_
                      intro f W L hR hO hD hL hi hX K hK
                      have eL : mono.lit 139 f [] = ⟨#[f 0, f 1, f 2, f 3, f 4, f 5, f 6, f 7, f 8, f 9, f 10, f 11, f 12, f 13, f 14, f 15, f 16, f 17, f 18, f 19, f 20, f 21, f 22, f 23, f 24, f 25, f 26, f 27, f 28, f 29, f 30, f 31, f 32, f 33, f 34, f 35, f 36, f 37, f 38, f 39, f 40, f 41, f 42, f 43, f 44, f 45, f 46, f 47, f 48, f 49, f 50, f 51, f 52, f 53, f 54, f 55, f 56, f 57, f 58, f 59, f 60, f 61, f 62, f 63, f 64, f 65, f 66, f 67, f 68, f 69, f 70, f 71, f 72, f 73, f 74, f 75, f 76, f 77, f 78, f 79, f 80, f 81, f 82, f 83, f 84, f 85, f 86, f 87, f 88, f 89, f 90, f 91, f 92, f 93, f 94, f 95, f 96, f 97, f 98, f 99, f 100, f 101, f 102, f 103, f 104, f 105, f 106, f 107, f 108, f 109, f 110, f 111, f 112, f 113, f 114, f 115, f 116, f 117, f 118, f 119, f 120, f 121, f 122, f 123, f 124, f 125, f 126, f 127, f 128, f 129, f 130, f 131, f 132, f 133, f 134, f 135, f 136, f 137, f 138], []⟩ := rfl
                      replace hK : ∀ v W', (fun W W' => World.grownBy W W' (some gq)) W W' → phSw gq n fvK k a b 16 v W' → BxSw w1 gq n fvK N k a b (fun j => if j = 16 then true else L j) W' → K ((mono.lit 139 f []).put (some 137) v) W' := hK
                      rw [eL] at hK ⊢
                      simp only [Act.put, List.setIfInBounds_toArray, List.set_cons_succ, List.set_cons_zero] at hK
                      have q2 := hD 2 124 (by kernel_rfl) (by kernel_rfl)
                      replace q2 : f 124 = (.slice (some ⟨gq, 0, none⟩) n fvK) := q2
                      have q4 := hD 4 126 (by kernel_rfl) (by kernel_rfl)
                      replace q4 : f 126 = (.int .i64 (k : Int)) := q4
                      rw [q2, q4] at hK ⊢
                      go_simp
                      exact hK _ _ (gb_reflT gq _) rfl (hX.step (by decide) (by decide))
                    · refine mono.dutyS_of rfl ?_
                      intro f W L hR hO hD hL hi hX K hK
                      have eL : mono.lit 139 f [] = ⟨#[f 0, f 1, f 2, f 3, f 4, f 5, f 6, f 7, f 8, f 9, f 10, f 11, f 12, f 13, f 14, f 15, f 16, f 17, f 18, f 19, f 20, f 21, f 22, f 23, f 24, f 25, f 26, f 27, f 28, f 29, f 30, f 31, f 32, f 33, f 34, f 35, f 36, f 37, f 38, f 39, f 40, f 41, f 42, f 43, f 44, f 45, f 46, f 47, f 48, f 49, f 50, f 51, f 52, f 53, f 54, f 55, f 56, f 57, f 58, f 59, f 60, f 61, f 62, f 63, f 64, f 65, f 66, f 67, f 68, f 69, f 70, f 71, f 72, f 73, f 74, f 75, f 76, f 77, f 78, f 79, f 80, f 81, f 82, f 83, f 84, f 85, f 86, f 87, f 88, f 89, f 90, f 91, f 92, f 93, f 94, f 95, f 96, f 97, f 98, f 99, f 100, f 101, f 102, f 103, f 104, f 105, f 106, f 107, f 108, f 109, f 110, f 111, f 112, f 113, f 114, f 115, f 116, f 117, f 118, f 119, f 120, f 121, f 122, f 123, f 124, f 125, f 126, f 127, f 128, f 129, f 130, f 131, f 132, f 133, f 134, f 135, f 136, f 137, f 138], []⟩ := rfl
                      replace hK : ∀ v W', (fun W W' => World.grownBy W W' (some gq)) W W' → phSw gq n fvK k a b 17 v W' → BxSw w1 gq n fvK N k a b (fun j => if j = 17 then true else L j) W' → K ((mono.lit 139 f []).put none v) W' := hK
                      rw [eL] at hK ⊢
                      simp only [Act.put] at hK
                      have q16 := hD 16 137 (by kernel_rfl) (by kernel_rfl)
                      replace q16 : f 137 = (.pointer (some ⟨gq, k, none⟩)) := q16
                      have q13 := hD 13 135 (by kernel_rfl) (by kernel_rfl)
                      replace q13 : f 135 = (.int .i64 b) := q13
                      rw [q16, q13] at hK ⊢
                      obtain ⟨yv, yc, yf⟩ := hX.anya
                      go_simp
                      exact hK undef _ (grown_set _ _ _ _) trivial (hX.sto2 hgB (hL 9 (by kernel_rfl)) (hL 13 (by kernel_rfl)))
                    intro f W L hB hO hD hL hX
                    have r0 := hO 0 (by kernel_rfl)
                    have r1 := hO 1 (by kernel_rfl)
                    have r2 := hO 2 (by kernel_rfl)
                    have r3 := hO 3 (by kernel_rfl)
                    have r4 := hO 4 (by kernel_rfl)
                    have r5 := hO 5 (by kernel_rfl)
                    have r6 := hO 6 (by kernel_rfl)
                    have r7 := hO 7 (by kernel_rfl)
                    have r8 := hO 8 (by kernel_rfl)
                    have r9 := hO 9 (by kernel_rfl)
                    have r10 := hO 10 (by kernel_rfl)
                    have r11 := hO 11 (by kernel_rfl)
                    have r12 := hO 12 (by kernel_rfl)
                    have r13 := hO 13 (by kernel_rfl)
                    have r14 := hO 14 (by kernel_rfl)
                    have r15 := hO 15 (by kernel_rfl)
                    have r16 := hO 16 (by kernel_rfl)
                    have r17 := hO 17 (by kernel_rfl)
                    have r18 := hO 18 (by kernel_rfl)
                    have r19 := hO 19 (by kernel_rfl)
                    have r20 := hO 20 (by kernel_rfl)
                    have r21 := hO 21 (by kernel_rfl)
                    have r22 := hO 22 (by kernel_rfl)
                    have r23 := hO 23 (by kernel_rfl)
                    have r24 := hO 24 (by kernel_rfl)
                    have r25 := hO 25 (by kernel_rfl)
                    have r26 := hO 26 (by kernel_rfl)
                    have r27 := hO 27 (by kernel_rfl)
                    have r28 := hO 28 (by kernel_rfl)
                    have r29 := hO 29 (by kernel_rfl)
                    have r30 := hO 30 (by kernel_rfl)
                    have r31 := hO 31 (by kernel_rfl)
                    have r32 := hO 32 (by kernel_rfl)
                    have r33 := hO 33 (by kernel_rfl)
                    have r34 := hO 34 (by kernel_rfl)
                    have r35 := hO 35 (by kernel_rfl)
                    have r36 := hO 36 (by kernel_rfl)
                    have r37 := hO 37 (by kernel_rfl)
                    have r38 := hO 38 (by kernel_rfl)
                    have r39 := hO 39 (by kernel_rfl)
                    have r40 := hO 40 (by kernel_rfl)
                    have r41 := hO 41 (by kernel_rfl)
                    have r42 := hO 42 (by kernel_rfl)
                    have r43 := hO 43 (by kernel_rfl)
                    have r44 := hO 44 (by kernel_rfl)
                    have r45 := hO 45 (by kernel_rfl)
                    have r46 := hO 46 (by kernel_rfl)
                    have r47 := hO 47 (by kernel_rfl)
                    have r48 := hO 48 (by kernel_rfl)
                    have r49 := hO 49 (by kernel_rfl)
                    have r50 := hO 50 (by kernel_rfl)
                    have r51 := hO 51 (by kernel_rfl)
                    have r52 := hO 52 (by kernel_rfl)
                    have r53 := hO 53 (by kernel_rfl)
                    have r54 := hO 54 (by kernel_rfl)
                    have r55 := hO 55 (by kernel_rfl)
                    have r56 := hO 56 (by kernel_rfl)
                    have r57 := hO 57 (by kernel_rfl)
                    have r58 := hO 58 (by kernel_rfl)
                    have r59 := hO 59 (by kernel_rfl)
                    have r60 := hO 60 (by kernel_rfl)
                    have r61 := hO 61 (by kernel_rfl)
                    have r62 := hO 62 (by kernel_rfl)
                    have r63 := hO 63 (by kernel_rfl)
                    have r64 := hO 64 (by kernel_rfl)
                    have r65 := hO 65 (by kernel_rfl)
                    have r66 := hO 66 (by kernel_rfl)
                    have r67 := hO 67 (by kernel_rfl)
                    have r68 := hO 68 (by kernel_rfl)
                    have r69 := hO 69 (by kernel_rfl)
                    have r70 := hO 70 (by kernel_rfl)
                    have r71 := hO 71 (by kernel_rfl)
                    have r72 := hO 72 (by kernel_rfl)
                    have r73 := hO 73 (by kernel_rfl)
                    have r74 := hO 74 (by kernel_rfl)
                    have r75 := hO 75 (by kernel_rfl)
                    have r76 := hO 76 (by kernel_rfl)
                    have r77 := hO 77 (by kernel_rfl)
                    have r78 := hO 78 (by kernel_rfl)
                    have r79 := hO 79 (by kernel_rfl)
                    have r80 := hO 80 (by kernel_rfl)
                    have r81 := hO 81 (by kernel_rfl)
                    have r82 := hO 82 (by kernel_rfl)
                    have r83 := hO 83 (by kernel_rfl)
                    have r84 := hO 84 (by kernel_rfl)
                    have r85 := hO 85 (by kernel_rfl)
                    have r86 := hO 86 (by kernel_rfl)
                    have r87 := hO 87 (by kernel_rfl)
                    have r88 := hO 88 (by kernel_rfl)
                    have r89 := hO 89 (by kernel_rfl)
                    have r90 := hO 90 (by kernel_rfl)
                    have r91 := hO 91 (by kernel_rfl)
                    have r92 := hO 92 (by kernel_rfl)
                    have r93 := hO 93 (by kernel_rfl)
                    have r94 := hO 94 (by kernel_rfl)
                    have r95 := hO 95 (by kernel_rfl)
                    have r96 := hO 96 (by kernel_rfl)
                    have r97 := hO 97 (by kernel_rfl)
                    have r98 := hO 98 (by kernel_rfl)
                    have r99 := hO 99 (by kernel_rfl)
                    have r100 := hO 100 (by kernel_rfl)
                    have r101 := hO 101 (by kernel_rfl)
                    have r102 := hO 102 (by kernel_rfl)
                    have r103 := hO 103 (by kernel_rfl)
                    have r104 := hO 104 (by kernel_rfl)
                    have r105 := hO 105 (by kernel_rfl)
                    have r106 := hO 106 (by kernel_rfl)
                    have r107 := hO 107 (by kernel_rfl)
                    have r108 := hO 108 (by kernel_rfl)
                    have r109 := hO 109 (by kernel_rfl)
                    have r110 := hO 110 (by kernel_rfl)
                    have r111 := hO 111 (by kernel_rfl)
                    have r112 := hO 112 (by kernel_rfl)
                    have r113 := hO 113 (by kernel_rfl)
                    have r114 := hO 114 (by kernel_rfl)
                    have r115 := hO 115 (by kernel_rfl)
                    have r116 := hO 116 (by kernel_rfl)
                    have r117 := hO 117 (by kernel_rfl)
                    have r118 := hO 118 (by kernel_rfl)
                    have r119 := hO 119 (by kernel_rfl)
                    have r120 := hO 120 (by kernel_rfl)
                    have r121 := hO 121 (by kernel_rfl)
                    have r122 := hD 0 122 (by kernel_rfl)
                    replace r122 : f 122 = (.slice (some ⟨gq, 0, none⟩) n fvK) := r122
                    have r123 := hD 1 123 (by kernel_rfl)
                    replace r123 : f 123 = (.int .i64 ((k + 1 : Nat) : Int)) := r123
                    have r124 := hD 2 124 (by kernel_rfl)
                    replace r124 : f 124 = (.slice (some ⟨gq, 0, none⟩) n fvK) := r124
                    have r125 := hD 3 125 (by kernel_rfl)
                    replace r125 : f 125 = (.int .i64 ((k + 1 : Nat) : Int)) := r125
                    have r126 := hD 4 126 (by kernel_rfl)
                    replace r126 : f 126 = (.int .i64 (k : Int)) := r126
                    have r127 := hD 5 127 (by kernel_rfl)
                    replace r127 : f 127 = (.slice (some ⟨gq, 0, none⟩) n fvK) := r127
                    have r128 := hD 6 128 (by kernel_rfl)
                    replace r128 : f 128 = (.int .i64 ((k + 1 : Nat) : Int)) := r128
                    have r129 := hD 7 129 (by kernel_rfl)
                    replace r129 : f 129 = (.int .i64 (k : Int)) := r129
                    have r130 := hD 8 130 (by kernel_rfl)
                    replace r130 : f 130 = (.pointer (some ⟨gq, k, none⟩)) := r130
                    have r131 := hD 9 131 (by kernel_rfl)
                    replace r131 : f 131 = (.int .i64 a) := r131
                    have r132 := hD 10 132 (by kernel_rfl)
                    replace r132 : f 132 = (.slice (some ⟨gq, 0, none⟩) n fvK) := r132
                    have r133 := hD 11 133 (by kernel_rfl)
                    replace r133 : f 133 = (.int .i64 ((k + 1 : Nat) : Int)) := r133
                    have r134 := hD 12 134 (by kernel_rfl)
                    replace r134 : f 134 = (.pointer (some ⟨gq, (k + 1), none⟩)) := r134
                    have r135 := hD 13 135 (by kernel_rfl)
                    replace r135 : f 135 = (.int .i64 b) := r135
                    have r136 := hD 14 136 (by kernel_rfl)
                    replace r136 : f 136 = (.pointer (some ⟨gq, (k + 1), none⟩)) := r136
                    have r137 := hD 16 137 (by kernel_rfl)
                    replace r137 : f 137 = (.pointer (some ⟨gq, k, none⟩)) := r137
                    have r138 := hO 138 (by kernel_rfl)
                    have eL : mono.lit 139 f [] = ⟨#[f 0, f 1, f 2, f 3, f 4, f 5, f 6, f 7, f 8, f 9, f 10, f 11, f 12, f 13, f 14, f 15, f 16, f 17, f 18, f 19, f 20, f 21, f 22, f 23, f 24, f 25, f 26, f 27, f 28, f 29, f 30, f 31, f 32, f 33, f 34, f 35, f 36, f 37, f 38, f 39, f 40, f 41, f 42, f 43, f 44, f 45, f 46, f 47, f 48, f 49, f 50, f 51, f 52, f 53, f 54, f 55, f 56, f 57, f 58, f 59, f 60, f 61, f 62, f 63, f 64, f 65, f 66, f 67, f 68, f 69, f 70, f 71, f 72, f 73, f 74, f 75, f 76, f 77, f 78, f 79, f 80, f 81, f 82, f 83, f 84, f 85, f 86, f 87, f 88, f 89, f 90, f 91, f 92, f 93, f 94, f 95, f 96, f 97, f 98, f 99, f 100, f 101, f 102, f 103, f 104, f 105, f 106, f 107, f 108, f 109, f 110, f 111, f 112, f 113, f 114, f 115, f 116, f 117, f 118, f 119, f 120, f 121, f 122, f 123, f 124, f 125, f 126, f 127, f 128, f 129, f 130, f 131, f 132, f 133, f 134, f 135, f 136, f 137, f 138], []⟩ := rfl
                    rw [eL, r0, r1, r2, r3, r4, r5, r6, r7, r8, r9, r10, r11, r12, r13, r14, r15, r16, r17, r18, r19, r20, r21, r22, r23, r24, r25, r26, r27, r28, r29, r30, r31, r32, r33, r34, r35, r36, r37, r38, r39, r40, r41, r42, r43, r44, r45, r46, r47, r48, r49, r50, r51, r52, r53, r54, r55, r56, r57, r58, r59, r60, r61, r62, r63, r64, r65, r66, r67, r68, r69, r70, r71, r72, r73, r74, r75, r76, r77, r78, r79, r80, r81, r82, r83, r84, r85, r86, r87, r88, r89, r90, r91, r92, r93, r94, r95, r96, r97, r98, r99, r100, r101, r102, r103, r104, r105, r106, r107, r108, r109, r110, r111, r112, r113, r114, r115, r116, r117, r118, r119, r120, r121, r122, r123, r124, r125, r126, r127, r128, r129, r130, r131, r132, r133, r134, r135, r136, r137, r138]
                    obtain ⟨x, y, hr, -, x2, -, y2⟩ := hX.row
                    rw [x2 (hL 15 (by decide)), y2 (hL 17 (by decide))] at hr
                    have hl2 : Hid (((N.set (k + 1) a).set k b).length = n) := by show _ = _; simpa using hnl
                    clear hX hL hB ha hb hBx hO hD
                    go_wp2_with fail
                    exact ⟨⟨k, by omega, by go_num, (N.set (k + 1) a).set k b, hl2, hI2, hr⟩, by simp [Go.RowKit.intOf]; omega⟩
                  · have hF := hdone (fun j a' b' e h1 h2 => by
                      have : j = k := by omega
                      subst this
                      rw [ha] at h1
                      rw [hb] at h2
                      cases h1
                      cases h2
                      exact hba)
                    have hg2 : decide (b < a) = false := decide_eq_false hba
                    clear hdone hI
                    go_upto_region 24 with fail
                    refine wp_region_beh (by kernel_rfl) (by kernel_rfl) ?_
                    repeat (go_big_quiet_step (fail))
                    refine wpQuiet_nil ?_
                    intro wq hw'
                    have hwq := Beh.out hw'
                    have hNq := hN.below hwq
                    clear hw' hN hNe hd1 hd2 hd3 b0 b1 hg2 ca cb fa fb
                    go_wp2_with fail
                    exact ⟨⟨i + 1, N, by omega, by go_num, hNl, hF, hNq⟩, by simp [Go.RowKit.intOf]; omega⟩
            · have hlt' : ¬ (i : Int) < (n : Int) := by omega
              have hS := hfin N (by have h := hP.out; rwa [show i = n by omega] at h)
              have hO : wr.ownsRow w.heap.size 3 1 (.slice fvA n fvK) N.length (ivs N) := own_lower hN.ow hz
              have hB := hb0.trans (hN.bl.mono hz)
              clear hP hfin hnd hNl
              go_wp2_with fail
              go_ret
              exact ⟨N, _, rfl, hS, hO, hB⟩
end Go.Proofs.Ythhdpabelcgfjaa
