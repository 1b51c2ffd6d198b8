/-
  base, content, sameTexts.
-/
import Derived.Test.YtblhmfkohbdmeaaWLawC
namespace Go.Proofs.Ytblhmfkohbdmeaa
open Go.RowKit Go.Maps

/-- What is behind a Commit on zeros, if it may be. -/
def based (l : List WrD) : Nat → Sec := if apartE 23 l = 0 then put l (fun _ => zeroS) else fun _ => zeroS

set_option maxRecDepth 20000 in
set_option maxHeartbeats 4000000 in
theorem base_any {w : World} {v : Value} {l : List WrD} (hv : RdWr w v l) (hl : l.length ≤ maxLen) (ho : ∀ o ∈ l, o.Ok) :
    Calls Try.prog 30 #[v] w fun e w' => ∃ p bs bw s, e = .returned (.tuple #[.pointer (some ⟨p, 0, none⟩), .bool (apartE 23 l == 0)]) ∧ ND w w' p bs bw s ∧ Clean 23 (based l) s ∧ s.keys = [] ∧ s.fuse = -1 := by
  have cN : Calls Try.prog 10 #[.int .i64 48] w _ := ndev_any w w (Below.refl _ _) 48 (by decide) (by decide)
  have hvb : ∀ W, Below w.heap.size w W → RdWr W v l := fun W h => hv.below h rfl
  go_enter Try.func30, Try.ntmps30
  go_wp2_with fail
  refine cN.mono ?_
  rintro e w1 ⟨p, bs, bw, rfl, hD1⟩
  clear cN
  have cW := nnew_any hD1 (newS_newE 48 (by decide))
  clear hD1
  go_wp2_with fail
  refine cW.mono ?_
  rintro e w2 ⟨r, rfl, hJ2⟩
  clear cW
  have cS : Calls Try.prog 18 #[.pointer (some ⟨r, 0, none⟩)] w2 fun e w' => e = .returned (.int .i64 23) ∧ NJ w w' r p bs bw (newS 48) := nsize_any (N := 23) hJ2 rfl rfl
  clear hJ2
  go_wp2_with fail
  refine cS.mono ?_
  rintro e w3 ⟨rfl, hJ3⟩
  clear cS
  have cG : Calls Try.prog 27 #[v, .int .i64 23] w3 fun e w' => e = .returned (.int .i64 (apartE 23 l)) ∧ Below w3.heap.size w3 w' := wrong_any 23 (by decide) (hvb _ hJ3.b) hl ho
  go_wp2_with fail
  refine cG.mono ?_
  rintro e w4 ⟨rfl, hb4⟩
  have hJ4 := hJ3.below hb4
  clear cG hJ3 hb4
  by_cases hE : apartE 23 l = 0
  · have hb0 : (apartE 23 l != 0) = false := by simpa using hE
    have hb1 : Hid ((apartE 23 l == 0) = true) := by show (apartE 23 l == 0) = true; simpa using hE
    have hbz : Hid (based l = put l (fun _ => zeroS)) := if_pos hE
    have cC := ncommit_inf (N := 23) hJ4 rfl rfl rfl rfl (hvb _ hJ4.b) hl ho hE
    clear hJ4 hE hvb hv ho
    generalize apartE 23 l = er at hb0 ⊢
    go_wp2_with fail
    refine cC.mono ?_
    rintro e w5 ⟨s5, rfl, hJ5, hC5, hk5, hf5⟩
    clear cC
    go_wp2_with fail
    go_ret2
    exact ⟨p, bs, bw, s5, by rw [hb1.out]; rfl, hJ5.toND, by rw [hbz.out]; exact hC5, hk5, hf5⟩
  · have hb0 : (apartE 23 l != 0) = true := by simpa using hE
    have hb1 : Hid ((apartE 23 l == 0) = false) := by show (apartE 23 l == 0) = false; simpa using hE
    have hbz : Hid (based l = fun _ => zeroS) := if_neg hE
    clear hE hvb hv ho
    generalize apartE 23 l = er at hb0 ⊢
    go_wp2_with fail
    go_ret2
    exact ⟨p, bs, bw, newS 48, by rw [hb1.out]; rfl, hJ4.toND, by rw [hbz.out]; exact newS_clean 23, newS_keys 48, rfl⟩

/-! ### A journal on a device that was there -/
theorem only_new {S : List Nat} {W0 W W' : World} {r : Nat} (h : Only S W0 W) (k : Only (r :: S) W W') (hr : W0.heap.size ≤ r) : Only S W0 W' :=
  ⟨k.os.trans h.os, k.tape.trans h.tape, k.output.trans h.output, Nat.le_trans h.size k.size, fun i hi hn => (k.block i (Nat.lt_of_lt_of_le hi h.size) (by simp; exact ⟨by omega, hn⟩)).trans (h.block i hi hn)⟩

structure OJ (W0 W : World) (r p bs bw : Nat) (s : DevS) : Prop where
  wal : IsWal W r p s.age false
  dev : IsDev W p bs bw s
  o : Only [p, bs, bw] W0 W
  lr : W0.heap.size ≤ r

/-- The blocks from B on. -/
def fromB (B n : Nat) : List Nat := (List.range n).filter fun k => decide (B ≤ k)
theorem only_from {B : Nat} {W W' : World} (h : Below B W W') : Only (fromB B W.heap.size) W W' :=
  ⟨h.os, h.tape, h.output, h.size, fun k hk hn => h.block k (by
    apply Classical.byContradiction
    intro hB
    exact hn (by simp [fromB, hk]; omega))⟩
theorem not_from {B n k : Nat} (h : k < B) : k ∉ fromB B n := by
  simp [fromB]
  omega

section
variable {W0 W W' : World} {r p bs bw N : Nat} {s s' : DevS} {x : Nat → Sec}
theorem OJ.from {B : Nat} (h : OJ W0 W r p bs bw s) (hb : Below B W W') (h0 : W0.heap.size ≤ B) (h1 : r < B) (h2 : p < B) (h3 : bs < B) (h4 : bw < B) : OJ W0 W' r p bs bw s :=
  ⟨h.wal.kept (only_from hb) (not_from h1), h.dev.kept (only_from hb) (not_from h2) (not_from h3) (not_from h4),
   ⟨hb.os.trans h.o.os, hb.tape.trans h.o.tape, hb.output.trans h.o.output, Nat.le_trans h.o.size hb.size, fun k hk hn => (hb.block k (by omega)).trans (h.o.block k hk hn)⟩, h.lr⟩
theorem OJ.below (h : OJ W0 W r p bs bw s) (hb : Below W.heap.size W W') : OJ W0 W' r p bs bw s := ⟨h.wal.below hb, h.dev.below hb, h.o.trans (Only.of_below hb), h.lr⟩
theorem OJ.only (h : OJ W0 W r p bs bw s) (hw : IsWal W' r p s'.age false) (hd : IsDev W' p bs bw s') (ho : Only [r, p, bs, bw] W W') : OJ W0 W' r p bs bw s' := ⟨hw, hd, only_new h.o ho h.lr, h.lr⟩
theorem osize_any (h : OJ W0 W r p bs bw s) (hu : s.up = true) (hn : s.n = N + 25) : Calls Try.prog 18 #[.pointer (some ⟨r, 0, none⟩)] W fun e w' => e = .returned (.int .i64 (N : Int)) ∧ OJ W0 w' r p bs bw s ∧ Only [r] W w' :=
  (size_any h.wal h.dev).mono fun e w' ⟨h1, h2, h3, h4⟩ => by
    rw [rdy_true hu] at h2
    rw [show (s.n : Int) - 25 = (N : Int) by omega] at h1
    exact ⟨h1, h.only h2 h3 (h4.mono (by simp)), h4⟩
theorem oread_any (h : OJ W0 W r p bs bw s) (hu : s.up = true) (hn : s.n = N + 25) (i : Nat) (hi : i < N) : Calls Try.prog 21 #[.pointer (some ⟨r, 0, none⟩), .int .i64 (i : Int)] W fun e w' => e = .returned (.tuple #[.string (mk (s.readAt i)), .int .i64 0]) ∧ OJ W0 w' r p bs bw s ∧ Only [r, p, bs, bw] W w' :=
  (wread_ok h.wal h.dev i (rdy_true hu) (by omega)).mono fun _ _ ⟨h1, h2, h3, h4⟩ => ⟨h1, h.only h2 h3 h4, h4⟩
theorem oopen_inf (hd : IsDev W p bs bw s) (hR : Rest N s x) (h7 : 7 ≤ N) (hf : s.fuse = -1) : Calls Try.prog 20 #[.pointer (some ⟨p, 0, none⟩)] W fun e w' => ∃ r s', e = .returned (.tuple #[.pointer (some ⟨r, 0, none⟩), .int .i64 0]) ∧ OJ W w' r p bs bw s' ∧ Clean N x s' ∧ s'.keys = [] ∧ s'.fuse = -1 := by
  refine (wopen_any hd hR (by have := hR.n; omega)).mono fun e w' ⟨s', h1, h2, h3, h4⟩ => ?_
  rcases h4 with ⟨h4, _⟩ | ⟨r, he, hw, hr, hc, hk, hfu⟩
  · exact absurd hf h4
  · exact ⟨r, s', he, ⟨by rw [h3.age]; exact hw, h1, h2, hr⟩, hc, hk, hfu hf⟩
end

/-! ### Texts in a row -/
/-- N texts. -/
def txs (N : Nat) (x : Nat → Sec) : List ByteArray := (List.range N).map fun i => mk (x i)
theorem txs_len (N : Nat) (x : Nat → Sec) : (txs N x).length = N := by simp [txs]
theorem txs_succ (N : Nat) (x : Nat → Sec) : txs (N + 1) x = txs N x ++ [mk (x N)] := by simp [txs, List.range_succ]
def sv (l : List ByteArray) : List Value := l.map fun b => .string b
theorem sv_len (l : List ByteArray) : (sv l).length = l.length := by simp [sv]
theorem txs_congr {N : Nat} {x y : Nat → Sec} (h : ∀ i, i < N → x i = y i) : txs N x = txs N y := by
  unfold txs
  apply List.map_congr_left
  intro i hi
  rw [h i (List.mem_range.1 hi)]

/-- Texts in a row, in a block from lo to hi. -/
def RdS (W : World) (lo hi : Nat) (v : Value) (l : List ByteArray) : Prop :=
  ∃ ao cp, v = .slice ao l.length cp ∧ l.length ≤ cp ∧ hi ≤ W.heap.size ∧ ∀ (i : Nat) (x : ByteArray), l[i]? = some x → ∃ g, ao = some ⟨g, 0, none⟩ ∧ lo ≤ g ∧ g < hi ∧ W.cell? ⟨g, i, none⟩ = some (.string x)

theorem RdS.kept {W W' : World} {lo hi : Nat} {v : Value} {l : List ByteArray} {S : List Nat} (h : RdS W lo hi v l) (ho : Only S W W') (hS : ∀ k ∈ S, k < lo ∨ hi ≤ k) : RdS W' lo hi v l := by
  obtain ⟨ao, cp, e, hc, hh, h1⟩ := h
  refine ⟨ao, cp, e, hc, Nat.le_trans hh ho.size, fun i x hx => ?_⟩
  obtain ⟨g, e1, hlo, hhi, c⟩ := h1 i x hx
  refine ⟨g, e1, hlo, hhi, ?_⟩
  rw [World.cell?_of_block (a := ⟨g, i, none⟩) (ho.block g (by omega) (fun hm => by have := hS g hm; omega))]
  exact c

theorem RdS.of_own {W : World} {B : Nat} {v : Value} {l : List ByteArray} (h : W.ownsRow B 9 1 v l.length (sv l)) : RdS W B W.heap.size v l := by
  obtain ⟨ao, cp, rfl, hao⟩ := own_shape h
  have hcp : l.length ≤ cp := by
    by_cases h0 : 0 < l.length
    · obtain ⟨g, _, _, _, hcp, _⟩ := hao h0
      exact hcp
    · omega
  refine ⟨ao, cp, rfl, hcp, Nat.le_refl _, fun i x hx => ?_⟩
  obtain ⟨hi, rfl⟩ := List.getElem?_eq_some_iff.1 hx
  obtain ⟨g, rfl, hg0, hg1, hcp, hcell⟩ := hao (by omega)
  refine ⟨g, rfl, hg0, hg1, ?_⟩
  rw [hcell i hi]
  simp [sv, hi]

theorem list_ne {a b : ByteArray} (h : a ≠ b) : (a.toList == b.toList) = false := by
  rw [beq_eq_false_iff_ne, ne_eq, Go.ByteArray.toList_eq, Go.ByteArray.toList_eq]
  intro e
  exact h (ByteArray.ext (Array.ext' e))

theorem Try.infoS : (Try.prog.info? 9).map (fun i => (i.zero, i.size, i.bytes)) = some (some (.string ⟨#[]⟩), 1, 16) := by kernel_rfl

set_option maxRecDepth 20000 in
set_option maxHeartbeats 4000000 in
theorem content_any {w : World} {p bs bw N : Nat} {s : DevS} {x : Nat → Sec} (hd : IsDev w p bs bw s) (hR : Rest N s x) (h7 : 7 ≤ N) (hf : s.fuse = -1) :
    Calls Try.prog 31 #[.pointer (some ⟨p, 0, none⟩)] w fun e w' => ∃ v s', e = .returned (.tuple #[v, .bool true]) ∧ RdS w' w.heap.size w'.heap.size v (txs N x) ∧ w'.ownsRow w.heap.size 9 1 v N (sv (txs N x)) ∧ IsDev w' p bs bw s' ∧ Clean N x s' ∧ s'.keys = [] ∧ s'.fuse = -1 ∧ Only [p, bs, bw] w w' := by
  obtain ⟨i0, hi, hz0, hz1, hz2⟩ := info_parts Try.infoS
  have hN8 : N ≤ 8192 := by have := hR.n; have := hd.hi; omega
  have cO := oopen_inf hd hR h7 hf
  clear hd hR hf
  go_enter Try.func31, Try.ntmps31
  go_wp2_with fail
  refine cO.mono ?_
  rintro e w1 ⟨r, s1, rfl, hJ1, hC1, hk1, hf1⟩
  clear cO
  have hu : s1.up = true := by rw [up_of hf1]; rfl
  have hn1 := hC1.n
  go_wp2_with fail
  have lp := hJ1.dev.ltp
  have ls := hJ1.dev.lts
  have lw := hJ1.dev.ltw
  have lr := heap_lt hJ1.wal
  have hJ1s : w.heap.size ≤ w1.heap.size := hJ1.o.size
  go_loopw [6, 7] (fun v i wr => ∃ k : Nat, k ≤ N ∧ i = .int .i64 (k : Int) ∧ wr.ownsRow w1.heap.size 9 1 v k (sv (txs k x)) ∧ OJ w wr r p bs bw s1 ∧ w1.heap.size ≤ wr.heap.size) (fun _ i _ => N - (intOf i).toNat)
  case atStart => exact ⟨0, Nat.zero_le _, rfl, World.ownsRow_nil _ _ _ _, hJ1, Nat.le_refl _⟩
  case round =>
    obtain ⟨k, hk, rfl, hown, hJ, hsz⟩ := hrel
    have cS := osize_any hJ hu hn1
    clear hJ1 hJ
    go_wp2_with fail
    refine cS.mono ?_
    rintro e w2 ⟨rfl, hJ2, ho2⟩
    have hown2 := own_only hown ho2 (by simp; omega)
    have hsz2 := Nat.le_trans hsz ho2.size
    clear cS hown hsz ho2
    by_cases hlt : k < N
    · have hlt' : (k : Int) < (N : Int) := by omega
      have cR := oread_any hJ2 hu hn1 k hlt
      rw [(hC1.rest k hlt).2] at cR
      clear hJ2
      go_wp2_with fail
      refine cR.mono ?_
      rintro e w3 ⟨rfl, hJ3, ho3⟩
      have hown3 := own_only hown2 ho3 (by simp; omega)
      have hsz3 := Nat.le_trans hsz2 ho3.size
      obtain ⟨ao, cp, rfl, hao⟩ := own_shape hown3
      have HR3 : Hid (w3.ownsRow w1.heap.size 9 1 (.slice ao k cp) k (sv (txs k x))) := hown3
      clear cR hown2 hsz2 ho3 hown3 hao
      have HX : Hid (txs (k + 1) x = txs k x ++ [mk (x k)]) := txs_succ k x
      generalize x k = xk at HX ⊢
      go_wp2_with (first | (at_builtin; refine wpList_append_own _ rfl (.tmp 35) (.tmp 37) 62 rfl w1.heap.size 9 i0 (.string ⟨#[]⟩) 1 16 Try.underlying62 hi hz0 hz1 hz2 rfl (by decide) _ _ _ rfl (HR3.out.alloc _) ⟨w3.heap.size, 0, none⟩ 1 1 [.string (mk xk)] rfl rfl (one_new _ _ _) (one_one _ rfl) (by unfold maxLen; omega) (by omega) (by simp; omega) ?_) | go_in)
      intro v' w4 hown4 hgrow _
      have hB4 : Below w1.heap.size w3 w4 := below_app hsz3 (Below.refl _ _) HR3.out hgrow
      have hJ4 := hJ3.from hB4 hJ1s lr lp ls lw
      have hown5 : w4.ownsRow w1.heap.size 9 1 v' (k + 1) (sv (txs (k + 1) x)) := by
        rw [HX.out]
        simpa [sv] using hown4
      have hsz4 := Nat.le_trans hsz3 hB4.size
      clear hown4 hgrow hB4 hJ3
      go_wp2_with fail
      go_roundw
      case rel => exact ⟨k + 1, by omega, by go_num, hown5, hJ4, hsz4⟩
      case measure => simp [intOf]; omega
    · obtain rfl : k = N := by omega
      have hlt' : ¬ (k : Int) < (k : Int) := by omega
      have HR2 : Hid _ := hown2
      clear hown2
      go_wp2_with fail
      go_ret2
      have hr := ownsRow_base_a (base' := w.heap.size) HR2.out hJ1s
      refine ⟨_, s1, rfl, ?_, hr, hJ2.dev, hC1, hk1, hf1, hJ2.o⟩
      have := RdS.of_own (l := txs k x) (B := w.heap.size) (by rw [txs_len]; exact hr)
      exact this

set_option maxRecDepth 20000 in
set_option maxHeartbeats 2000000 in
theorem same_any {w : World} {v1 v2 : Value} {a b a' b' : Nat} {l1 l2 : List ByteArray} (h1 : RdS w a b v1 l1) (h2 : RdS w a' b' v2 l2) (hl : l1.length ≤ 8192) (hl2 : l2.length ≤ 8192) :
    Calls Try.prog 33 #[v1, v2] w fun e w' => e = .returned (.bool (decide (l1 = l2))) ∧ ∃ q, w' = w.drewN q := by
  obtain ⟨ao, cp, rfl, hc1, _, g1⟩ := h1
  obtain ⟨ao2, cp2, rfl, hc2, _, g2⟩ := h2
  by_cases hlen : l1.length = l2.length
  · have hle : ((l1.length : Int) != (l2.length : Int)) = false := by simp; omega
    go_enter Try.func33, Try.ntmps33
    go_wp2_with fail
    go_loopw [5] (fun i wr => ∃ k : Nat, k ≤ l1.length ∧ i = .int .i64 (k : Int) ∧ l1.take k = l2.take k ∧ ∃ q, wr = w.drewN q) (fun i _ => l1.length - (intOf i).toNat)
    case atStart => exact ⟨0, Nat.zero_le _, rfl, rfl, 0, rfl⟩
    case round =>
      obtain ⟨k, hk, rfl, heq, q, rfl⟩ := hrel
      by_cases hlt : k < l1.length
      · have hlt' : (k : Int) < (l1.length : Int) := by omega
        have hlt2 : (k : Int) < (l2.length : Int) := by omega
        obtain ⟨g, rfl, _, _, c1⟩ := g1 k l1[k] (by simp [hlt])
        obtain ⟨g', rfl, _, _, c2⟩ := g2 k (l2[k]'(by omega)) (by simp [show k < l2.length by omega])
        have HT1 : Hid (l1.take (k + 1) = l1.take k ++ [l1[k]]) := take_snoc l1 k hlt
        have HT2 : Hid (l2.take (k + 1) = l2.take k ++ [l2[k]'(by omega)]) := take_snoc l2 k (by omega)
        have HQ : Hid (l1.take k = l2.take k) := heq
        clear g1 g2 heq
        generalize l1[k] = x1 at *
        generalize l2[k]'(by omega) = x2 at *
        by_cases hx : x1 = x2
        · subst hx
          have HN : Hid (l1.take (k + 1) = l2.take (k + 1)) := by show l1.take (k + 1) = l2.take (k + 1); rw [HT1.out, HT2.out, HQ.out]
          go_wp2_with fail
          go_quiet (fail)
          go_wp2_with fail
          go_roundw
          case rel => exact ⟨k + 1, by omega, by go_num, HN.out, _, rfl⟩
          case measure => simp [intOf]; omega
        · have hx' := list_ne hx
          have HN : Hid (decide (l1 = l2) = false) := by
            show decide (l1 = l2) = false
            rw [decide_eq_false_iff_not]
            rintro rfl
            have := HT1.out.symm.trans HT2.out
            simp at this
            exact hx this
          go_wp2_with fail
          go_quiet (fail)
          go_wp2_with fail
          go_ret
          exact ⟨by rw [HN.out]; rfl, q + nq, by rw [World.drewN_drewN]⟩
      · obtain rfl : k = l1.length := by omega
        have hlt' : ¬ (l1.length : Int) < (l1.length : Int) := by omega
        have HN : Hid (decide (l1 = l2) = true) := by
          show decide (l1 = l2) = true
          rw [decide_eq_true_eq]
          rw [List.take_length, hlen, List.take_length] at heq
          exact heq
        clear g1 g2 heq
        go_wp2_with fail
        go_ret
        exact ⟨by rw [HN.out]; rfl, q, rfl⟩
  · have hle : ((l1.length : Int) != (l2.length : Int)) = true := by rw [bne_iff_ne]; omega
    have HN : Hid (decide (l1 = l2) = false) := by
      show decide (l1 = l2) = false
      rw [decide_eq_false_iff_not]
      rintro rfl
      exact hlen rfl
    clear g1 g2
    go_enter Try.func33, Try.ntmps33
    go_wp2_with fail
    go_ret
    exact ⟨by rw [HN.out]; rfl, 0, rfl⟩
end Go.Proofs.Ytblhmfkohbdmeaa
