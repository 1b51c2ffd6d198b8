/-
  Proved: whether any commits are a graph, what is above one, what is common to two, and the tips, as the document says; what came out is the caller's to write into (the law DagTells), for every input.
-/
import Derived.Test.YtdpkcmagegiadaaDgW
import Derived.Test.YtdpkcmagegiadaaDgP
import Derived.ChangeOld
import Derived.ShutString
namespace Go.Proofs.Ytdpkcmagegiadaa.dagTells
open Go.RowKit Go.ChangeShapes Go.WideShapes Go.ChangeAt Go.PlainAid

theorem own_only {S : List Nat} {w w' : World} {B e z n : Nat} {v : Value} {l : List Value} (h : w.ownsRow B e z v n l) (ho : Only S w w') (hb : ∀ g, v.ownBlock = some g → g ∉ S) : w'.ownsRow B e z v n l := by
  obtain ⟨h1, h2⟩ := h
  refine ⟨h1, ?_⟩
  rcases h2 with h2 | ⟨g, cap, cur, rfl, b, c, d⟩
  · exact .inl h2
  · exact .inr ⟨g, cap, cur, rfl, b, only_heap c ho (hb g rfl), d⟩
/-- The blocks from lo on, below hi. -/
def blk (lo hi : Nat) : List Nat := List.range' lo (hi - lo)
theorem mem_blk {lo hi g : Nat} (h : lo ≤ hi) : g ∈ blk lo hi ↔ lo ≤ g ∧ g < hi := by
  unfold blk
  rw [List.mem_range'_1]
  omega
/-- A row that may be written. -/
def Wrt (W : World) (ao : Option Addr) (n lo hi : Nat) : Prop := ∀ i, i < n → ∃ g cs, ao = some ⟨g, 0, none⟩ ∧ lo ≤ g ∧ g < hi ∧ W.heap[g]? = some (.cells cs 3 (0, 0)) ∧ n ≤ cs.size
theorem wrt_own {W : World} {B n : Nat} {v : Value} {l : List Value} (h : W.ownsRow B 3 1 v n l) : ∃ ao cp, v = .slice ao n cp ∧ Wrt W ao n B W.heap.size := by
  obtain ⟨h1, h2⟩ := h
  rcases h2 with ⟨rfl, rfl⟩ | ⟨g, cap, cur, rfl, hb, hg, hn, _, hc, ht⟩
  · exact ⟨none, 0, rfl, fun i hi => by omega⟩
  · refine ⟨_, cap, rfl, fun i hi => ⟨g, cur, rfl, hb, heap_lt hg, hg, ?_⟩⟩
    omega
theorem Wrt.only {W W' : World} {ao : Option Addr} {n lo hi : Nat} {S : List Nat} (h : Wrt W ao n lo hi) (ho : Only S W W') (hs : ∀ g, lo ≤ g → g < hi → g ∉ S) : Wrt W' ao n lo hi := fun i hi' => by
  obtain ⟨g, cs, e, h1, h2, h3, h4⟩ := h i hi'
  exact ⟨g, cs, e, h1, h2, only_heap h3 ho (hs g h1 h2), h4⟩
theorem Wrt.below {W W' : World} {ao : Option Addr} {n lo hi : Nat} (h : Wrt W ao n lo hi) (hb : Below W.heap.size W W') : Wrt W' ao n lo hi := h.only (Only.of_below (S := []) hb) (by simp)
theorem Wrt.set {W : World} {g n lo hi i : Nat} {x : Value} (h : Wrt W (some ⟨g, 0, none⟩) n lo hi) (hi' : i < n) : Wrt (W.setCell ⟨g, i, none⟩ x) (some ⟨g, 0, none⟩) n lo hi := fun j hj => by
  obtain ⟨g', cs, e, h1, h2, h3, h4⟩ := h i hi'
  simp at e
  subst e
  refine ⟨g, cs.setIfInBounds i x, rfl, h1, h2, ?_, by simpa using h4⟩
  simp [World.setCell, Array.getElem?_modify, h3]

set_option maxRecDepth 20000 in
set_option maxHeartbeats 2000000 in
theorem walk (v : Value) (L : List Lk) (a b : Int) (w : World) (hv : RdL w v L) (hl : L.length ≤ maxLen) (hok : ∀ k ∈ L, k.Ok) (a0 : -9223372036854775808 ≤ a) (a1 : a ≤ 9223372036854775807) (b0 : -9223372036854775808 ≤ b) (b1 : b ≤ 9223372036854775807) :
    Calls Try.prog 3 #[v, .int .i64 a, .int .i64 b] w fun e w' => e = .returned (.bool true) ∧ Below w.heap.size w w' := by
  have cA := fun W (hb : Below w.heap.size w W) => Above_any a a0 a1 (hv.below hb) hl hok
  have cAr := fun W (hb : Below w.heap.size w W) => RAbove_any a (hv.below hb) hl hok
  have cC := fun W (hb : Below w.heap.size w W) => Common_any a b a0 a1 b0 b1 (hv.below hb) hl hok
  have cCr := fun W (hb : Below w.heap.size w W) => RCommon_any a b (hv.below hb) hl hok
  have cT := fun W (hb : Below w.heap.size w W) => Tips_any (hv.below hb) hl hok
  have cTr := fun W (hb : Below w.heap.size w W) => RTips_any (hv.below hb) hl hok
  have cK := fun W (hb : Below w.heap.size w W) => check_any (hv.below hb) hl hok
  have cKr := fun W (hb : Below w.heap.size w W) => rcheck_any (hv.below hb) hl hok
  have lx := up_len L a
  have lc := co_len L a b
  have lt := tip_len L
  generalize upR L a = q1 at *
  generalize coR L a b = q2 at *
  generalize tipR L = T at *
  generalize chkR L = ck at *
  obtain ⟨X, z1⟩ := q1
  obtain ⟨C, z2⟩ := q2
  dsimp only at cA cAr cC cCr lx lc
  obtain ⟨ao, cp, rfl, -⟩ := hv
  have cA0 := cA w (Below.refl _ _)
  clear hl hok
  go_enter Try.func3, Try.ntmps3
  go_wp2_with fail
  refine cA0.mono ?_
  rintro e w1 ⟨u1, rfl, ho1, hb1⟩
  have c2 := cAr w1 hb1
  clear cA0 cAr
  go_wp2_with fail
  refine c2.mono ?_
  rintro e w2 ⟨u2, rfl, ho2, hb2⟩
  have hb12 := chain hb1 hb2
  have c3 := cC w2 hb12
  clear c2 cC
  go_wp2_with fail
  refine c3.mono ?_
  rintro e w3 ⟨u3, rfl, ho3, hb3⟩
  have hb13 := chain hb12 hb3
  have c4 := cCr w3 hb13
  clear c3 cCr hb12
  go_wp2_with fail
  refine c4.mono ?_
  rintro e w4 ⟨u4, rfl, ho4, hb4⟩
  have hb14 := chain hb13 hb4
  have c5 := cT w4 hb14
  clear c4 cT hb13
  go_wp2_with fail
  refine c5.mono ?_
  rintro e w5 ⟨u5, rfl, ho5, hb5⟩
  have hb15 := chain hb14 hb5
  have c6 := cK w5 hb15
  clear c5 hb14
  go_wp2_with fail
  refine c6.mono ?_
  rintro e w6 ⟨rfl, hb6⟩
  have hb16 := chain hb15 hb6
  have c7 := cKr w6 hb16
  clear c6 hb15
  go_wp2_with fail
  refine c7.mono ?_
  rintro e w7 ⟨rfl, hb7⟩
  have hb17 := chain hb16 hb7
  -- what came out, at w7
  have h67 := chain hb6 hb7
  have h57 := chain hb5 h67
  have h47 := chain hb4 h57
  have h37 := chain hb3 h47
  have h27 := chain hb2 h37
  obtain ⟨xo, xp, rfl, wX⟩ := wrt_own ho1
  obtain ⟨to, tp, rfl, wT⟩ := wrt_own ho5
  have wX := wX.below h27
  have wT := wT.below h67
  have oY := own_belowG ho2 h37
  have rX := (rdi_own ho1).below h27
  have rY := rdi_own oY
  have rT := (rdi_own ho5).below h67
  have rC := (rdi_own ho3).below h47
  have rD := (rdi_own ho4).below h57
  have hs1 := hb1.size
  have hs2 := hb2.size
  have hs4 := chain hb3 hb4
  have hs24 := hs4.size
  have hs5 := hb5.size
  have hs57 := h57.size
  have gY : ∀ g, u2.ownBlock = some g → w1.heap.size ≤ g ∧ g < w2.heap.size := fun g h => ho2.lt g h
  clear c7 ho1 ho2 ho3 ho4 ho5 hb1 hb2 hb3 hb4 hb5 hb6 hb7 h67 h57 h47 h37 h27 hb16 hs4
  have cS := same_eq rX rY (by omega)
  go_wp2_with fail
  refine cS.mono ?_
  rintro e w8 ⟨rfl, hb8⟩
  have hb18 := chain hb17 hb8
  have wX := wX.below hb8
  have wT := wT.below hb8
  have oY := own_belowG oY hb8
  have rT := rT.below hb8
  have cS := same_eq (rC.below hb8) (rD.below hb8) (by omega)
  have hs8 := hb8.size
  clear hb17 hb8 rX rY rC rD
  go_wp2_with fail
  refine cS.mono ?_
  rintro e w9 ⟨rfl, hb9⟩
  have hb19 := chain hb18 hb9
  have wX := wX.below hb9
  have wT := wT.below hb9
  have oY := own_belowG oY hb9
  have rT := rT.below hb9
  have c10 := cTr w9 hb19
  have hs9 := hb9.size
  clear cS hb18 hb9 cTr
  go_wp2_with fail
  refine c10.mono ?_
  rintro e w10 ⟨u10, rfl, ho10, hb10⟩
  have hb110 := chain hb19 hb10
  have wX := wX.below hb10
  have wT := wT.below hb10
  have oY := own_belowG oY hb10
  have cS := same_eq (rT.below hb10) (rdi_own ho10) (by omega)
  have hs10 := hb10.size
  clear c10 hb19 hb10 ho10 rT
  go_wp2_with fail
  refine cS.mono ?_
  rintro e w11 ⟨rfl, hb11⟩
  have hb111 := chain hb110 hb11
  have wX := wX.below hb11
  have wT := wT.below hb11
  have oY := own_belowG oY hb11
  have hs11 := hb11.size
  clear cS hb110 hb11
  go_wp2_with fail
  go_loopw [16] (fun i wr => ∃ k : Nat, k ≤ X.length ∧ i = .int .i64 (k : Int) ∧ Wrt wr xo X.length w.heap.size w1.heap.size ∧ Only (blk w.heap.size w1.heap.size) w11 wr) (fun i _ => X.length - (Go.RowKit.intOf i).toNat)
  case atStart => exact ⟨0, Nat.zero_le _, rfl, wX, Only.refl _ _⟩
  case round =>
    obtain ⟨k, hk, rfl, hW, hO⟩ := hrel
    clear wX
    by_cases c : k < X.length
    · have c' : (k : Int) < (X.length : Int) := by omega
      obtain ⟨g, cs, e1, g1, g2, hg, hn⟩ := hW k c
      subst e1
      have cc : wr.cell? ⟨g, k, none⟩ = some cs[k] := by simp [World.cell?, hg, show k < cs.size by omega]
      have fz : wr.frozen? ⟨g, k, none⟩ = false := by simp [World.frozen?, hg]
      have hW2 := hW.set (x := .int .i64 (-1)) c
      have hO2 := hO.trans (Only.setCell wr (S := blk w.heap.size w1.heap.size) (p := ⟨g, k, none⟩) ((mem_blk hs1).2 ⟨g1, g2⟩) (.int .i64 (-1)))
      clear hW hO
      generalize cs[k] = old at *
      go_wp2_with fail
      exact ⟨⟨k + 1, by omega, by go_num, hW2, hO2⟩, by simp only [Go.RowKit.intOf]; omega⟩
    · obtain rfl : k = X.length := by omega
      have hB : Below w.heap.size w wr := hb111.trans (hO.below hb111.size (fun g hg => ((mem_blk hs1).1 hg).1))
      have oY := own_only oY hO (fun g hg hm => by have h1 := gY g hg; have h2 := (mem_blk hs1).1 hm; omega)
      have wT := wT.only hO (fun g h1 h2 hm => by have h3 := (mem_blk hs1).1 hm; omega)
      clear hb111 hO hW c
      obtain ⟨w12, rfl⟩ : ∃ x, x = wr := ⟨_, rfl⟩
      go_wp2_with fail
      go_loopw [17] (fun i wx => ∃ k : Nat, k ≤ T.length ∧ i = .int .i64 (k : Int) ∧ Wrt wx to T.length w4.heap.size w5.heap.size ∧ Only (blk w4.heap.size w5.heap.size) w12 wx) (fun i _ => T.length - (Go.RowKit.intOf i).toNat)
      case atStart => exact ⟨0, Nat.zero_le _, rfl, wT, Only.refl _ _⟩
      case round =>
        obtain ⟨k, hk, rfl, hW, hO⟩ := hrel
        clear wT
        by_cases c : k < T.length
        · have c' : (k : Int) < (T.length : Int) := by omega
          obtain ⟨g, cs, e1, g1, g2, hg, hn⟩ := hW k c
          subst e1
          have cc : wr.cell? ⟨g, k, none⟩ = some cs[k] := by simp [World.cell?, hg, show k < cs.size by omega]
          have fz : wr.frozen? ⟨g, k, none⟩ = false := by simp [World.frozen?, hg]
          have hW2 := hW.set (x := .int .i64 (-1)) c
          have hO2 := hO.trans (Only.setCell wr (S := blk w4.heap.size w5.heap.size) (p := ⟨g, k, none⟩) ((mem_blk hs5).2 ⟨g1, g2⟩) (.int .i64 (-1)))
          clear hW hO
          generalize cs[k] = old at *
          go_wp2_with fail
          exact ⟨⟨k + 1, by omega, by go_num, hW2, hO2⟩, by simp only [Go.RowKit.intOf]; omega⟩
        · obtain rfl : k = T.length := by omega
          have hB2 : Below w.heap.size w wr := hB.trans (hO.below hB.size (fun g hg => by have := ((mem_blk hs5).1 hg).1; omega))
          have oY := own_only oY hO (fun g hg hm => by have h1 := gY g hg; have h2 := (mem_blk hs5).1 hm; omega)
          have c13 := cA wr hB2
          clear hB hO hW c cA gY
          go_wp2_with fail
          refine c13.mono ?_
          rintro e w13 ⟨u13, rfl, ho13, hb13⟩
          have hB3 := chain hB2 hb13
          have cS := same_eq (rdi_own ho13) ((rdi_own oY).below hb13) (by omega)
          have c15 := fun w14 (h : Below w13.heap.size w13 w14) => cK w14 (chain hB3 h)
          have c16 := fun w14 (h : Below w13.heap.size w13 w14) => cKr w14 (chain hB3 h)
          clear c13 hB2 ho13 oY cK cKr
          go_wp2_with fail
          refine cS.mono ?_
          rintro e w14 ⟨rfl, hb14⟩
          have c15' := c15 w14 hb14
          clear cS c15
          go_wp2_with fail
          refine c15'.mono ?_
          rintro e w15 ⟨rfl, hb15⟩
          have c16' := c16 w15 (chain hb14 hb15)
          clear c15' c16
          go_wp2_with fail
          refine c16'.mono ?_
          rintro e w16 ⟨rfl, hb16⟩
          clear c16'
          go_wp2_with (go_at_call 16; refine (live_any _).mono ?_; rintro e w17 ⟨rfl, hb17⟩)
          go_ret
          exact ⟨rfl, chain hB3 (chain hb14 (chain hb15 (chain hb16 hb17)))⟩

theorem own : ownKnob Try.prog.godebug = none := by kernel_rfl
theorem laidOut : laidOutB Try.prog = true := by kernel_rfl

set_option maxRecDepth 20000 in
theorem contract (H : Type) (enc : TypeId × Value → H) (W : World) (base : Nat) (args : Array Value) (ds gs : List (DataW H)) (before : List MemPlace)
    (hval : ∀ (j : Nat) t v, Try.f3.params[j]? = some t → args[j]? = some v → Value.okWide Try.prog W .any base t v)
    (hW : DataW.Whole enc Try.prog Try.f3.params.toList Rows.dagTellsSpec.vars false W args.toList ds gs before) :
    Calls Try.prog 3 args W fun e W' => ∃ v, e = .returned v ∧ Rows.dagTellsSpec.post enc Try.prog Try.f3 false true false false W args v W' := by
  have hW' := hW
  obtain ⟨p, q, hA0, hV, rfl, hfz, hnd⟩ := hW
  have hA : DataW.TrodAll enc Try.prog W 0 (fun _ => true) true Try.f3.params.toList args.toList ds p := hA0
  rw [Try.params3] at hA hval
  obtain ⟨v0, vs0, d0, ds0, p0, q0, hargs, rfl, rfl, h0, r0⟩ := trodAll_cons hA
  obtain ⟨v1, vs1, d1, ds1, p1, q1, rfl, rfl, rfl, h1, r1⟩ := trodAll_cons r0
  obtain ⟨v2, vs2, d2, ds2, p2, q2, rfl, rfl, rfl, h2, r2⟩ := trodAll_cons r1
  obtain ⟨rfl, rfl, rfl⟩ := trodAll_nil r2
  obtain rfl : args = #[v0, v1, v2] := by cases args; simp_all
  obtain ⟨rfl, rfl⟩ := trodVars_none hV
  have k0 := h0
  have lt0 : ∀ x ∈ p0, x.block < W.heap.size := by obtain ⟨m, hm⟩ := k0; exact DataW.trod_lt m _ _ _ hm
  have k1 := h1
  have lt1 : ∀ x ∈ p1, x.block < W.heap.size := by obtain ⟨m, hm⟩ := k1; exact DataW.trod_lt m _ _ _ hm
  have k2 := h2
  have lt2 : ∀ x ∈ p2, x.block < W.heap.size := by obtain ⟨m, hm⟩ := k2; exact DataW.trod_lt m _ _ _ hm
  obtain ⟨a0, len0, cap0, rfl⟩ := okWide_slice Try.underlying22 (hval 0 22 v0 rfl rfl)
  obtain ⟨fuel0, hf0⟩ := h0
  obtain ⟨l0, rd0, ln0, ok0⟩ := open_ops hf0
  obtain ⟨a1, rfl, rfl, rfl, w1⟩ := open_int Try.underlying3 (hval 1 3 v1 rfl rfl) h1
  obtain ⟨a2, rfl, rfl, rfl, w2⟩ := open_int Try.underlying3 (hval 2 3 v2 rfl rfl) h2
  clear hA0
  simp only [List.append_nil] at hW'
  refine (walk (.slice a0 len0 cap0) l0 a1 a2 W rd0 ln0 ok0 (wf_bd w1).1 (wf_bd w1).2 (wf_bd w2).1 (wf_bd w2).2).mono fun e W' ⟨he, bel⟩ => ?_
  subst he
  exact ⟨_, rfl, _, _, _, [], _, [], hW', trodAll_mk1 (shut_bool Try.underlying4 _), (trodAll_cons_mk (Below.trod laidOut (by kernel_rfl) (of_decide_eq_true (by kernel_rfl)) k0 bel lt0) (trodAll_cons_mk (Below.trod laidOut (by kernel_rfl) (of_decide_eq_true (by kernel_rfl)) k1 bel lt1) (trodAll_cons_mk (Below.trod laidOut (by kernel_rfl) (of_decide_eq_true (by kernel_rfl)) k2 bel lt2) trodAll_mk0))), rfl, bel.frame _, fun h => by cases h⟩

set_option maxRecDepth 100000 in
theorem lifted (os : Os) (started : os.Started) (H : Type) (enc : TypeId × Value → H) :
    ReturnsInHanded {} Try.checked os 3 .any (Rows.dagTellsSpec.pre6 enc Try.prog Try.f3 Rows.dagTellsRow.domain false) (Rows.dagTellsSpec.post enc Try.prog Try.f3 false true false false) := by
  refine returnsInHanded_of_change (C := Try.checked) own started (by kernel_rfl) Try.func3
    (ChangeSpec.witness6 (enc := enc) (C := Try.checked) false ⟨#[], #[.slice none 0 0, .int .i64 0, .int .i64 0], []⟩ 8 (by kernel_rfl) (by kernel_rfl) (by kernel_rfl) (by kernel_rfl)) ?_
  intro W base args ds gs before hval hW _ _
  exact contract H enc W base args ds gs before hval hW

theorem holds : Rows.DagTellsSaid :=
  OpenClaim.holds_of_wide 3 Try.f3 rfl rfl rfl rfl rfl rfl rfl ⟨rfl, rfl, rfl, rfl, rfl⟩ rfl rfl rfl rfl rfl (by kernel_rfl) Try.func3 (by kernel_rfl)
    (of_decide_eq_true (by kernel_rfl)) (by unfold Func.isWrapper; first | (rw [if_pos (by decide +kernel)]; kernel_rfl) | (rw [if_neg (by decide +kernel)]; exact ⟨rfl, rfl⟩))
    (fun os started H enc _ => lifted os started H enc)
end Go.Proofs.Ytdpkcmagegiadaa.dagTells
namespace Go.Proofs.Ytdpkcmagegiadaa
theorem dagTells_holds : Rows.DagTellsSaid := dagTells.holds
#print axioms dagTells_holds
end Go.Proofs.Ytdpkcmagegiadaa
