/-
  Proved: whatever is sent, taken and doubled, a net answers, and holds, just what the document says (the law NetScripts), for every input.
-/
import Derived.Test.YtdkhfehoohiflaaNtR
import Derived.ChangeOld
namespace Go.Proofs.Ytdkhfehoohiflaa.netScripts
open Go.Proofs.Ytdkhfehoohiflaa.nt
open Go.RowKit Go.ChangeShapes Go.WideShapes Go.ChangeAt Go.PlainAid

theorem start {w w1 w2 : World} {N O : NtS} {room : Int} (h1 : 1 ≤ room) (h2 : room ≤ 3000) (hN : Fr w w1 N) (hO : Fr w1 w2 O) :
    Sd w (w2.alloc (.cells #[.int .i64 room, .slice none 0 0] 62)) N ⟨w2.heap.size, room, .slice none 0 0, []⟩ O := by
  have hb := grow1 w2 (.cells #[.int .i64 room, .slice none 0 0] 62)
  have s1 := hN.bel.size
  have s2 := hO.bel.size
  have hB := chain (chain hN.bel hO.bel) hb
  have l1 := hN.net.lt
  have l2 := hO.net.lt
  refine ⟨⟨hB, (hN.net.below hO.bel).below hb, hN.new⟩, ⟨hB, hO.net.below hb, fun b hb => by have := hO.new b hb; omega⟩, ⟨heap_alloc_new w2 _, World.ownsRow_nil _ _ _ _, ⟨h1, h2⟩, by simp; omega⟩, ?_, ?_, ?_, ?_⟩
  · intro b hb; simp [RfS.bl, Value.ownBlock] at hb; omega
  · intro b hb e; simp [RfS.bl, Value.ownBlock] at e; have := l1 b hb; omega
  · intro b hb e; have := l1 b hb; have := hO.new b e; omega
  · intro b hb e; simp [RfS.bl, Value.ownBlock] at hb; have := l2 b e; omega

set_option maxRecDepth 20000 in
set_option maxHeartbeats 2000000 in
theorem walk (room : Int) (v : Value) (l : List CaD) (w : World) (b0 : -9223372036854775808 ≤ room) (b1 : room ≤ 9223372036854775807) (hr : RdC w v l) (hm : l.length ≤ 4398046511104) (hi : ∀ o ∈ l, o.Bd) :
    Calls Try.prog 4 #[.int .i64 room, v] w fun e w' => e = .returned (.bool true) ∧ Below w.heap.size w w' := by
  have c0 := pick_any room 3000 w (by decide) (by decide) b0 b1
  have hq : pickD room 3000 ≤ 2999 := by unfold pickD; have := Nat.mod_lt (if room < 0 then -(room + 1) else room).toNat (show 0 < 3000 by decide); omega
  generalize pickD room 3000 = q at *
  obtain ⟨ao, cp, rfl, hrd⟩ := hr
  have q1 : (1 : Int) ≤ 1 + (q : Int) := by omega
  have q2 : 1 + (q : Int) ≤ 3000 := by omega
  clear b0 b1
  go_enter Try.func4, Try.ntmps4
  go_wp2_with fail
  refine c0.mono ?_
  rintro e w0 ⟨rfl, rfl⟩
  have c1 := new_fr (1 + (q : Int)) w0 q1 q2
  clear c0
  go_wp2_with fail
  refine c1.mono ?_
  rintro e w1 ⟨N0, rfl, r1, L1, n1, f1⟩
  have c2 := new_fr (1 + (q : Int)) w1 q1 q2
  clear c1
  go_wp2_with fail
  refine c2.mono ?_
  rintro e w2 ⟨O, rfl, -, L20, -, f2⟩
  have L2 : Hid (O.L = []) := L20
  clear L20
  have c3 := rnew_ok (1 + (q : Int)) w2 q1 q2
  have hs := start q1 q2 f1 f2
  clear c2 f1 f2
  go_wp2_with fail
  refine c3.mono ?_
  rintro e w3 ⟨rfl, rfl⟩
  have c4 := begun_any (w2.alloc (.cells #[.int .i64 (1 + (q : Int)), .slice none 0 0] 62))
  clear c3
  go_wp2_with fail
  refine c4.mono ?_
  rintro e w4 ⟨rfl, hb4⟩
  have hs := hs.below hb4
  clear c4 hb4
  go_wp2_with fail
  go_loopw [11] (fun i wr => ∃ (k : Nat) (N : NtS) (R : RfS), k ≤ l.length ∧ i = .int .i64 (k : Int) ∧ Sd w0 wr N R O ∧ N.p = N0.p ∧ R.p = w2.heap.size ∧ N.room = R.room ∧ N.L = R.L ∧ N.n ≤ k) (fun i _ => l.length - (Go.RowKit.intOf i).toNat)
  case atStart => exact ⟨0, N0, _, Nat.zero_le _, rfl, hs, rfl, rfl, r1, L1, by omega⟩
  case round =>
    clear hs r1 L1 n1
    obtain ⟨k, N, R, hk, rfl, hS, hp0, hrp0, hrm0, hL0, hn⟩ := hrel
    have hp : Hid (N.p = N0.p) := hp0
    have hrp : Hid (R.p = w2.heap.size) := hrp0
    have hrm : Hid (N.room = R.room) := hrm0
    have hL : Hid (N.L = R.L) := hL0
    clear hp0 hrp0 hrm0 hL0
    by_cases hlt : k < l.length
    · have hlt' : (k : Int) < (l.length : Int) := by omega
      obtain ⟨b, off, rfl, hbw, d0, d1, d2, d3⟩ := hrd k l[k] (by simp [hlt])
      have hbd := hi l[k] (by simp)
      have g : ∀ j, wr.cell? ⟨b, j, none⟩ = w0.cell? ⟨b, j, none⟩ := fun j => hS.fn.bel.cell (p := ⟨b, j, none⟩) hbw
      rw [← g] at d0 d1 d2 d3
      generalize l[k] = o at *
      obtain ⟨ok, on, ox⟩ := o
      simp only at d0 d1 d2 d3
      have hpb : PB (wr.alloc (.cells #[.int .i64 ok, .int .i64 on, .int .i64 ox.to, .string ox.t] 39)) wr.heap.size ⟨ok, on, ox⟩ := heap_alloc_new wr _
      have hS1 := hS.below (grow1 wr (.cells #[.int .i64 ok, .int .i64 on, .int .i64 ox.to, .string ox.t] 39))
      have hq1 : wr.heap.size ∉ N.bl := fun e => Nat.lt_irrefl _ (hS.fn.net.lt _ e)
      have hq2 : wr.heap.size ∉ R.bl := fun e => Nat.lt_irrefl _ (hS.rf.lt _ e)
      have hlen : N.L.length ≤ 3000 := by have := hS.fn.net.len; have := hS.fn.net.rm; omega
      obtain ⟨x0, x1, x2, x3⟩ := hpb.facts
      simp only at x0 x1 x2 x3
      clear hrd hi g
      by_cases k0 : ok = 0
      · subst k0
        have hS2 := hS1.drew
        have hP2 : PB _ wr.heap.size ⟨0, on, ox⟩ := hpb.only (Only.drew [] _) (by simp)
        have cN := fun W (h : IsNet W N) => send_any N ox W h (by omega)
        have cR := fun W (h : IsRf W R) => rsend_any R ox W h
        rw [(sdE_eq hrm.out hL.out ox).1, (sdE_eq hrm.out hL.out ox).2] at cR
        rw [hp.out] at cN
        rw [hrp.out] at cR
        unfold LtD.v at cN cR
        clear hS1 hS hpb
        go_wp2_with fail
        generalize wr.alloc (.cells #[.int .i64 0, .int .i64 on, .int .i64 ox.to, .string ox.t] 39) = W1 at *
        go_region_with (first
          | (go_at_call 13; refine (cN _ (by first | exact hS3.fn.net | exact hS2.fn.net)).mono ?_; rintro e wA ⟨rfl, N', hA⟩; first | (have hS4 := hS3.stepN hA; obtain ⟨wS, rfl⟩ : ∃ y, y = wA := ⟨_, rfl⟩) | (have hS3 := hS2.stepN hA; have hP3 := hP2.only hA.on hq1; obtain ⟨-, -, z2, z3⟩ := hP3.facts; simp only at z2 z3))
          | (go_at_call 14; refine (cR _ (by first | exact hS3.rf | exact hS2.rf)).mono ?_; rintro e wB ⟨rfl, R', hB⟩; first | (have hS4 := hS3.stepR hB; obtain ⟨wS, rfl⟩ : ∃ y, y = wB := ⟨_, rfl⟩) | (have hS3 := hS2.stepR hB; have hP3 := hP2.only hB.on hq2; obtain ⟨-, -, z2, z3⟩ := hP3.facts; simp only at z2 z3)))
        all_goals
          have hp' : Hid (N'.p = N0.p) := hA.p.trans hp.out
          have hrp' : Hid (R'.p = w2.heap.size) := hB.p.trans hrp.out
          have hrm' : Hid (N'.room = R'.room) := by show _ = _; rw [hA.room, hB.room]; exact hrm.out
          have hL' : Hid (N'.L = R'.L) := by show _ = _; rw [hA.L, hB.L]
          have hn' : N'.n ≤ k + 1 := by have := hA.n; omega
          have hlen' : N'.L.length ≤ 3000 := by have := hS4.fn.net.len; have := hS4.fn.net.rm; omega
          have hS := hS4
          clear hS4 hS3 hS2 hP2 hP3 hA hB cN cR x0 x1 x2 x3 z2 z3 hp hrp hrm hL
          have cA := all_any N' wS hS.fn.net
          rw [hp'.out] at cA
          go_wp2_with fail
          refine cA.mono ?_
          rintro e w5 ⟨u1, rfl, ho1, hb5⟩
          have hS5 := hS.below hb5
          have hs5 := hb5.size
          obtain ⟨a1, k1, rfl⟩ := own_form ho1
          have cB := rall_any R' w5 hS5.rf
          rw [hrp'.out, ← hL'.out] at cB
          clear cA
          go_wp2_with fail
          refine cB.mono ?_
          rintro e w6 ⟨u2, rfl, ho2, hb6⟩
          have hS6 := hS5.below hb6
          have ho1' := own_only ho1 (Only.of_below (S := []) hb6) (by simp)
          have hs6 := hb6.size
          obtain ⟨a2, k2, rfl⟩ := own_form ho2
          have cC := same_true _ _ N'.L w6 (by omega) (rdl_own ho1') (rdl_own ho2)
          clear cB ho2
          go_wp2_with fail
          refine cC.mono ?_
          rintro e w7 ⟨rfl, hb7⟩
          have hS7 := hS6.below hb7
          have ho1'' := own_only ho1' (Only.of_below (S := []) hb7) (by simp)
          have hs7 := hb7.size
          clear cC ho1 ho1'
          have cD := len_any N' w7 hS7.fn.net
          rw [hp'.out] at cD
          go_wp2_with fail
          refine cD.mono ?_
          rintro e w8 ⟨rfl, rfl⟩
          have cE := rlen_any R' w8 hS7.rf
          rw [hrp'.out, ← hL'.out] at cE
          clear cD
          go_wp2_with fail
          refine cE.mono ?_
          rintro e w9 ⟨rfl, rfl⟩
          clear cE
          have cF := written_any wS.heap.size N'.L.length _ _ w9 ho1'' (by omega) hlen'
          go_wp2_with fail
          refine cF.mono ?_
          rintro e wX ⟨rfl, hbX⟩
          have hSX := hS.bel hS7 hbX
          clear cF ho1'' hS hS5 hS6 hS7
          go_wp2_with fail
          exact ⟨⟨k + 1, N', R', by omega, by go_num, hSX, hp'.out, hrp'.out, hrm'.out, hL'.out, by omega⟩, by simp [Go.RowKit.intOf]; omega⟩
      · have y0 : (ok == 0) = false := by simp [k0]
        by_cases k1 : ok = 1
        · subst k1
          clear k0 y0
          have cN := take_any N on _ hS1.fn.net (by omega)
          rw [hp.out] at cN
          have hP1 := hpb
          have hS0 := hS1
          unfold LtD.v at cN
          clear hS hpb hS1
          go_wp2_with fail
          generalize wr.alloc (.cells #[.int .i64 1, .int .i64 on, .int .i64 ox.to, .string ox.t] 39) = W1 at *
          refine cN.mono ?_
          rintro e wA ⟨rfl, N', hA⟩
          have hS2 := hS0.stepN hA
          have hP2 := hP1.only hA.on hq1
          have hq3 := heap_lt hP1
          clear cN x0 x1 x2 x3 hP1 hS0
          have hS3 := hS2.below (grow1 wA (.cells #[.int .i64 (N.tkV on).to, .string (N.tkV on).t] 37))
          have hP3 : PB _ _ _ := hP2.only (Only.alloc [] wA (.cells #[.int .i64 (N.tkV on).to, .string (N.tkV on).t] 37)) (by simp)
          have hB3 := lb_new wA (N.tkV on)
          obtain ⟨x0, x1, x2, x3⟩ := hP3.facts
          simp only at x0 x1 x2 x3
          have cR := rtake_any R on _ hS3.rf
          rw [(tkE_eq hL.out on).1, (tkE_eq hL.out on).2.1, (tkE_eq hL.out on).2.2, hrp.out] at cR
          unfold LtD.v at cR
          have hq4 : wA.heap.size ∉ R.bl := fun e => Nat.lt_irrefl _ (hS2.rf.lt _ e)
          go_wp2_with fail
          refine cR.mono ?_
          rintro e wB ⟨rfl, R', hB⟩
          have hS4 := hS3.stepR hB
          have hB4 := (hB3.only hB.on hq4).alloc (.cells #[.int .i64 (N.tkV on).to, .string (N.tkV on).t] 37)
          have hB5 := lb_new wB (N.tkV on)
          have hS := hS4.below (grow1 wB (.cells #[.int .i64 (N.tkV on).to, .string (N.tkV on).t] 37))
          obtain ⟨f0, f1, -, -⟩ := hB4.facts
          obtain ⟨g0, g1, -, -⟩ := hB5.facts
          have hp' : Hid (N'.p = N0.p) := hA.p.trans hp.out
          have hrp' : Hid (R'.p = w2.heap.size) := hB.p.trans hrp.out
          have hrm' : Hid (N'.room = R'.room) := by show _ = _; rw [hA.room, hB.room]; exact hrm.out
          have hL' : Hid (N'.L = R'.L) := by show _ = _; rw [hA.L, hB.L]
          have hn' : N'.n ≤ k + 1 := by have := hA.n; omega
          have hlen' : N'.L.length ≤ 3000 := by have := hS.fn.net.len; have := hS.fn.net.rm; omega
          clear cR hS2 hS3 hS4 hP2 hP3 hB3 hB4 hB5 hA hB x0 x1 x2 x3 hp hrp hrm hL
          go_wp2_with fail
          generalize wB.alloc (.cells #[.int .i64 (N.tkV on).to, .string (N.tkV on).t] 37) = wS at *
          clear f0 f1 g0 g1
          have cA := all_any N' wS hS.fn.net
          rw [hp'.out] at cA
          go_wp2_with fail
          refine cA.mono ?_
          rintro e w5 ⟨u1, rfl, ho1, hb5⟩
          have hS5 := hS.below hb5
          have hs5 := hb5.size
          obtain ⟨a1, k1, rfl⟩ := own_form ho1
          have cB := rall_any R' w5 hS5.rf
          rw [hrp'.out, ← hL'.out] at cB
          clear cA
          go_wp2_with fail
          refine cB.mono ?_
          rintro e w6 ⟨u2, rfl, ho2, hb6⟩
          have hS6 := hS5.below hb6
          have ho1' := own_only ho1 (Only.of_below (S := []) hb6) (by simp)
          have hs6 := hb6.size
          obtain ⟨a2, k2, rfl⟩ := own_form ho2
          have cC := same_true _ _ N'.L w6 (by omega) (rdl_own ho1') (rdl_own ho2)
          clear cB ho2
          go_wp2_with fail
          refine cC.mono ?_
          rintro e w7 ⟨rfl, hb7⟩
          have hS7 := hS6.below hb7
          have ho1'' := own_only ho1' (Only.of_below (S := []) hb7) (by simp)
          have hs7 := hb7.size
          clear cC ho1 ho1'
          have cD := len_any N' w7 hS7.fn.net
          rw [hp'.out] at cD
          go_wp2_with fail
          refine cD.mono ?_
          rintro e w8 ⟨rfl, rfl⟩
          have cE := rlen_any R' w8 hS7.rf
          rw [hrp'.out, ← hL'.out] at cE
          clear cD
          go_wp2_with fail
          refine cE.mono ?_
          rintro e w9 ⟨rfl, rfl⟩
          clear cE
          have cF := written_any wS.heap.size N'.L.length _ _ w9 ho1'' (by omega) hlen'
          go_wp2_with fail
          refine cF.mono ?_
          rintro e wX ⟨rfl, hbX⟩
          have hSX := hS.bel hS7 hbX
          clear cF ho1'' hS hS5 hS6 hS7
          go_wp2_with fail
          exact ⟨⟨k + 1, N', R', by omega, by go_num, hSX, hp'.out, hrp'.out, hrm'.out, hL'.out, by omega⟩, by simp [Go.RowKit.intOf]; omega⟩
        · have y1 : (ok == 1) = false := by simp [k1]
          by_cases k2 : ok = 2
          · subst k2
            clear k0 k1 y0 y1
            have hS2 := hS1.drew
            have hP2 : PB _ wr.heap.size ⟨2, on, ox⟩ := hpb.only (Only.drew [] _) (by simp)
            have cN := fun W (h : IsNet W N) => double_any N on W h (by omega)
            have cR := fun W (h : IsRf W R) => rdouble_any R on W h
            rw [(dbE_eq hrm.out hL.out on).1, (dbE_eq hrm.out hL.out on).2] at cR
            rw [hp.out] at cN
            rw [hrp.out] at cR
            clear hS1 hS hpb
            go_wp2_with fail
            generalize wr.alloc (.cells #[.int .i64 2, .int .i64 on, .int .i64 ox.to, .string ox.t] 39) = W1 at *
            go_region_with (first
              | (go_at_call 17; refine (cN _ (by first | exact hS3.fn.net | exact hS2.fn.net)).mono ?_; rintro e wA ⟨rfl, N', hA⟩; first | (have hS4 := hS3.stepN hA; obtain ⟨wS, rfl⟩ : ∃ y, y = wA := ⟨_, rfl⟩) | (have hS3 := hS2.stepN hA; have hP3 := hP2.only hA.on hq1; obtain ⟨-, z2, -, z3⟩ := hP3.facts; simp only at z2 z3))
              | (go_at_call 18; refine (cR _ (by first | exact hS3.rf | exact hS2.rf)).mono ?_; rintro e wB ⟨rfl, R', hB⟩; first | (have hS4 := hS3.stepR hB; obtain ⟨wS, rfl⟩ : ∃ y, y = wB := ⟨_, rfl⟩) | (have hS3 := hS2.stepR hB; have hP3 := hP2.only hB.on hq2; obtain ⟨-, z2, -, z3⟩ := hP3.facts; simp only at z2 z3)))
            all_goals
              have hp' : Hid (N'.p = N0.p) := hA.p.trans hp.out
              have hrp' : Hid (R'.p = w2.heap.size) := hB.p.trans hrp.out
              have hrm' : Hid (N'.room = R'.room) := by show _ = _; rw [hA.room, hB.room]; exact hrm.out
              have hL' : Hid (N'.L = R'.L) := by show _ = _; rw [hA.L, hB.L]
              have hn' : N'.n ≤ k + 1 := by have := hA.n; omega
              have hlen' : N'.L.length ≤ 3000 := by have := hS4.fn.net.len; have := hS4.fn.net.rm; omega
              have hS := hS4
              clear hS4 hS3 hS2 hP2 hP3 hA hB cN cR x0 x1 x2 x3 z2 z3 hp hrp hrm hL
              have cA := all_any N' wS hS.fn.net
              rw [hp'.out] at cA
              go_wp2_with fail
              refine cA.mono ?_
              rintro e w5 ⟨u1, rfl, ho1, hb5⟩
              have hS5 := hS.below hb5
              have hs5 := hb5.size
              obtain ⟨a1, k1, rfl⟩ := own_form ho1
              have cB := rall_any R' w5 hS5.rf
              rw [hrp'.out, ← hL'.out] at cB
              clear cA
              go_wp2_with fail
              refine cB.mono ?_
              rintro e w6 ⟨u2, rfl, ho2, hb6⟩
              have hS6 := hS5.below hb6
              have ho1' := own_only ho1 (Only.of_below (S := []) hb6) (by simp)
              have hs6 := hb6.size
              obtain ⟨a2, k2, rfl⟩ := own_form ho2
              have cC := same_true _ _ N'.L w6 (by omega) (rdl_own ho1') (rdl_own ho2)
              clear cB ho2
              go_wp2_with fail
              refine cC.mono ?_
              rintro e w7 ⟨rfl, hb7⟩
              have hS7 := hS6.below hb7
              have ho1'' := own_only ho1' (Only.of_below (S := []) hb7) (by simp)
              have hs7 := hb7.size
              clear cC ho1 ho1'
              have cD := len_any N' w7 hS7.fn.net
              rw [hp'.out] at cD
              go_wp2_with fail
              refine cD.mono ?_
              rintro e w8 ⟨rfl, rfl⟩
              have cE := rlen_any R' w8 hS7.rf
              rw [hrp'.out, ← hL'.out] at cE
              clear cD
              go_wp2_with fail
              refine cE.mono ?_
              rintro e w9 ⟨rfl, rfl⟩
              clear cE
              have cF := written_any wS.heap.size N'.L.length _ _ w9 ho1'' (by omega) hlen'
              go_wp2_with fail
              refine cF.mono ?_
              rintro e wX ⟨rfl, hbX⟩
              have hSX := hS.bel hS7 hbX
              clear cF ho1'' hS hS5 hS6 hS7
              go_wp2_with fail
              exact ⟨⟨k + 1, N', R', by omega, by go_num, hSX, hp'.out, hrp'.out, hrm'.out, hL'.out, by omega⟩, by simp [Go.RowKit.intOf]; omega⟩
          · have y2 : (ok == 2) = false := by simp [k2]
            clear k0 k1 k2
            have hp' := hp
            have hrp' := hrp
            have hrm' := hrm
            have hL' := hL
            have hlen' := hlen
            have hS := hS1
            have hn' : N.n ≤ k + 1 := by omega
            clear hS1
            obtain ⟨N', rfl⟩ : ∃ x, x = N := ⟨_, rfl⟩
            obtain ⟨R', rfl⟩ : ∃ x, x = R := ⟨_, rfl⟩
            go_wp2_with fail
            generalize wr.alloc (.cells #[.int .i64 ok, .int .i64 on, .int .i64 ox.to, .string ox.t] 39) = wS at *
            have cA := all_any N' wS hS.fn.net
            rw [hp'.out] at cA
            go_wp2_with fail
            refine cA.mono ?_
            rintro e w5 ⟨u1, rfl, ho1, hb5⟩
            have hS5 := hS.below hb5
            have hs5 := hb5.size
            obtain ⟨a1, k1, rfl⟩ := own_form ho1
            have cB := rall_any R' w5 hS5.rf
            rw [hrp'.out, ← hL'.out] at cB
            clear cA
            go_wp2_with fail
            refine cB.mono ?_
            rintro e w6 ⟨u2, rfl, ho2, hb6⟩
            have hS6 := hS5.below hb6
            have ho1' := own_only ho1 (Only.of_below (S := []) hb6) (by simp)
            have hs6 := hb6.size
            obtain ⟨a2, k2, rfl⟩ := own_form ho2
            have cC := same_true _ _ N'.L w6 (by omega) (rdl_own ho1') (rdl_own ho2)
            clear cB ho2
            go_wp2_with fail
            refine cC.mono ?_
            rintro e w7 ⟨rfl, hb7⟩
            have hS7 := hS6.below hb7
            have ho1'' := own_only ho1' (Only.of_below (S := []) hb7) (by simp)
            have hs7 := hb7.size
            clear cC ho1 ho1'
            have cD := len_any N' w7 hS7.fn.net
            rw [hp'.out] at cD
            go_wp2_with fail
            refine cD.mono ?_
            rintro e w8 ⟨rfl, rfl⟩
            have cE := rlen_any R' w8 hS7.rf
            rw [hrp'.out, ← hL'.out] at cE
            clear cD
            go_wp2_with fail
            refine cE.mono ?_
            rintro e w9 ⟨rfl, rfl⟩
            clear cE
            have cF := written_any wS.heap.size N'.L.length _ _ w9 ho1'' (by omega) hlen'
            go_wp2_with fail
            refine cF.mono ?_
            rintro e wX ⟨rfl, hbX⟩
            have hSX := hS.bel hS7 hbX
            clear cF ho1'' hS hS5 hS6 hS7
            go_wp2_with fail
            exact ⟨⟨k + 1, N', R', by omega, by go_num, hSX, hp'.out, hrp'.out, hrm'.out, hL'.out, by omega⟩, by simp [Go.RowKit.intOf]; omega⟩
    · obtain rfl : k = l.length := by omega
      clear hrd hi
      have cA := all_any N wr hS.fn.net
      rw [hp.out] at cA
      go_wp2_with fail
      refine cA.mono ?_
      rintro e w5 ⟨u1, rfl, ho1, hb5⟩
      have hS5 := hS.below hb5
      obtain ⟨a1, k1, rfl⟩ := own_form ho1
      have cB := rall_any R w5 hS5.rf
      rw [hrp.out, ← hL.out] at cB
      have hlen : N.L.length ≤ 3000 := by have := hS.fn.net.len; have := hS.fn.net.rm; omega
      clear cA
      go_wp2_with fail
      refine cB.mono ?_
      rintro e w6 ⟨u2, rfl, ho2, hb6⟩
      have hS6 := hS5.below hb6
      have ho1' := own_only ho1 (Only.of_below (S := []) hb6) (by simp)
      obtain ⟨a2, k2, rfl⟩ := own_form ho2
      have cC := same_true _ _ N.L w6 (by omega) (rdl_own ho1') (rdl_own ho2)
      clear cB ho2
      go_wp2_with fail
      refine cC.mono ?_
      rintro e w7 ⟨rfl, hb7⟩
      have hS7 := hS6.below hb7
      have cD := len_any O w7 hS7.fo.net
      rw [L2.out] at cD
      clear cC
      go_wp2_with fail
      refine cD.mono ?_
      rintro e w8 ⟨rfl, rfl⟩
      go_wp2_with fail
      go_ret
      exact ⟨rfl, hS7.fn.bel⟩

theorem own : ownKnob Try.prog.godebug = none := by kernel_rfl
theorem laidOut : laidOutB Try.prog = true := by kernel_rfl

set_option maxRecDepth 20000 in
theorem contract (H : Type) (enc : TypeId × Value → H) (W : World) (base : Nat) (args : Array Value) (ds gs : List (DataW H)) (before : List MemPlace)
    (hval : ∀ (j : Nat) t v, Try.f4.params[j]? = some t → args[j]? = some v → Value.okWide Try.prog W .any base t v)
    (hW : DataW.Whole enc Try.prog Try.f4.params.toList Rows.netScriptsSpec.vars false W args.toList ds gs before) (hsz0 : (DataW.weightsEach Try.prog (Try.f4.params.toList ++ Rows.netScriptsSpec.plain.varTypes Try.prog) (ds ++ gs)).all (· ≤ reachBytes) = true) :
    Calls Try.prog 4 args W fun e W' => ∃ v, e = .returned v ∧ Rows.netScriptsSpec.post enc Try.prog Try.f4 false true false false W args v W' := by
  have hW' := hW
  obtain ⟨p, q, hA0, hV, rfl, hfz, hnd⟩ := hW
  have hA : DataW.TrodAll enc Try.prog W 0 (fun _ => true) true Try.f4.params.toList args.toList ds p := hA0
  rw [Try.params4] at hA hval hsz0
  obtain ⟨v0, vs0, d0, ds0, p0, q0, hargs, rfl, rfl, h0, r0⟩ := trodAll_cons hA
  obtain ⟨v1, vs1, d1, ds1, p1, q1, rfl, rfl, rfl, h1, r1⟩ := trodAll_cons r0
  obtain ⟨rfl, rfl, rfl⟩ := trodAll_nil r1
  obtain rfl : args = #[v0, v1] := by cases args; simp_all
  obtain ⟨rfl, rfl⟩ := trodVars_none hV
  have k0 := h0
  have lt0 : ∀ x ∈ p0, x.block < W.heap.size := by obtain ⟨m, hm⟩ := k0; exact DataW.trod_lt m _ _ _ hm
  have k1 := h1
  have lt1 : ∀ x ∈ p1, x.block < W.heap.size := by obtain ⟨m, hm⟩ := k1; exact DataW.trod_lt m _ _ _ hm
  obtain ⟨a0, rfl, rfl, rfl, w0⟩ := open_int Try.underlying3 (hval 0 3 v0 rfl rfl) h0
  obtain ⟨a1, len1, cap1, rfl⟩ := okWide_slice Try.underlying34 (hval 1 34 v1 rfl rfl)
  obtain ⟨fuel1, hf1⟩ := h1
  have z1 : ∀ n ∈ d1.weights Try.prog 34, n ≤ reachBytes := fun n hn => by simpa using List.all_eq_true.1 hsz0 n (DataW.weights_mem_each (j := 1) (t := 34) (d := d1) rfl rfl n hn)
  obtain ⟨l1, rd1, ln1, ok1⟩ := open_nop hf1 z1
  clear hA0
  simp only [List.append_nil] at hW'
  refine (walk a0 (.slice a1 len1 cap1) l1 W (wf_bd w0).1 (wf_bd w0).2 rd1 ln1 ok1).mono fun e W' ⟨he, bel⟩ => ?_
  subst he
  exact ⟨_, rfl, _, _, _, [], _, [], hW', trodAll_mk1 (shut_bool Try.underlying4 _), (trodAll_cons_mk (Below.trod laidOut (by kernel_rfl) (of_decide_eq_true (by kernel_rfl)) k0 bel lt0) (trodAll_cons_mk (Below.trod laidOut (by kernel_rfl) (of_decide_eq_true (by kernel_rfl)) k1 bel lt1) trodAll_mk0)), rfl, bel.frame _, fun h => by cases h⟩

set_option maxRecDepth 100000 in
theorem lifted (os : Os) (started : os.Started) (H : Type) (enc : TypeId × Value → H) :
    ReturnsInHanded {} Try.checked os 4 .any (Rows.netScriptsSpec.pre6 enc Try.prog Try.f4 Rows.netScriptsRow.domain false) (Rows.netScriptsSpec.post enc Try.prog Try.f4 false true false false) := by
  refine returnsInHanded_of_change_sized (C := Try.checked) own started (by kernel_rfl) Try.func4
    (ChangeSpec.witness6 (enc := enc) (C := Try.checked) false ⟨#[], #[.int .i64 0, .slice none 0 0], []⟩ 8 (by kernel_rfl) (by kernel_rfl) (by kernel_rfl) (by kernel_rfl)) ?_
  intro W base args ds gs before hval hW _ hsz _
  exact contract H enc W base args ds gs before hval hW hsz

theorem holds : Rows.NetScriptsSaid :=
  OpenClaim.holds_of_wide 4 Try.f4 rfl rfl rfl rfl rfl rfl rfl ⟨rfl, rfl, rfl, rfl, rfl⟩ rfl rfl rfl rfl rfl (by kernel_rfl) Try.func4 (by kernel_rfl)
    (of_decide_eq_true (by kernel_rfl)) (by unfold Func.isWrapper; first | (rw [if_pos (by decide +kernel)]; kernel_rfl) | (rw [if_neg (by decide +kernel)]; exact ⟨rfl, rfl⟩))
    (fun os started H enc _ => lifted os started H enc)
end Go.Proofs.Ytdkhfehoohiflaa.netScripts
namespace Go.Proofs.Ytdkhfehoohiflaa
theorem netScripts_holds : Rows.NetScriptsSaid := netScripts.holds
#print axioms netScripts_holds
end Go.Proofs.Ytdkhfehoohiflaa
