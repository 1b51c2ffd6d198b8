/-
  Proved: no letter is made up, and none gets lost; what was only sent keeps its order (the law NetKeeps), for every input.
-/
import Derived.Test.YtdkhfehoohiflaaNtS
import Derived.ChangeOld
import Derived.Deep.CutBlock
namespace Go.Proofs.Ytdkhfehoohiflaa.netKeeps
open Go.Proofs.Ytdkhfehoohiflaa.nt
open Go.RowKit Go.ChangeShapes Go.WideShapes Go.ChangeAt Go.PlainAid

theorem rdl_one {W : World} {b off n cp : Nat} {l : List LtD} (h : RdL W (.slice (some ⟨b, off, none⟩) n cp) l) {k : Nat} {x : LtD} (hk : l[k]? = some x) : W.cell? ⟨b, off + k * 2, none⟩ = some (.int .i64 x.to) ∧ W.cell? ⟨b, off + k * 2 + 1, none⟩ = some (.string x.t) := by
  obtain ⟨b', off', e, _, c0, c1⟩ := rdl_cells rfl h hk
  cases e
  exact ⟨c0, c1⟩

set_option maxRecDepth 20000 in
set_option maxHeartbeats 6000000 in
theorem walk (room : Int) (v : Value) (l : List CaD) (w : World) (b0 : -9223372036854775808 ≤ room) (b1 : room ≤ 9223372036854775807) (hr : RdC w v l) (hm : l.length ≤ 4398046511104) (_hi : ∀ o ∈ l, o.Bd) :
    Calls Try.prog 5 #[.int .i64 room, v] w fun e w' => e = .returned (.bool true) ∧ Below w.heap.size w w' := by
  have c0 := pick_any room 200 w (by decide) (by decide) b0 b1
  have hq : pickD room 200 ≤ 199 := by unfold pickD; have := Nat.mod_lt (if room < 0 then -(room + 1) else room).toNat (show 0 < 200 by decide); omega
  generalize pickD room 200 = q at *
  obtain ⟨ao, cp, rfl, hrd⟩ := hr
  have q1 : (1 : Int) ≤ 1 + (q : Int) := by omega
  have q2 : 1 + (q : Int) ≤ 3000 := by omega
  clear b0 b1
  go_enter Try.func5, Try.ntmps5
  go_wp2_with fail
  refine c0.mono ?_
  rintro e w0 ⟨rfl, rfl⟩
  have c1 := new_fr (1 + (q : Int)) w0 q1 q2
  clear c0
  go_wp2_with fail
  refine c1.mono ?_
  rintro e w1 ⟨N0, rfl, -, L1, n1, f1⟩
  have c4 := begun_any w1
  clear c1
  go_wp2_with fail
  refine c4.mono ?_
  rintro e w4 ⟨rfl, hb4⟩
  have hs := f1.below hb4
  clear c4 hb4 f1
  have hk0 : Km w0 w4 N0 (.slice none 0 0) (.slice none 0 0) [] [] := ⟨hs, World.ownsRow_nil _ _ _ _, World.ownsRow_nil _ _ _ _, by simp [Value.ownBlock], by simp [Value.ownBlock], by simp [Value.ownBlock]⟩
  have hd0 : Kd N0.L [] [] false := by rw [L1]; exact Kd.nil
  go_wp2_with fail
  go_loopw [7, 8, 9, 10] (fun sa sb sd i wr => ∃ (k : Nat) (N : NtS) (A B : List LtD) (dbl : Bool), k ≤ l.length ∧ i = .int .i64 (k : Int) ∧ sd = .bool dbl ∧ Km w0 wr N sa sb A B ∧ Kd N.L A B dbl ∧ N.p = N0.p ∧ N.n ≤ k ∧ A.length ≤ k ∧ B.length ≤ k) (fun _ _ _ i _ => l.length - (Go.RowKit.intOf i).toNat)
  case atStart => exact ⟨0, N0, [], [], false, Nat.zero_le _, rfl, rfl, hk0, hd0, rfl, by omega, Nat.le_refl _, Nat.le_refl _⟩
  case round =>
    clear hs L1 n1 hk0 hd0
    obtain ⟨k, N, A, B, dbl, hk, rfl, rfl, hK, hD, hp0, hn, hA', hB'⟩ := hrel
    have hp : Hid (N.p = N0.p) := hp0
    clear hp0
    obtain ⟨aA, kA, rfl⟩ := own_form hK.ra
    obtain ⟨aB, kB, rfl⟩ := own_form hK.rb
    by_cases hlt : k < l.length
    · have hlt' : (k : Int) < (l.length : Int) := by omega
      obtain ⟨b, off, rfl, hbw, d0, d1, d2, d3⟩ := hrd k l[k] (by simp [hlt])
      have g : ∀ j, wr.cell? ⟨b, j, none⟩ = w0.cell? ⟨b, j, none⟩ := fun j => hK.fn.bel.cell (p := ⟨b, j, none⟩) hbw
      rw [← g] at d0 d1 d2 d3
      generalize l[k] = o at *
      obtain ⟨ok, on, ox⟩ := o
      simp only at d0 d1 d2 d3
      have hG := grow1 wr (.cells #[.int .i64 ok, .int .i64 on, .int .i64 ox.to, .string ox.t] 39)
      have hpb : PB (wr.alloc (.cells #[.int .i64 ok, .int .i64 on, .int .i64 ox.to, .string ox.t] 39)) wr.heap.size ⟨ok, on, ox⟩ := heap_alloc_new wr _
      have cW := all_any N _ (hK.below hG).fn.net
      rw [hp.out] at cW
      have hq1 : wr.heap.size ∉ N.bl := fun e => Nat.lt_irrefl _ (hK.fn.net.lt _ e)
      clear hrd g
      go_wp2_with fail
      refine cW.mono ?_
      rintro e w5 ⟨u1, rfl, ho1, hb5⟩
      obtain ⟨a1, k1, rfl⟩ := own_form ho1
      have hpb := hpb.only (Only.of_below (S := []) hb5) (by simp)
      obtain ⟨x0, x1, x2, x3⟩ := hpb.facts
      simp only at x0 x1 x2 x3
      clear cW
      have hKlt := hK.fn.net.lt
      have hK := (hK.below hG).below hb5
      have hs5 : wr.heap.size + 1 ≤ w5.heap.size := by have := hb5.size; simpa using this
      go_upto_block 2 with fail
      go_cut [7, 8, 9] (fun sa sb sd wx => ∃ (N' : NtS) (A' B' : List LtD) (dbl' : Bool), sd = .bool dbl' ∧ Km w0 wx N' sa sb A' B' ∧ Kd N'.L A' B' dbl' ∧ N'.p = N0.p ∧ N'.n ≤ k + 1 ∧ A'.length ≤ k + 1 ∧ B'.length ≤ k + 1)
      case first =>
        by_cases k0 : ok = 0
        · subst k0
          have cS := send_any N ox w5 hK.fn.net (by omega)
          rw [hp.out] at cS
          by_cases hE : N.sdE ox = 0
          · have e2 : N.sdL ox = N.L ++ [ox] := by unfold NtS.sdL; rw [if_pos hE]
            rw [hE, e2] at cS
            unfold LtD.v at cS
            clear hE e2
            go_wp2_with (first
              | (go_at_call 13; refine cS.mono ?_; rintro e wA ⟨rfl, N', hA⟩; have hK6 := hK.step hA; have hP6 := hpb.only hA.on hq1; obtain ⟨-, -, z2, z3⟩ := hP6.facts; simp only at z2 z3; have hK7 := hK6.below (grow1 wA (.cells #[.int .i64 ox.to, .string ox.t] 37)))
              | (with_reducible refine at_append _ _ _ rfl ?_; refine wpList_app_one _ rfl _ _ rfl w0.heap.size (.slice aA A.length kA) A ox wA.heap.size rfl rfl (heap_alloc_new wA _) hK7.ra hK7.fn.bel.size (by omega) ?_; intro u' w9 ho9 hg9 hq9; have hK9 := hK7.inA ho9 hg9 hq9))
            go_meet
            exact ⟨N', A ++ [ox], B, dbl, rfl, hK9, by rw [hA.L]; exact hD.send ox, hA.p.trans hp.out, by have := hA.n; omega, by simp; omega, by omega⟩
          · have e2 : N.sdL ox = N.L := by unfold NtS.sdL; rw [if_neg hE]
            have hE' : (N.sdE ox == 0) = false := by simp [hE]
            rw [e2] at cS
            unfold LtD.v at cS
            clear hE e2
            generalize N.sdE ox = E at *
            go_wp2_with (go_at_call 13; refine cS.mono ?_; rintro e wA ⟨rfl, N', hA⟩; have hK6 := hK.step hA)
            go_meet
            exact ⟨N', A, B, dbl, rfl, hK6, by rw [hA.L]; exact hD, hA.p.trans hp.out, by have := hA.n; omega, by omega, by omega⟩
        · have y0 : (ok == 0) = false := by simp [k0]
          by_cases k1 : ok = 1
          · subst k1
            clear k0 y0
            have cT := take_any N on w5 hK.fn.net (by omega)
            rw [hp.out] at cT
            by_cases hI : N.hasI on = true
            · obtain ⟨kk, rfl⟩ := Int.eq_ofNat_of_zero_le (hasI_iff.1 hI).1
              have hkk : kk < N.L.length := by have := (hasI_iff.1 hI).2; omega
              have hx : N.L[kk]? = some N.L[kk] := by simp [hkk]
              have e1 : N.tkV kk = N.L[kk] := by unfold NtS.tkV; rw [if_pos hI]; simp [hkk]
              have e2 : N.tkE kk = 0 := by unfold NtS.tkE; rw [if_pos hI]
              have e3 : N.tkL kk = N.L.eraseIdx kk := by unfold NtS.tkL; rw [if_pos hI]; simp
              have hD2 := hD.take hx
              rw [e1, e2, e3] at cT
              generalize N.L[kk] = x at *
              unfold LtD.v at cT
              clear hI e1 e2 e3 hx
              go_wp2_with (first
                | (go_at_call 15; refine cT.mono ?_; rintro e wA ⟨rfl, N', hA⟩; have hK6 := hK.step hA; have hG6 := grow1 wA (.cells #[.int .i64 x.to, .string x.t] 37); have hK7 := hK6.below hG6; obtain ⟨z0, z1, -, -⟩ := (lb_new wA x).facts; have hs6 : (wA.alloc (.cells #[.int .i64 x.to, .string x.t] 37)).heap.size = wA.heap.size + 1 := by simp
                   have hG7 := grow1 (wA.alloc (.cells #[.int .i64 x.to, .string x.t] 37)) (.cells #[.int .i64 x.to, .string x.t] 37); have hK8 := hK7.below hG7; have hN8 := heap_alloc_new (wA.alloc (.cells #[.int .i64 x.to, .string x.t] 37)) (.cells #[.int .i64 x.to, .string x.t] 37); rw [hs6] at hN8; clear hs6)
                | (with_reducible refine at_append _ _ _ rfl ?_; refine wpList_app_one _ rfl _ _ rfl w0.heap.size (.slice aB B.length kB) B x (wA.heap.size + 1) rfl rfl hN8 hK8.rb hK8.fn.bel.size (by omega) ?_; intro u' w9 ho9 hg9 hq9; have hK9 := hK8.inB ho9 hg9 hq9))
              go_meet
              exact ⟨N', A, B ++ [x], dbl, rfl, hK9, by rw [hA.L]; exact hD2, hA.p.trans hp.out, by have := hA.n; omega, by omega, by simp; omega⟩
            · have e1 : N.tkV on = noL := by unfold NtS.tkV; rw [if_neg hI]
              have e2 : N.tkE on = 171 := by unfold NtS.tkE; rw [if_neg hI]
              have e3 : N.tkL on = N.L := by unfold NtS.tkL; rw [if_neg hI]
              rw [e1, e2, e3] at cT
              unfold LtD.v noL at cT
              clear hI e1 e2 e3
              go_wp2_with (go_at_call 15; refine cT.mono ?_; rintro e wA ⟨rfl, N', hA⟩; have hK6 := hK.step hA; have hK7 := hK6.below (grow1 wA (.cells #[.int .i64 0, .string ⟨#[]⟩] 37)))
              go_meet
              exact ⟨N', A, B, dbl, rfl, hK7, by rw [hA.L]; exact hD, hA.p.trans hp.out, by have := hA.n; omega, by omega, by omega⟩
          · have y1 : (ok == 1) = false := by simp [k1]
            by_cases k2 : ok = 2
            · subst k2
              clear k0 k1 y0 y1
              have cD := double_any N on w5 hK.fn.net (by omega)
              rw [hp.out] at cD
              by_cases hE : N.dbE on = 0
              · have hI : N.hasI on = true := by
                  by_cases hI : N.hasI on = true
                  · exact hI
                  · unfold NtS.dbE at hE
                    rw [if_neg hI] at hE
                    cases hE
                obtain ⟨kk, rfl⟩ := Int.eq_ofNat_of_zero_le (hasI_iff.1 hI).1
                have hkk' := (hasI_iff.1 hI).2
                have hkk : kk < N.L.length := by omega
                have hx : N.L[kk]? = some N.L[kk] := by simp [hkk]
                have e2 : N.dbL kk = N.L ++ [N.L[kk]] := by unfold NtS.dbL; rw [if_pos hE]; simp [hkk]
                rw [hE, e2] at cD
                have hq5 : ∀ g, (Value.slice a1 N.L.length k1).ownBlock = some g → g ∉ N.bl := fun g hg e => by
                  have h1 := (ho1.lt g hg).1
                  have h2 := (hK.fn.net.lt g e)
                  have h3 := hKlt g e
                  simp at h1
                  omega
                have rW := fun W (h : Only N.bl w5 W) => rdl_own (own_only ho1 h hq5)
                obtain ⟨b5, o5, e5, -, -, -⟩ := rdl_cells rfl (rdl_own ho1) hx
                subst e5
                generalize N.L[kk] = x at *
                have hk2 : ¬ (kk : Int) < 0 := by omega
                have hk3 : ¬ (N.L.length : Int) ≤ (kk : Int) := by omega
                clear hI hE e2 hq5 ho1
                go_wp2_with (first
                  | (go_at_call 17; refine cD.mono ?_; rintro e wA ⟨rfl, N', hA⟩; have hK6 := hK.step hA; have hP6 := hpb.only hA.on hq1; obtain ⟨-, z1, -, -⟩ := hP6.facts; simp only at z1; have hK7 := hK6.below (grow1 wA (.cells #[.int .i64 x.to, .string x.t] 37)); obtain ⟨m0, m1⟩ := rdl_one (rW _ hA.on) hx)
                  | (with_reducible refine at_append _ _ _ rfl ?_; refine wpList_app_one _ rfl _ _ rfl w0.heap.size (.slice aA A.length kA) A x wA.heap.size rfl rfl (heap_alloc_new wA _) hK7.ra hK7.fn.bel.size (by omega) ?_; intro u' w9 ho9 hg9 hq9; have hK9 := hK7.inA ho9 hg9 hq9))
                go_meet
                exact ⟨N', A ++ [x], B, true, rfl, hK9, by rw [hA.L]; exact hD.dbl x, hA.p.trans hp.out, by have := hA.n; omega, by simp; omega, by omega⟩
              · have e2 : N.dbL on = N.L := by unfold NtS.dbL; rw [if_neg hE]
                have hE' : (N.dbE on == 0) = false := by simp [hE]
                rw [e2] at cD
                clear hE e2
                generalize N.dbE on = E at *
                go_wp2_with (go_at_call 17; refine cD.mono ?_; rintro e wA ⟨rfl, N', hA⟩; have hK6 := hK.step hA)
                go_meet
                exact ⟨N', A, B, dbl, rfl, hK6, by rw [hA.L]; exact hD, hA.p.trans hp.out, by have := hA.n; omega, by omega, by omega⟩
            · have y2 : (ok == 2) = false := by simp [k2]
              clear k0 k1 k2
              go_wp2_with fail
              go_meet
              exact ⟨N, A, B, dbl, rfl, hK, hD, hp.out, by omega, by omega, by omega⟩
      case rest =>
        clear ho1 x0 x1 x2 x3 hpb hb5 hG hK hD hp hn hA' hB' hq1 hs5 hKlt
        obtain ⟨N', A', B', dbl', rfl, hK, hD, hp0, hn', hA9, hB9⟩ := hcut
        have hp' : Hid (N'.p = N0.p) := hp0
        clear hp0
        obtain ⟨aA, kA, rfl⟩ := own_form hK.ra
        obtain ⟨aB, kB, rfl⟩ := own_form hK.rb
        obtain ⟨wS, rfl⟩ : ∃ y, y = wc := ⟨_, rfl⟩
        have cL := all_any N' wS hK.fn.net
        rw [hp'.out] at cL
        have hlen' : N'.L.length ≤ 3000 := by have := hK.fn.net.len; have := hK.fn.net.rm; omega
        go_wp2_with fail
        refine cL.mono ?_
        rintro e w6 ⟨u2, rfl, ho2, hb6⟩
        have hK6 := hK.below hb6
        obtain ⟨a2, k2, rfl⟩ := own_form ho2
        have hln : (A'.length : Int) - (B'.length : Int) = (N'.L.length : Int) := by have := hD.ln; omega
        have rL := rdl_own ho2
        have rA := rdl_own hK6.ra
        have rB := rdl_own hK6.rb
        have cl : ∀ (x : LtD) (W : World), Below w6.heap.size w6 W → Calls Try.prog 23 #[.slice a2 N'.L.length k2, x.v] W (fun e w' => e = .returned (.int .i64 (cnt N'.L x : Int)) ∧ Below W.heap.size W w') := fun x W hb => count_any _ N'.L x W (rL.below hb) (by omega)
        have ca : ∀ (x : LtD) (W : World), Below w6.heap.size w6 W → Calls Try.prog 23 #[.slice aA A'.length kA, x.v] W (fun e w' => e = .returned (.int .i64 (cnt A' x : Int)) ∧ Below W.heap.size W w') := fun x W hb => count_any _ A' x W (rA.below hb) (by omega)
        have cb : ∀ (x : LtD) (W : World), Below w6.heap.size w6 W → Calls Try.prog 23 #[.slice aB B'.length kB, x.v] W (fun e w' => e = .returned (.int .i64 (cnt B' x : Int)) ∧ Below W.heap.size W w') := fun x W hb => count_any _ B' x W (rB.below hb) (by omega)
        clear cL hK ho2
        go_wp2_with fail
        obtain ⟨wq, rfl⟩ : ∃ y, y = wr := ⟨_, rfl⟩
        go_loopw [16] (fun i wr => ∃ j : Nat, j ≤ N'.L.length ∧ i = .int .i64 (j : Int) ∧ Below w6.heap.size w6 wr) (fun i _ => N'.L.length - (Go.RowKit.intOf i).toNat)
        case atStart => exact ⟨0, Nat.zero_le _, rfl, Below.refl _ _⟩
        case round =>
          obtain ⟨j, hj, rfl, hbc⟩ := hrel
          by_cases hlj : j < N'.L.length
          · have hlj' : (j : Int) < (N'.L.length : Int) := by omega
            obtain ⟨b2, o2, rfl, hb2, -, -⟩ := rdl_cells rfl rL (k := j) (x := N'.L[j]) (by simp [hlj])
            have hcl := fun W (hb : Below w6.heap.size w6 W) => rdl_one (rL.below hb) (k := j) (x := N'.L[j]) (by simp [hlj])
            have hct : (cnt A' N'.L[j] : Int) - (cnt B' N'.L[j] : Int) = (cnt N'.L N'.L[j] : Int) := by have := hD.ct N'.L[j]; omega
            have cl := cl N'.L[j]
            have ca := ca N'.L[j]
            have cb := cb N'.L[j]
            have n1 := cnt_le A' N'.L[j]
            have n2 := cnt_le B' N'.L[j]
            have hwq : Hid (IntKind.i64.wrap (cnt N'.L N'.L[j] : Int) = (cnt N'.L N'.L[j] : Int)) := by
              have n3 := cnt_le N'.L N'.L[j]
              show IntKind.i64.wrap (cnt N'.L N'.L[j] : Int) = (cnt N'.L N'.L[j] : Int)
              rw [IntKind.wrap_i64]
              omega
            generalize N'.L[j] = x at *
            generalize cnt A' x = qa at *
            generalize cnt B' x = qb at *
            generalize cnt N'.L x = ql at *
            unfold LtD.v at cl ca cb
            obtain ⟨z0, z1⟩ := hcl _ hbc
            clear rL rA rB hK6 hD
            go_upto_region 32 with fail
            go_cut [138] (fun t wx => t = .bool false ∧ Below w6.heap.size w6 wx)
            case first =>
              replace hbc := Below.drew hbc
              go_region_with (first
                | (go_at_call_of 23 (Value.slice (some ⟨b2, o2, none⟩) N'.L.length k2); refine (cl _ hbc).mono ?_; rintro e w8 ⟨rfl, q8⟩; replace hbc := chain hbc q8; obtain ⟨z0, z1⟩ := hcl _ hbc)
                | (go_at_call_of 23 (Value.slice aA A'.length kA); refine (ca _ hbc).mono ?_; rintro e w8 ⟨rfl, q8⟩; replace hbc := chain hbc q8; obtain ⟨z0, z1⟩ := hcl _ hbc)
                | (go_at_call_of 23 (Value.slice aB B'.length kB); refine (cb _ hbc).mono ?_; rintro e w8 ⟨rfl, q8⟩; replace hbc := chain hbc q8; obtain ⟨z0, z1⟩ := hcl _ hbc))
              all_goals (go_wp2_with fail)
              all_goals
                go_meet
                exact ⟨by have := hwq.out; simp [this], hbc⟩
            case rest =>
              obtain ⟨rfl, hbc⟩ := hcut
              clear cl ca cb hcl z0 z1 hct hwq
              go_wp2_with fail
              exact ⟨⟨j + 1, by omega, by go_num, hbc⟩, by simp [Go.RowKit.intOf]; omega⟩
          · obtain rfl : j = N'.L.length := by omega
            have hKX := hK6.below hbc
            clear cl ca cb rL rA rB hK6
            go_wp2_with fail
            exact ⟨⟨k + 1, N', A', B', _, by omega, by go_num, rfl, hKX, hD, hp'.out, hn', hA9, hB9⟩, by simp [Go.RowKit.intOf]; omega⟩
    · obtain rfl : k = l.length := by omega
      clear hrd
      have cA := all_any N wr hK.fn.net
      rw [hp.out] at cA
      have hlen : N.L.length ≤ 3000 := by have := hK.fn.net.len; have := hK.fn.net.rm; omega
      have hgr : Hid (dbl = false → 0 + grd (A.drop 0) (N.L.drop 0) = N.L.length) := fun e => by rw [Nat.zero_add]; exact grd_all _ _ (hD.sb e)
      go_wp2_with fail
      refine cA.mono ?_
      rintro e w5 ⟨u1, rfl, ho1, hb5⟩
      have hB5 := chain hK.fn.bel hb5
      have rL := rdl_own ho1
      obtain ⟨a1, k1, rfl⟩ := own_form ho1
      have rA := rdl_own (hK.below hb5).ra
      clear cA hK hD ho1 hb5
      go_wp2_with fail
      obtain ⟨wq, rfl⟩ : ∃ y, y = wr := ⟨_, rfl⟩
      go_loopw [17, 19] (fun sa si wr => ∃ (i a : Nat), i ≤ A.length ∧ a ≤ N.L.length ∧ si = .int .i64 (i : Int) ∧ sa = .int .i64 (a : Int) ∧ Hid (dbl = false → a + grd (A.drop i) (N.L.drop a) = N.L.length) ∧ Below w5.heap.size w5 wr) (fun _ i _ => A.length - (Go.RowKit.intOf i).toNat)
      case atStart => exact ⟨0, 0, Nat.zero_le _, Nat.zero_le _, rfl, rfl, hgr, Below.refl _ _⟩
      case round =>
        obtain ⟨i, a, hi1, ha1, rfl, rfl, hg, hbc⟩ := hrel
        clear hgr
        by_cases hiA : i < A.length
        · have hiA' : (i : Int) < (A.length : Int) := by omega
          by_cases haL : a < N.L.length
          · have haL' : (a : Int) < (N.L.length : Int) := by omega
            obtain ⟨b2, o2, rfl, -, -, -⟩ := rdl_cells rfl rL (k := a) (x := N.L[a]) (by simp [haL])
            obtain ⟨b3, o3, rfl, -, -, -⟩ := rdl_cells rfl rA (k := i) (x := A[i]) (by simp [hiA])
            obtain ⟨z0, z1⟩ := rdl_one (rL.below hbc) (k := a) (x := N.L[a]) (by simp [haL])
            obtain ⟨y0, y1⟩ := rdl_one (rA.below hbc) (k := i) (x := A[i]) (by simp [hiA])
            have eA : A.drop i = A[i] :: A.drop (i + 1) := List.drop_eq_getElem_cons hiA
            have eL : N.L.drop a = N.L[a] :: N.L.drop (a + 1) := List.drop_eq_getElem_cons haL
            by_cases he : A[i] = N.L[a]
            · have hg2 : Hid (dbl = false → (a + 1) + grd (A.drop (i + 1)) (N.L.drop (a + 1)) = N.L.length) := fun e => by
                have := hg.out e
                rw [eA, eL, grd, if_pos he] at this
                omega
              rw [he] at y0 y1
              generalize N.L[a] = x at *
              clear eA eL he hg rL rA
              go_wp2_with fail
              go_region
              go_wp2_with fail
              exact ⟨⟨i + 1, a + 1, by omega, by omega, by go_num, by go_num, hg2, Below.drew hbc⟩, by simp [Go.RowKit.intOf]; omega⟩
            · have hg2 : Hid (dbl = false → a + grd (A.drop (i + 1)) (N.L.drop a) = N.L.length) := fun e => by
                have := hg.out e
                rw [eA, eL, grd, if_neg he, ← eL] at this
                exact this
              generalize N.L[a] = x at *
              generalize A[i] = y at *
              clear eA eL hg rL rA
              by_cases h1 : y.to = x.to
              · have h2 : ¬ y.t.toList = x.t.toList := str_ne (fun h2 => he (by
                  cases x; cases y
                  simp at h1 h2
                  rw [h1, h2]))
                have h1' : (y.to == x.to) = true := by simp [h1]
                clear he h1
                go_wp2_with fail
                go_region
                go_wp2_with fail
                exact ⟨⟨i + 1, a, by omega, by omega, by go_num, rfl, hg2, Below.drew hbc⟩, by simp [Go.RowKit.intOf]; omega⟩
              · have h1' : (y.to == x.to) = false := by simp [h1]
                clear he h1
                go_wp2_with fail
                go_region
                go_wp2_with fail
                exact ⟨⟨i + 1, a, by omega, by omega, by go_num, rfl, hg2, Below.drew hbc⟩, by simp [Go.RowKit.intOf]; omega⟩
          · obtain rfl : a = N.L.length := by omega
            clear rL rA hg
            cases dbl
            · go_wp2_with fail
              go_ret
              exact ⟨rfl, chain hB5 hbc⟩
            · go_wp2_with fail
              go_ret
              exact ⟨rfl, chain hB5 hbc⟩
        · obtain rfl : i = A.length := by omega
          cases dbl
          · have : a = N.L.length := by have := hg.out rfl; rw [List.drop_length] at this; simpa [grd] using this
            subst this
            clear rL rA hg
            go_wp2_with fail
            go_ret
            exact ⟨rfl, chain hB5 hbc⟩
          · clear rL rA hg
            go_wp2_with fail
            go_ret
            exact ⟨rfl, chain hB5 hbc⟩

theorem own : ownKnob Try.prog.godebug = none := by kernel_rfl
theorem laidOut : laidOutB Try.prog = true := by kernel_rfl

set_option maxRecDepth 20000 in
theorem contract (H : Type) (enc : TypeId × Value → H) (W : World) (base : Nat) (args : Array Value) (ds gs : List (DataW H)) (before : List MemPlace)
    (hval : ∀ (j : Nat) t v, Try.f5.params[j]? = some t → args[j]? = some v → Value.okWide Try.prog W .any base t v)
    (hW : DataW.Whole enc Try.prog Try.f5.params.toList Rows.netKeepsSpec.vars false W args.toList ds gs before) (hsz0 : (DataW.weightsEach Try.prog (Try.f5.params.toList ++ Rows.netKeepsSpec.plain.varTypes Try.prog) (ds ++ gs)).all (· ≤ reachBytes) = true) :
    Calls Try.prog 5 args W fun e W' => ∃ v, e = .returned v ∧ Rows.netKeepsSpec.post enc Try.prog Try.f5 false true false false W args v W' := by
  have hW' := hW
  obtain ⟨p, q, hA0, hV, rfl, hfz, hnd⟩ := hW
  have hA : DataW.TrodAll enc Try.prog W 0 (fun _ => true) true Try.f5.params.toList args.toList ds p := hA0
  rw [Try.params5] at hA hval hsz0
  obtain ⟨v0, vs0, d0, ds0, p0, q0, hargs, rfl, rfl, h0, r0⟩ := trodAll_cons hA
  obtain ⟨v1, vs1, d1, ds1, p1, q1, rfl, rfl, rfl, h1, r1⟩ := trodAll_cons r0
  obtain ⟨rfl, rfl, rfl⟩ := trodAll_nil r1
  obtain rfl : args = #[v0, v1] := by cases args; simp_all
  obtain ⟨rfl, rfl⟩ := trodVars_none hV
  have k0 := h0
  have lt0 : ∀ x ∈ p0, x.block < W.heap.size := by obtain ⟨m, hm⟩ := k0; exact DataW.trod_lt m _ _ _ hm
  have k1 := h1
  have lt1 : ∀ x ∈ p1, x.block < W.heap.size := by obtain ⟨m, hm⟩ := k1; exact DataW.trod_lt m _ _ _ hm
  obtain ⟨a0, rfl, rfl, rfl, w0⟩ := open_int Try.underlying3 (hval 0 3 v0 rfl rfl) h0
  obtain ⟨a1, len1, cap1, rfl⟩ := okWide_slice Try.underlying34 (hval 1 34 v1 rfl rfl)
  obtain ⟨fuel1, hf1⟩ := h1
  have z1 : ∀ n ∈ d1.weights Try.prog 34, n ≤ reachBytes := fun n hn => by simpa using List.all_eq_true.1 hsz0 n (DataW.weights_mem_each (j := 1) (t := 34) (d := d1) rfl rfl n hn)
  obtain ⟨l1, rd1, ln1, ok1⟩ := open_nop hf1 z1
  clear hA0
  simp only [List.append_nil] at hW'
  refine (walk a0 (.slice a1 len1 cap1) l1 W (wf_bd w0).1 (wf_bd w0).2 rd1 ln1 ok1).mono fun e W' ⟨he, bel⟩ => ?_
  subst he
  exact ⟨_, rfl, _, _, _, [], _, [], hW', trodAll_mk1 (shut_bool Try.underlying4 _), (trodAll_cons_mk (Below.trod laidOut (by kernel_rfl) (of_decide_eq_true (by kernel_rfl)) k0 bel lt0) (trodAll_cons_mk (Below.trod laidOut (by kernel_rfl) (of_decide_eq_true (by kernel_rfl)) k1 bel lt1) trodAll_mk0)), rfl, bel.frame _, fun h => by cases h⟩

set_option maxRecDepth 100000 in
theorem lifted (os : Os) (started : os.Started) (H : Type) (enc : TypeId × Value → H) :
    ReturnsInHanded {} Try.checked os 5 .any (Rows.netKeepsSpec.pre6 enc Try.prog Try.f5 Rows.netKeepsRow.domain false) (Rows.netKeepsSpec.post enc Try.prog Try.f5 false true false false) := by
  refine returnsInHanded_of_change_sized (C := Try.checked) own started (by kernel_rfl) Try.func5
    (ChangeSpec.witness6 (enc := enc) (C := Try.checked) false ⟨#[], #[.int .i64 0, .slice none 0 0], []⟩ 8 (by kernel_rfl) (by kernel_rfl) (by kernel_rfl) (by kernel_rfl)) ?_
  intro W base args ds gs before hval hW _ hsz _
  exact contract H enc W base args ds gs before hval hW hsz

theorem holds : Rows.NetKeepsSaid :=
  OpenClaim.holds_of_wide 5 Try.f5 rfl rfl rfl rfl rfl rfl rfl ⟨rfl, rfl, rfl, rfl, rfl⟩ rfl rfl rfl rfl rfl (by kernel_rfl) Try.func5 (by kernel_rfl)
    (of_decide_eq_true (by kernel_rfl)) (by unfold Func.isWrapper; first | (rw [if_pos (by decide +kernel)]; kernel_rfl) | (rw [if_neg (by decide +kernel)]; exact ⟨rfl, rfl⟩))
    (fun os started H enc _ => lifted os started H enc)
end Go.Proofs.Ytdkhfehoohiflaa.netKeeps
namespace Go.Proofs.Ytdkhfehoohiflaa
theorem netKeeps_holds : Rows.NetKeepsSaid := netKeeps.holds
#print axioms netKeeps_holds
end Go.Proofs.Ytdkhfehoohiflaa
