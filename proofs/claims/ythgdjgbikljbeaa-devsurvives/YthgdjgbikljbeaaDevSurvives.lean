/-
  Proved: behind a crash each sector is what was safe of it, or what waited for it, as the mask says; and nothing waits any more (the law DevSurvives), for every input.
-/
import Derived.Test.YthgdjgbikljbeaaOpsArg
import Derived.Test.YthgdjgbikljbeaaCrashed
namespace Go.Proofs.Ythgdjgbikljbeaa.devSurvives
open Go.RowKit Go.Maps Go.ChangeShapes Go.WideShapes Go.ChangeAt Go.PlainAid
open Go.ChangeMaps (open_string shut_string)

set_option maxRecDepth 20000 in
set_option maxHeartbeats 8000000 in
theorem walk (c : Int) (v1 : Value) (l1 : List OpD) (x : ByteArray) (w : World) (hc0 : -9223372036854775808 ≤ c) (hc1 : c ≤ 9223372036854775807) (hv1 : RdOps w v1 l1) (hl1 : l1.length ≤ maxLen) (ho1 : ∀ o ∈ l1, o.Ok) (hx : x.size ≤ maxLen) :
    Calls Try.prog 5 #[.int .i64 c, v1, .string x] w fun e w' => e = .returned (.bool true) ∧ Below w.heap.size w w' := by
  have cP := played_any c v1 l1 w hv1 hl1 ho1 hc0 hc1
  clear hc0 hc1 hl1 ho1
  obtain ⟨ao1, cp1, rfl, _⟩ := hv1
  go_enter Try.func5, Try.ntmps5
  go_wp2_with fail
  refine cP.mono ?_
  rintro e w1 ⟨p, bs, bw, s, rfl, hd1, _, hp1, hbs1, hbw1, hb1⟩
  clear cP
  have hn8 := hd1.hi
  have hkl : s.keys.length ≤ 8192 := Nat.le_trans (keysF_le _ _) hn8
  have lp1 := hd1.ltp
  have ls1 := hd1.lts
  have lw1 := hd1.ltw
  go_wp2_with fail
  refine (copydev_any hd1).mono ?_
  rintro e w2 ⟨p', bs', bw', rfl, hc2, hp2, hbs2, hbw2, hb2⟩
  have hd2 := hd1.below hb2
  have hB2 : Below w.heap.size w w2 := hb1.trans (hb2.mono hb1.size)
  have sz1 := hb1.size
  have sz2 := hb2.size
  clear hd1 hb1 hb2
  go_wp2_with fail
  refine (fuse_ok hc2 (-1) (by omega) (by omega)).mono ?_
  rintro e w3 ⟨rfl, hc3, ho3⟩
  have hd3 := hd2.kept ho3 (by simp; omega) (by simp; omega) (by simp; omega)
  have hB3 : Below w.heap.size w w3 := hB2.trans (ho3.below hB2.size (by simp; omega))
  have sz3 := ho3.size
  clear hc2 hd2 hB2 ho3
  go_wp2_with fail
  refine (waiting_any hd3).mono ?_
  rintro e w4 ⟨v, rfl, hrow, _, hb4⟩
  obtain ⟨ao, cp, rfl, hao⟩ := own_shape hrow
  have hd4 := hd3.below hb4
  have hc4 := hc3.below hb4
  have hB4 : Below w.heap.size w w4 := hB3.trans (hb4.mono hB3.size)
  have sz4 := hb4.size
  clear hrow hb4 hd3 hc3 hB3
  go_wp2_with fail
  refine (crash_any hd4 x hx).mono ?_
  rintro e w5 ⟨rfl, hd5, ho5⟩
  have hc5 := hc4.kept ho5 (by simp; omega) (by simp; omega) (by simp; omega)
  have hB5 : Below w.heap.size w w5 := hB4.trans (ho5.below hB4.size (by simp; omega))
  have sz5 := ho5.size
  have hao5 : 0 < s.keys.length → ∃ g, ao = some ⟨g, 0, none⟩ ∧ g < w5.heap.size ∧ s.keys.length ≤ cp ∧ ∀ j, j < s.keys.length → w5.cell? ⟨g, j, none⟩ = (iv s.keys)[j]? := by
    intro h
    obtain ⟨g, h1, h2, h3, h4, h5⟩ := hao h
    exact ⟨g, h1, by omega, h4, fun j hj => by rw [← h5 j hj]; exact World.cell?_of_block (a := ⟨g, j, none⟩) (ho5.block g h3 (by simp; omega))⟩
  clear hao ho5 hc4 hd4 hB4
  go_wp2_with fail
  refine (up_any hd5).mono ?_
  rintro e w6 ⟨rfl, hw⟩
  subst hw
  rw [crashed_up]
  go_wp2_with fail
  refine (waiting_any hd5).mono ?_
  rintro e w7 ⟨v, rfl, hrow, hnil, hb7⟩
  rw [crashed_keys] at hrow hnil
  obtain rfl := hnil.2 rfl
  have hd7 := hd5.below hb7
  have hc7 := hc5.below hb7
  have hB7 : Below w.heap.size w w7 := hB5.trans (hb7.mono hB5.size)
  have hao7 : 0 < s.keys.length → ∃ g, ao = some ⟨g, 0, none⟩ ∧ g < w7.heap.size ∧ s.keys.length ≤ cp ∧ ∀ j, j < s.keys.length → w7.cell? ⟨g, j, none⟩ = (iv s.keys)[j]? := by
    intro h
    obtain ⟨g, h1, h2, h4, h5⟩ := hao5 h
    exact ⟨g, h1, by have := hb7.size; omega, h4, fun j hj => by rw [← h5 j hj]; exact hb7.cell (p := ⟨g, j, none⟩) h2⟩
  clear hao5 hb7 hd5 hc5 hB5 hrow hnil
  have hxs := hx
  unfold maxLen at hxs
  clear hx
  go_wp2_with fail
  go_loopw [10, 11] (fun q i wr => ∃ (k : Nat), k ≤ s.n ∧ i = .int .i64 (k : Int) ∧ q = .int .i64 ((keysF k s.waits).length : Int) ∧ Below w7.heap.size w7 wr)
    (fun _ i _ => s.n - (intOf i).toNat)
  case atStart => exact ⟨0, Nat.zero_le _, rfl, rfl, Below.refl _ _⟩
  case round =>
    obtain ⟨k, hk, rfl, rfl, hBr⟩ := hrel
    have hdr := hd7.below hBr
    have hcr := hc7.below hBr
    have cS := sectors_any hdr
    have e : (s.crashed x.data.toList).n = s.n := rfl
    rw [e] at cS
    clear e
    by_cases hlt : k < s.n
    · have hlt' : (k : Int) < (s.n : Int) := by omega
      have hqle := keysF_mono s.waits (show k ≤ s.n by omega)
      have hcs := crashed_safeAt x.data.toList hlt
      have c1 : ∀ W, Below w7.heap.size w7 W → Calls Try.prog 25 #[.pointer (some ⟨p', 0, none⟩), .int .i64 (k : Int)] W fun e w' => e = .returned (.tuple #[.string (mk (s.safeAt k)), .int .i64 0]) ∧ Below W.heap.size W w' := fun W hW => safe_ok (hc7.below hW) k hlt
      have c2 : ∀ W, Below w7.heap.size w7 W → Calls Try.prog 26 #[.pointer (some ⟨p', 0, none⟩), .int .i64 (k : Int)] W fun e w' => e = .returned (.tuple #[.string (mk (s.readAt k)), .int .i64 0]) ∧ Below W.heap.size W w' := fun W hW => read_ok (hc7.below hW) k hlt rfl
      have c3 : ∀ W, Below w7.heap.size w7 W → Calls Try.prog 26 #[.pointer (some ⟨p, 0, none⟩), .int .i64 (k : Int)] W fun e w' => e = .returned (.tuple #[.string (mk ((s.crashed x.data.toList).safeAt k)), .int .i64 0]) ∧ Below W.heap.size W w' := fun W hW => read_ok (hd7.below hW) k hlt (crashed_up _ _)
      have c4 : ∀ W, Below w7.heap.size w7 W → Calls Try.prog 25 #[.pointer (some ⟨p, 0, none⟩), .int .i64 (k : Int)] W fun e w' => e = .returned (.tuple #[.string (mk ((s.crashed x.data.toList).safeAt k)), .int .i64 0]) ∧ Below W.heap.size W w' := fun W hW => safe_ok (hd7.below hW) k hlt
      have HQ : ∃ q, Hid ((keysF k s.waits).length = q) := ⟨_, rfl⟩
      obtain ⟨q, HQ⟩ := HQ
      rw [HQ.out] at hcs hqle ⊢
      cases hf : (s.waits k).isSome with
      | true =>
        cases hod : oddAt x.data.toList q with
        | true =>
          rw [if_pos ⟨hf, hod⟩] at hcs
          rw [hcs] at c3 c4
          clear hcs hcr hdr
          go_wp2_with fail
          refine cS.mono ?_
          rintro e w8 ⟨rfl, hw⟩
          subst hw
          clear cS
          go_wp2_with fail
          refine (c1 _ hBr).mono ?_
          rintro e w9 ⟨rfl, hb9⟩
          have hB9 := hBr.trans (hb9.mono hBr.size)
          clear c1 hb9
          go_wp2_with fail
          refine (c2 _ hB9).mono ?_
          rintro e w10 ⟨rfl, hb10⟩
          have hB10 := hB9.trans (hb10.mono hB9.size)
          clear c2 hb10 hB9
          go_wp2_with fail
          refine (c3 _ hB10).mono ?_
          rintro e w11 ⟨rfl, hb11⟩
          have hB11 := hB10.trans (hb11.mono hB10.size)
          clear c3 hb11 hB10
          go_wp2_with fail
          refine (c4 _ hB11).mono ?_
          rintro e w12 ⟨rfl, hb12⟩
          have hB12 := hB11.trans (hb12.mono hB11.size)
          clear c4 hb12 hB11 hBr
          have hkq := key_at hlt hf
          have hqlt : q < s.keys.length := by rw [← HQ.out]; exact (List.getElem?_eq_some_iff.1 hkq).1
          have hqlt' : (q : Int) < (s.keys.length : Int) := by omega
          obtain ⟨g, rfl, hg, hcp, hcell⟩ := hao7 (by omega)
          have hck : w12.cell? ⟨g, q, none⟩ = some (.int .i64 (k : Int)) := by
            rw [hB12.cell (p := ⟨g, q, none⟩) hg, hcell q hqlt]
            rw [HQ.out] at hkq
            simp only [iv, List.getElem?_map]
            show ((keysF s.n s.waits)[q]?).map _ = _
            rw [hkq]
            rfl
          have HN : Hid ((keysF (k + 1) s.waits).length = q + 1) := by
            show _ = _
            rw [keysF_succ, if_pos hf, List.length_append, HQ.out]
            rfl
          clear hkq hcell hao7 hf
          have hqx : q < x.size := by
            by_cases hqx : q < x.size
            · exact hqx
            · rw [oddAt_out hqx] at hod; cases hod
          have hqx' : (q : Int) < (x.size : Int) := by omega
          rw [oddAt_in hqx] at hod
          have hp' : ((x[q].toNat : Int) % 2 == 1) = true := by
            have : x[q].toNat % 2 = 1 := by simpa using hod
            simp
            omega
          clear hod
          go_wp2_with fail
          go_roundw
          case rel => exact ⟨k + 1, by omega, by go_num, by rw [HN.out]; go_num, hB12⟩
          case measure => simp [intOf]; omega
        | false =>
          rw [if_neg (fun h => by rw [hod] at h; cases h.2)] at hcs
          rw [hcs] at c3 c4
          clear hcs hcr hdr
          go_wp2_with fail
          refine cS.mono ?_
          rintro e w8 ⟨rfl, hw⟩
          subst hw
          clear cS
          go_wp2_with fail
          refine (c1 _ hBr).mono ?_
          rintro e w9 ⟨rfl, hb9⟩
          have hB9 := hBr.trans (hb9.mono hBr.size)
          clear c1 hb9
          go_wp2_with fail
          refine (c2 _ hB9).mono ?_
          rintro e w10 ⟨rfl, hb10⟩
          have hB10 := hB9.trans (hb10.mono hB9.size)
          clear c2 hb10 hB9
          go_wp2_with fail
          refine (c3 _ hB10).mono ?_
          rintro e w11 ⟨rfl, hb11⟩
          have hB11 := hB10.trans (hb11.mono hB10.size)
          clear c3 hb11 hB10
          go_wp2_with fail
          refine (c4 _ hB11).mono ?_
          rintro e w12 ⟨rfl, hb12⟩
          have hB12 := hB11.trans (hb12.mono hB11.size)
          clear c4 hb12 hB11 hBr
          have hkq := key_at hlt hf
          have hqlt : q < s.keys.length := by rw [← HQ.out]; exact (List.getElem?_eq_some_iff.1 hkq).1
          have hqlt' : (q : Int) < (s.keys.length : Int) := by omega
          obtain ⟨g, rfl, hg, hcp, hcell⟩ := hao7 (by omega)
          have hck : w12.cell? ⟨g, q, none⟩ = some (.int .i64 (k : Int)) := by
            rw [hB12.cell (p := ⟨g, q, none⟩) hg, hcell q hqlt]
            rw [HQ.out] at hkq
            simp only [iv, List.getElem?_map]
            show ((keysF s.n s.waits)[q]?).map _ = _
            rw [hkq]
            rfl
          have HN : Hid ((keysF (k + 1) s.waits).length = q + 1) := by
            show _ = _
            rw [keysF_succ, if_pos hf, List.length_append, HQ.out]
            rfl
          clear hkq hcell hao7 hf
          by_cases hqx : q < x.size
          · have hqx' : (q : Int) < (x.size : Int) := by omega
            rw [oddAt_in hqx] at hod
            have hp' : ((x[q].toNat : Int) % 2 == 1) = false := by
              have : ¬ x[q].toNat % 2 = 1 := by simpa using hod
              simp
              omega
            clear hod
            go_wp2_with fail
            go_roundw
            case rel => exact ⟨k + 1, by omega, by go_num, by rw [HN.out]; go_num, hB12⟩
            case measure => simp [intOf]; omega
          · have hqx' : decide ((q : Int) < (x.size : Int)) = false := by simp; omega
            clear hod
            go_wp2_with fail
            go_roundw
            case rel => exact ⟨k + 1, by omega, by go_num, by rw [HN.out]; go_num, hB12⟩
            case measure => simp [intOf]; omega
      | false =>
        rw [if_neg (fun h => by rw [hf] at h; cases h.1)] at hcs
        rw [hcs] at c3 c4
        clear hcs hcr hdr
        go_wp2_with fail
        refine cS.mono ?_
        rintro e w8 ⟨rfl, hw⟩
        subst hw
        clear cS
        go_wp2_with fail
        refine (c1 _ hBr).mono ?_
        rintro e w9 ⟨rfl, hb9⟩
        have hB9 := hBr.trans (hb9.mono hBr.size)
        clear c1 hb9
        go_wp2_with fail
        refine (c2 _ hB9).mono ?_
        rintro e w10 ⟨rfl, hb10⟩
        have hB10 := hB9.trans (hb10.mono hB9.size)
        clear c2 hb10 hB9
        go_wp2_with fail
        refine (c3 _ hB10).mono ?_
        rintro e w11 ⟨rfl, hb11⟩
        have hB11 := hB10.trans (hb11.mono hB10.size)
        clear c3 hb11 hB10
        go_wp2_with fail
        refine (c4 _ hB11).mono ?_
        rintro e w12 ⟨rfl, hb12⟩
        have hB12 := hB11.trans (hb12.mono hB11.size)
        clear c4 hb12 hB11 hBr
        have HN : Hid ((keysF (k + 1) s.waits).length = q) := by
          show _ = _
          rw [keysF_succ, hf, if_neg (by simp), List.append_nil, HQ.out]
        by_cases hqlt : q < s.keys.length
        · have hqlt' : (q : Int) < (s.keys.length : Int) := by omega
          obtain ⟨g, rfl, hg, hcp, hcell⟩ := hao7 (by omega)
          have hkq : (keysF s.n s.waits)[q]? = some s.keys[q] := List.getElem?_eq_getElem hqlt
          have hne := key_not hlt hf s.keys[q] (by rw [HQ.out]; exact hkq)
          have hck : w12.cell? ⟨g, q, none⟩ = some (.int .i64 (s.keys[q] : Int)) := by
            rw [hB12.cell (p := ⟨g, q, none⟩) hg, hcell q hqlt]
            simp [iv, hqlt]
          have hne' : ((s.keys[q] : Int) == (k : Int)) = false := by simp; omega
          clear hkq hne hcell hao7 hf
          generalize s.keys[q] = y at hck hne'
          go_wp2_with fail
          go_roundw
          case rel => exact ⟨k + 1, by omega, by go_num, by rw [HN.out], hB12⟩
          case measure => simp [intOf]; omega
        · have hqlt' : decide ((q : Int) < (s.keys.length : Int)) = false := by simp; omega
          clear hao7 hf
          go_wp2_with fail
          go_roundw
          case rel => exact ⟨k + 1, by omega, by go_num, by rw [HN.out], hB12⟩
          case measure => simp [intOf]; omega
    · obtain rfl : k = s.n := by omega
      have hlt' : ¬ (s.n : Int) < (s.n : Int) := by omega
      have e2 : (keysF s.n s.waits).length = s.keys.length := rfl
      rw [e2]
      clear e2 hao7 hcr hdr
      go_wp2_with fail
      refine cS.mono ?_
      rintro e w8 ⟨rfl, hw⟩
      subst hw
      clear cS
      go_wp2_with fail
      go_ret
      exact ⟨by simp, hB7.trans (hBr.mono hB7.size)⟩

theorem own : ownKnob Try.prog.godebug = none := by kernel_rfl
theorem laidOut : laidOutB Try.prog = true := by kernel_rfl

theorem contract (H : Type) (enc : TypeId × Value → H) (W : World) (base : Nat) (args : Array Value) (ds gs : List (DataW H)) (before : List MemPlace)
    (hval : ∀ (j : Nat) t v, Try.f5.params[j]? = some t → args[j]? = some v → Value.okWide Try.prog W .any base t v)
    (hW : DataW.Whole enc Try.prog Try.f5.params.toList Rows.devSurvivesSpec.vars false W args.toList ds gs before) :
    Calls Try.prog 5 args W fun e W' => ∃ v, e = .returned v ∧ Rows.devSurvivesSpec.post enc Try.prog Try.f5 false true false false W args v W' := by
  have hW' := hW
  obtain ⟨p, q, hA0, hV, rfl, hfz, hnd⟩ := hW
  have hA : DataW.TrodAll enc Try.prog W 0 (fun _ => true) true Try.f5.params.toList args.toList ds p := hA0
  rw [Try.params5] at hA hval
  obtain ⟨v0, vs0, d0, ds0, p0, q0, hargs, rfl, rfl, h0, r0⟩ := trodAll_cons hA
  obtain ⟨v1, vs1, d1, ds1, p1, q1, rfl, rfl, rfl, h1, r1⟩ := trodAll_cons r0
  obtain ⟨v2, vs2, d2, ds2, p2, q2, rfl, rfl, rfl, h2, r2⟩ := trodAll_cons r1
  obtain ⟨rfl, rfl, rfl⟩ := trodAll_nil r2
  obtain rfl : args = #[v0, v1, v2] := by cases args; simp_all
  obtain ⟨rfl, rfl⟩ := trodVars_none hV
  have k0 := h0
  have lt0 : ∀ x ∈ p0, x.block < W.heap.size := by obtain ⟨m, hm⟩ := k0; exact DataW.trod_lt m _ _ _ hm
  have k1 := h1
  have lt1 : ∀ x ∈ p1, x.block < W.heap.size := by obtain ⟨m, hm⟩ := k1; exact DataW.trod_lt m _ _ _ hm
  have k2 := h2
  have lt2 : ∀ x ∈ p2, x.block < W.heap.size := by obtain ⟨m, hm⟩ := k2; exact DataW.trod_lt m _ _ _ hm
  obtain ⟨a0, rfl, rfl, rfl, w0⟩ := open_int Try.underlying3 (hval 0 3 v0 rfl rfl) h0
  obtain ⟨a1, len1, cap1, rfl⟩ := okWide_slice Try.underlying32 (hval 1 32 v1 rfl rfl)
  obtain ⟨fuel1, hf1⟩ := h1
  obtain ⟨l1, rd1, ln1, ok1⟩ := open_ops hf1
  obtain ⟨a2, rfl, rfl, rfl, w2⟩ := open_string Try.underlying9 (hval 2 9 v2 rfl rfl) h2
  clear hA0
  simp only [List.append_nil] at hW'
  refine (walk a0 (.slice a1 len1 cap1) l1 a2 W (wf_bd w0).1 (wf_bd w0).2 rd1 ln1 ok1 w2).mono fun e W' ⟨he, bel⟩ => ?_
  subst he
  exact ⟨_, rfl, _, _, _, [], _, [], hW', trodAll_mk1 (shut_bool Try.underlying4 _), (trodAll_cons_mk (Below.trod laidOut (by kernel_rfl) (of_decide_eq_true (by kernel_rfl)) k0 bel lt0) (trodAll_cons_mk (Below.trod laidOut (by kernel_rfl) (of_decide_eq_true (by kernel_rfl)) k1 bel lt1) (trodAll_cons_mk (Below.trod laidOut (by kernel_rfl) (of_decide_eq_true (by kernel_rfl)) k2 bel lt2) trodAll_mk0))), rfl, bel.frame _, fun h => by cases h⟩

set_option maxRecDepth 100000 in
theorem lifted (os : Os) (started : os.Started) (H : Type) (enc : TypeId × Value → H) :
    ReturnsInHanded {} Try.checked os 5 .any (Rows.devSurvivesSpec.pre6 enc Try.prog Try.f5 Rows.devSurvivesRow.domain false) (Rows.devSurvivesSpec.post enc Try.prog Try.f5 false true false false) := by
  refine returnsInHanded_of_change (C := Try.checked) own started (by kernel_rfl) Try.func5
    (ChangeSpec.witness6 (enc := enc) (C := Try.checked) false ⟨#[], #[.int .i64 0, .slice none 0 0, .string .empty], []⟩ 8 (by kernel_rfl) (by kernel_rfl) (by kernel_rfl) (by kernel_rfl)) ?_
  intro W base args ds gs before hval hW _ _
  exact contract H enc W base args ds gs before hval hW

theorem holds : Rows.DevSurvivesSaid :=
  OpenClaim.holds_of_wide 5 Try.f5 rfl rfl rfl rfl rfl rfl rfl ⟨rfl, rfl, rfl, rfl, rfl⟩ rfl rfl rfl rfl rfl (by kernel_rfl) Try.func5 (by kernel_rfl)
    (of_decide_eq_true (by kernel_rfl)) (by unfold Func.isWrapper; first | (rw [if_pos (by decide +kernel)]; kernel_rfl) | (rw [if_neg (by decide +kernel)]; exact ⟨rfl, rfl⟩))
    (fun os started H enc _ => lifted os started H enc)
end Go.Proofs.Ythgdjgbikljbeaa.devSurvives
namespace Go.Proofs.Ythgdjgbikljbeaa
theorem devSurvives_holds : Rows.DevSurvivesSaid := devSurvives.holds
#print axioms devSurvives_holds
end Go.Proofs.Ythgdjgbikljbeaa
