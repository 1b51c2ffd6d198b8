/-
  Proved: whatever is called, a device answers, and holds, just what the document says (the law DevScripts), for every input.
-/
import Derived.Test.YthgdjgbikljbeaaOpsArg
import Derived.Test.YthgdjgbikljbeaaDoes
namespace Go.Proofs.Ythgdjgbikljbeaa.devScripts
open Go.RowKit Go.Maps Go.ChangeShapes Go.WideShapes Go.ChangeAt Go.PlainAid
open Go.ChangeMaps (open_string shut_string)

/-- A device and the reference's lie at d and k, the same, and at B or above. -/
def Two (B : Nat) (w : World) (d k : Value) : Prop :=
  ∃ p bs bw q gs gi gw s, d = .pointer (some ⟨p, 0, none⟩) ∧ k = .pointer (some ⟨q, 0, none⟩) ∧ IsDev w p bs bw s ∧ IsRef w q gs gi gw s ∧ (B ≤ p ∧ B ≤ bs ∧ B ≤ bw) ∧ B ≤ q ∧ B ≤ gs ∧ B ≤ gi ∧ B ≤ gw

set_option maxRecDepth 20000 in
set_option maxHeartbeats 8000000 in
theorem walk (c : Int) (v : Value) (l : List OpD) (w : World) (h0 : -9223372036854775808 ≤ c) (h1 : c ≤ 9223372036854775807) (hv : RdOps w v l) (hl : l.length ≤ maxLen) (ho : ∀ o ∈ l, o.Ok) :
    Calls Try.prog 4 #[.int .i64 c, v] w fun e w' => e = .returned (.bool true) ∧ Below w.heap.size w w' := by
  have hp := pickI_bd c 30 (by omega)
  have cP := pick_any c 30 w h0 h1 (by omega) (by omega)
  obtain ⟨n, hn⟩ := Int.eq_ofNat_of_zero_le hp.1
  rw [hn] at cP hp
  have hn30 : n < 30 := by omega
  have hn30' : (n : Int) < 30 := by omega
  clear hn hp h0 h1
  obtain ⟨ao, cp, rfl, hop⟩ := hv
  unfold maxLen at hl
  have en : ((8 + n : Nat) : Int) = 8 + (n : Int) := by omega
  have cN : Calls Try.prog 8 #[.int .i64 (8 + (n : Int))] w fun e w' => e = .returned (.tuple #[.pointer (some ⟨w.heap.size + 2, 0, none⟩), .int .i64 0]) ∧ IsDev w' (w.heap.size + 2) w.heap.size (w.heap.size + 1) (newS (8 + n)) ∧ Below w.heap.size w w' := by
    have h := new_ok (8 + n) w (by omega) (by omega)
    rw [en] at h
    exact h
  have cR : ∀ w, Calls Try.prog 9 #[.int .i64 (8 + (n : Int))] w fun e w' => ∃ c, e = .returned (.tuple #[.pointer (some ⟨c, 0, none⟩), .int .i64 0]) ∧ FreshRef w.heap.size w' c (newS (8 + n)) ∧ Below w.heap.size w w' := fun w => by
    have h := rnew_ok (8 + n) w (by omega) (by omega)
    rw [en] at h
    exact h
  have cB : ∀ w, Calls Try.prog 18 #[.int .u8 1] w fun e w' => e = .returned (.string (mk (List.replicate 64 1))) ∧ Below w.heap.size w w' := fun w => bytes_any 1 w
  clear en
  go_enter Try.func4, Try.ntmps4
  go_wp2_with (first
    | (go_at_call 12; refine cP.mono ?_; rintro e w' ⟨rfl, hw⟩; rw [hw]; clear hw w')
    | (go_at_call 8; refine cN.mono ?_; rintro e w1 ⟨rfl, hd1, hb1⟩)
    | (go_at_call 9; refine (cR w1).mono ?_; rintro e w2 ⟨q, rfl, ⟨gs, gi, gw, hr2, l1, l2, l3, l4⟩, hb2⟩; have hd2 := hd1.below hb2)
    | (go_at_call 10; refine (begun_any _).mono ?_; rintro e w3 ⟨rfl, hb3⟩))
  have hT3 : Two w.heap.size w3 (.pointer (some ⟨w.heap.size + 2, 0, none⟩)) (.pointer (some ⟨q, 0, none⟩)) := by
    have s1 := hb1.size
    exact ⟨_, _, _, q, gs, gi, gw, _, rfl, rfl, hd2.below hb3, hr2.below hb3, ⟨by omega, by omega, by omega⟩, by omega, by omega, by omega, by omega⟩
  have hB3 : Below w.heap.size w w3 := (hb1.trans (hb2.mono hb1.size)).trans (hb3.mono (Nat.le_trans hb1.size hb2.size))
  clear hd1 hd2 hr2 hb1 hb2 hb3 l1 l2 l3 l4 cN cR cP
  go_loopw [5, 7, 9] (fun d k i wr => ∃ j : Nat, j ≤ l.length ∧ i = .int .i64 (j : Int) ∧ Two w.heap.size wr d k ∧ Below w.heap.size w wr)
    (fun _ _ i _ => l.length - (intOf i).toNat)
  case atStart => exact ⟨0, Nat.zero_le _, rfl, hT3, hB3⟩
  case round =>
    obtain ⟨j, hj, rfl, ⟨p, bs, bw, q, gs, gi, gw, s, rfl, rfl, hd, hr, ⟨lp, lbs, lbw⟩, lq, lgs, lgi, lgw⟩, hB⟩ := hrel
    clear hT3 hB3
    by_cases hlt : j < l.length
    · have hlt' : (j : Int) < (l.length : Int) := by omega
      have hoj := ho l[j] (List.getElem_mem hlt)
      obtain ⟨b, off, rfl, hbl, e0, e1, e2, e3⟩ := hop j l[j] (by simp [hlt])
      have hBc : ∀ o, wr.cell? ⟨b, o, none⟩ = w.cell? ⟨b, o, none⟩ := fun o => hB.cell (p := ⟨b, o, none⟩) hbl
      rw [← hBc] at e0 e1 e2 e3
      generalize l[j] = o at *
      clear hBc hop ho
      have hsz := hB.size
      by_cases q5 : o.d = 5
      · have q5' : (o.d != 5) = false := by simpa using q5
        clear q5
        have x1 := hd.ltp
        have x2 := hd.lts
        have x3 := hd.ltw
        go_wp2_with (first
          | (go_at_call 14; refine (copydev_any hd).mono ?_; rintro e w4 ⟨p', bs', bw', rfl, hc4, lp', lbs', lbw', hb4⟩; have hd4 := hd.below hb4; have hr4 := hr.below hb4)
          | (go_at_call 15; refine (rcopy_any hr4).mono ?_; rintro e w5 ⟨q', rfl, ⟨gs', gi', gw', hm5, m1, m2, m3, m4⟩, hb5⟩; have hd5 := hd4.below hb5; have hc5 := hc4.below hb5)
          | (go_at_call 11; have hz := hc5; refine (looks_true hc5 hm5).mono ?_; rintro e w6 ⟨rfl, hb6⟩; have hd6 := hd5.below hb6; have hc6 := hc5.below hb6; have hm6 := hm5.below hb6; clear hz hc5)
          | (go_at_call 16; refine (fuse_all hd6 _ (by omega)).mono ?_; rintro e w7 ⟨rfl, hd7, ho7⟩; have hm7 := ref_kept hd6 hm6 ho7; have hc7 := hc6.kept ho7 (by simp; omega) (by simp; omega) (by simp; omega))
          | (go_at_call 18; refine (cB _).mono ?_; rintro e w8 ⟨rfl, hb8⟩; have hd8 := hd7.below hb8; have hm8 := hm7.below hb8; have hc8 := hc7.below hb8)
          | (go_at_call 17; refine (write_all hd8 _ _).mono ?_; rintro e w9 ⟨rfl, hd9, ho9⟩; have hm9 := ref_kept hd8 hm8 ho9; have hc9 := hc8.kept ho9 (by simp; omega) (by simp; omega) (by simp; omega))
          | (go_at_call 19; refine (sync_all hd9).mono ?_; rintro e w10 ⟨rfl, hd10, ho10⟩; have hm10 := ref_kept hd9 hm9 ho10; have hc10 := hc9.kept ho10 (by simp; omega) (by simp; omega) (by simp; omega))
          | (go_at_call 11; refine (looks_true hc10 hm10).mono ?_; rintro e w11 ⟨rfl, hb11⟩))
        have hB4 : Below w.heap.size w w4 := hB.trans (hb4.mono hB.size)
        have hB5 : Below w.heap.size w w5 := hB4.trans (hb5.mono hB4.size)
        have hB6 : Below w.heap.size w w6 := hB5.trans (hb6.mono hB5.size)
        have hB7 : Below w.heap.size w w7 := hB6.trans (ho7.below hB6.size (by simp; omega))
        have hB8 : Below w.heap.size w w8 := hB7.trans (hb8.mono hB7.size)
        have hB9 : Below w.heap.size w w9 := hB8.trans (ho9.below hB8.size (by simp; omega))
        have hB10 : Below w.heap.size w w10 := hB9.trans (ho10.below hB9.size (by simp; omega))
        have hB11 : Below w.heap.size w w11 := hB10.trans (hb11.mono hB10.size)
        have hs4 := hB4.size
        have hs5 := hB5.size
        go_roundw
        case rel => exact ⟨j + 1, by omega, by go_num, ⟨p', bs', bw', q', gs', gi', gw', s, rfl, rfl, hc10.below hb11, hm10.below hb11, ⟨by omega, by omega, by omega⟩, by omega, by omega, by omega, by omega⟩, hB11⟩
        case measure => simp [intOf]; omega
      · have q5' : (o.d != 5) = true := by simpa using q5
        clear q5
        have cD := does_true hd hr o hoj
        unfold OpD.val at cD
        go_wp2_with (first
          | (go_at_call 13; refine cD.mono ?_; rintro e w4 ⟨s', rfl, hb4, ho4⟩)
          | (go_at_call 11; refine (looks_true hb4.d hb4.r).mono ?_; rintro e w5 ⟨rfl, hb5⟩))
        have hB4 : Below w.heap.size w w4 := hB.trans (ho4.below hsz (by simp; omega))
        have hB5 : Below w.heap.size w w5 := hB4.trans (hb5.mono hB4.size)
        go_roundw
        case rel => exact ⟨j + 1, by omega, by go_num, ⟨p, bs, bw, q, gs, gi, gw, s', rfl, rfl, hb4.d.below hb5, hb4.r.below hb5, ⟨lp, lbs, lbw⟩, lq, lgs, lgi, lgw⟩, hB5⟩
        case measure => simp [intOf]; omega
    · obtain rfl : j = l.length := by omega
      have hlt' : ¬ (l.length : Int) < (l.length : Int) := by omega
      clear hop ho hd hr
      go_wp2_with fail
      go_ret
      exact ⟨rfl, hB⟩

theorem own : ownKnob Try.prog.godebug = none := by kernel_rfl
theorem laidOut : laidOutB Try.prog = true := by kernel_rfl

theorem contract (H : Type) (enc : TypeId × Value → H) (W : World) (base : Nat) (args : Array Value) (ds gs : List (DataW H)) (before : List MemPlace)
    (hval : ∀ (j : Nat) t v, Try.f4.params[j]? = some t → args[j]? = some v → Value.okWide Try.prog W .any base t v)
    (hW : DataW.Whole enc Try.prog Try.f4.params.toList Rows.devScriptsSpec.vars false W args.toList ds gs before) :
    Calls Try.prog 4 args W fun e W' => ∃ v, e = .returned v ∧ Rows.devScriptsSpec.post enc Try.prog Try.f4 false true false false W args v W' := by
  have hW' := hW
  obtain ⟨p, q, hA0, hV, rfl, hfz, hnd⟩ := hW
  have hA : DataW.TrodAll enc Try.prog W 0 (fun _ => true) true Try.f4.params.toList args.toList ds p := hA0
  rw [Try.params4] at hA hval
  obtain ⟨v0, vs0, d0, ds0, p0, q0, hargs, rfl, rfl, h0, r0⟩ := trodAll_cons hA
  obtain ⟨v1, vs1, d1, ds1, p1, q1, rfl, rfl, rfl, h1, r1⟩ := trodAll_cons r0
  obtain ⟨rfl, rfl, rfl⟩ := trodAll_nil r1
  obtain rfl : args = #[v0, v1] := by cases args; simp_all
  obtain ⟨rfl, rfl⟩ := trodVars_none hV
  have k0 := h0
  have lt0 : ∀ x ∈ p0, x.block < W.heap.size := by obtain ⟨m, hm⟩ := k0; exact DataW.trod_lt m _ _ _ hm
  have k1 := h1
  have lt1 : ∀ x ∈ p1, x.block < W.heap.size := by obtain ⟨m, hm⟩ := k1; exact DataW.trod_lt m _ _ _ hm
  obtain ⟨a0, rfl, rfl, rfl, w0⟩ := open_int Try.underlying3 (hval 0 3 v0 rfl rfl) h0
  obtain ⟨a1, len1, cap1, rfl⟩ := okWide_slice Try.underlying32 (hval 1 32 v1 rfl rfl)
  obtain ⟨fuel1, hf1⟩ := h1
  obtain ⟨l1, rd1, ln1, ok1⟩ := open_ops hf1
  clear hA0
  simp only [List.append_nil] at hW'
  refine (walk a0 (.slice a1 len1 cap1) l1 W (wf_bd w0).1 (wf_bd w0).2 rd1 ln1 ok1).mono fun e W' ⟨he, bel⟩ => ?_
  subst he
  exact ⟨_, rfl, _, _, _, [], _, [], hW', trodAll_mk1 (shut_bool Try.underlying4 _), (trodAll_cons_mk (Below.trod laidOut (by kernel_rfl) (of_decide_eq_true (by kernel_rfl)) k0 bel lt0) (trodAll_cons_mk (Below.trod laidOut (by kernel_rfl) (of_decide_eq_true (by kernel_rfl)) k1 bel lt1) trodAll_mk0)), rfl, bel.frame _, fun h => by cases h⟩

set_option maxRecDepth 100000 in
theorem lifted (os : Os) (started : os.Started) (H : Type) (enc : TypeId × Value → H) :
    ReturnsInHanded {} Try.checked os 4 .any (Rows.devScriptsSpec.pre6 enc Try.prog Try.f4 Rows.devScriptsRow.domain false) (Rows.devScriptsSpec.post enc Try.prog Try.f4 false true false false) := by
  refine returnsInHanded_of_change (C := Try.checked) own started (by kernel_rfl) Try.func4
    (ChangeSpec.witness6 (enc := enc) (C := Try.checked) false ⟨#[], #[.int .i64 0, .slice none 0 0], []⟩ 8 (by kernel_rfl) (by kernel_rfl) (by kernel_rfl) (by kernel_rfl)) ?_
  intro W base args ds gs before hval hW _ _
  exact contract H enc W base args ds gs before hval hW

theorem holds : Rows.DevScriptsSaid :=
  OpenClaim.holds_of_wide 4 Try.f4 rfl rfl rfl rfl rfl rfl rfl ⟨rfl, rfl, rfl, rfl, rfl⟩ rfl rfl rfl rfl rfl (by kernel_rfl) Try.func4 (by kernel_rfl)
    (of_decide_eq_true (by kernel_rfl)) (by unfold Func.isWrapper; first | (rw [if_pos (by decide +kernel)]; kernel_rfl) | (rw [if_neg (by decide +kernel)]; exact ⟨rfl, rfl⟩))
    (fun os started H enc _ => lifted os started H enc)
end Go.Proofs.Ythgdjgbikljbeaa.devScripts
namespace Go.Proofs.Ythgdjgbikljbeaa
theorem devScripts_holds : Rows.DevScriptsSaid := devScripts.holds
#print axioms devScripts_holds
end Go.Proofs.Ythgdjgbikljbeaa
