/-
  Proved: two Commits of unlike sectors, in either order, or as one, leave the same (the law WalTogether), for every input.
-/
import Derived.Test.YtblhmfkohbdmeaaWLawE
namespace Go.Proofs.Ytblhmfkohbdmeaa.walTogether
open Go.RowKit Go.Maps Go.ChangeShapes Go.WideShapes Go.ChangeAt Go.PlainAid

set_option maxRecDepth 20000 in
set_option maxHeartbeats 8000000 in
theorem walk (v : Value) (l : List WrD) (c : Int) (w : World) (hv : RdWr w v l) (hl : l.length ≤ maxLen) (ho : ∀ o ∈ l, o.Ok) (hc0 : -9223372036854775808 ≤ c) (hc1 : c ≤ 9223372036854775807) :
    Calls Try.prog 8 #[v, .int .i64 c] w fun e w' => e = .returned (.bool true) ∧ Below w.heap.size w w' := by
  obtain ⟨ao, cp, rfl, ⟨hcp, hnn⟩, _⟩ := id hv
  have hvb : ∀ W, Below w.heap.size w W → RdWr W (.slice ao l.length cp) l := fun W h => hv.below h rfl
  have HO : Hid (∀ o ∈ l, o.Ok) := ho
  have hl' := hl
  unfold maxLen at hl'
  go_enter Try.func8, Try.ntmps8
  go_wp2_with fail
  refine (base_any (rd_nil _) (by simp) (by simp)).mono ?_
  rintro e w1 ⟨p0, bs0, bw0, s0, rfl, hD0, hC0, hk0, hf0⟩
  rw [based_nil] at hC0
  have hE0 : (apartE 23 [] == 0) = true := by decide
  rw [hE0]
  clear hE0
  have cC := content_any hD0.dev (hC0.at_rest hk0) (by decide) hf0
  clear hC0 hk0 hf0
  go_wp2_with fail
  refine cC.mono ?_
  rintro e w2 ⟨v2, s2, rfl, hS2, _, hd2, _, _, _, ho2⟩
  have hB2 := (hD0.only hd2 ho2).b
  obtain ⟨ao2, cp2, rfl, _, _, _⟩ := hS2
  rw [txs_len]
  clear cC hD0 hd2 ho2
  go_wp2_with fail
  refine (begun_any _).mono ?_
  rintro e w3 ⟨rfl, hb3⟩
  have hB3 := hB2.trans (hb3.mono hB2.size)
  clear hB2 hb3
  have cW : Calls Try.prog 27 #[.slice ao l.length cp, .int .i64 23] w3 fun e w' => e = .returned (.int .i64 (apartE 23 l)) ∧ Below w3.heap.size w3 w' := wrong_any 23 (by decide) (hvb _ hB3) hl HO.out
  clear ho
  go_wp2_with fail
  refine cW.mono ?_
  rintro e w4 ⟨rfl, hb4⟩
  have hB4 := hB3.trans (hb4.mono hB3.size)
  clear hB3 hb4 cW
  by_cases hE : apartE 23 l = 0
  · obtain ⟨hok, h24⟩ := apartE_zero hE
    have hpk := pickI_bd c ((l.length : Int) + 1) (by omega)
    obtain ⟨n, hn⟩ := Int.eq_ofNat_of_zero_le hpk.1
    have cQ := pick_any c ((l.length : Int) + 1) w4 hc0 hc1 (by omega) (by omega)
    rw [hn] at cQ hpk
    have hnl : n ≤ l.length := by omega
    have hEt : Hid (apartE 23 (l.take n) = 0) := apartE_ok (hok.take n) (by simp; omega)
    have hEd : Hid (apartE 23 (l.drop n) = 0) := apartE_ok (hok.drop n) (by simp; omega)
    have HE : Hid (apartE 23 l = 0) := hE
    have HK : Hid (OkW 23 l) := hok
    rw [hE]
    clear hok hE hc0 hc1 hpk hn
    have hlI : (l.length : Int) ≤ 24 := by omega
    have hnI : (n : Int) ≤ (l.length : Int) := by omega
    go_wp2_with fail
    refine cQ.mono ?_
    rintro e w' ⟨rfl, hw⟩
    rw [hw]
    clear hw w' cQ
    go_wp2_with fail
    generalize hT : txs 23 (put l fun _ => zeroS) = T
    have HT : Hid (txs 23 (put l fun _ => zeroS) = T) := hT
    clear hT
    obtain ⟨i0, hi, hz0, hz1, hz2⟩ := info_parts Try.infoSS
    have hwz := hB4.size
    go_loopw [10, 11] (fun va i wr => ∃ k : Nat, k ≤ 3 ∧ i = .int .i64 (k : Int) ∧ Al wr w4.heap.size va k T ∧ Below w.heap.size w wr ∧ w4.heap.size ≤ wr.heap.size) (fun _ i _ => 3 - (intOf i).toNat)
    case atStart => exact ⟨0, by omega, rfl, ⟨[], rfl, World.ownsRow_nil _ _ _ _, by simp⟩, hB4, Nat.le_refl _⟩
    case round =>
      obtain ⟨k, hk, rfl, hA, hB, hsz⟩ := hrel
      clear hB4
      by_cases hlt : k < 3
      · have hlt' : (k : Int) < 3 := by omega
        go_wp2_with fail
        refine (base_any (rd_nil _) (by simp) (by simp)).mono ?_
        rintro e w5 ⟨p, bs, bw, s5, rfl, hD5, hC5, hk5, hf5⟩
        rw [based_nil] at hC5
        have hE0 : (apartE 23 [] == 0) = true := by decide
        rw [hE0]
        clear hE0
        have cO := nopen_inf hD5 (hC5.at_rest hk5) (by decide) hf5
        clear hD5 hC5 hk5 hf5
        go_wp2_with fail
        refine cO.mono ?_
        rintro e w6 ⟨r, s6, rfl, hJ6, hC6, hk6, hf6⟩
        clear cO
        have hB6 := hB.trans (hJ6.b.mono hB.size)
        have hr6 : ∀ i, i < 23 → s6.readAt i = zeroS := fun i hi => (hC6.rest i hi).2
        have hs6 := hC6.hs
        have hh6 := hC6.hr
        have hn6 := hC6.n
        clear hC6 hk6
        by_cases k0 : k = 0
        · subst k0
          have cM := ncommit_inf hJ6 hf6 hn6 hs6 hh6 (hvb _ hB6) hl HO.out HE.out
          clear hJ6
          go_wp2_with fail
          refine cM.mono ?_
          rintro e w8 ⟨s8, rfl, hJ, hC, _, _⟩
          clear cM
          have hX : ∀ i, i < 23 → put l s6.readAt i = put l (fun _ => zeroS) i := fun i hi => put_congr l (hr6 i hi)
          have cR := ncrash_any hJ.toND ⟨#[]⟩ (by decide)
          have hRr := (hC.crash []).congr hX
          clear hJ hC
          go_wp2_with fail
          refine cR.mono ?_
          rintro e w9 ⟨⟨k9, rfl⟩, hD9⟩
          clear cR
          have cC := content_any hD9.dev hRr (by decide) rfl
          rw [HT.out] at cC
          clear hRr
          go_wp2_with fail
          refine cC.mono ?_
          rintro e w10 ⟨u, s10, rfl, _, hown, hd10, _, _, _, ho10⟩
          have hb10 := (hD9.only hd10 ho10).b
          have hTl : T.length = 23 := by rw [← HT.out, txs_len]
          rw [← hTl] at hown
          have hU := RdT.of_own hown
          have hA10 := hA.below hb10
          have hB10 := hB.trans (hb10.mono hB.size)
          have hsz10 := Nat.le_trans hsz hb10.size
          clear cC hD9 hd10 ho10 hown hA hB hsz hb10
          obtain ⟨V, hVk, hVo, hVr⟩ := hA10
          obtain ⟨ao3, cp3, rfl, _⟩ := own_shape hVo
          have HV : Hid (w10.ownsRow w4.heap.size 62 1 (.slice ao3 0 cp3) 0 V) := hVo
          have HU : Hid (RdT w10 u T) := hU
          obtain ⟨aoU, cpU, rfl, _⟩ := id hU
          rw [hTl] at HU ⊢
          clear hVo hU
          go_wp2_with (first | (at_builtin; refine wpList_append_own _ rfl (.tmp 117) (.tmp 119) 49 rfl w4.heap.size 62 i0 (.slice none 0 0) 1 24 Try.underlying49 hi hz0 hz1 hz2 rfl (by decide) _ _ _ rfl (HV.out.alloc _) ⟨w10.heap.size, 0, none⟩ 1 1 [.slice aoU 23 cpU] rfl rfl (one_new _ _ _) (one_one _ rfl) (by unfold maxLen; omega) (by omega) (by simp; omega) ?_) | go_in)
          intro v' w11 hown11 hgrow _
          have hB11 : Below w.heap.size w w11 := hB10.trans ((below_app hsz10 (Below.refl _ _) HV.out hgrow).mono hwz)
          have hkp := grown_keep HV.out hgrow
          have hA11 : Al w11 w4.heap.size v' (0 + 1) T := ⟨V ++ [.slice aoU 23 cpU], by simp [hVk], hown11, fun y hy => by
            rw [List.mem_append, List.mem_singleton] at hy
            rcases hy with hy | rfl
            · exact (hVr y hy).keep hkp
            · exact HU.out.keep hkp⟩
          have hsz11 : w4.heap.size ≤ w11.heap.size := Nat.le_trans hsz10 (Nat.le_trans (by simp) hgrow.size)
          clear hown11 hgrow hkp HV HU hVr
          go_wp2_with fail
          go_roundw
          case rel => exact ⟨0 + 1, by omega, by go_num, hA11, hB11, hsz11⟩
          case measure => simp [intOf]
        · by_cases k1 : k = 1
          · subst k1
            have hrt := run_take ao l.length cp n (by omega)
            have hrd := run_drop ao l.length cp n hnl
            have hvt : ∀ W, Below w.heap.size w W → RdWr W (sliced ao 0 n cp 2) (l.take n) := fun W h => rd_take (hvb W h) n hnl
            have hvd : ∀ W, Below w.heap.size w W → RdWr W (sliced ao n l.length cp 2) (l.drop n) := fun W h => rd_drop (hvb W h) n hnl
            generalize sliced ao 0 n cp 2 = vt at *
            generalize sliced ao n l.length cp 2 = vd at *
            have cM := ncommit_inf hJ6 hf6 hn6 hs6 hh6 (hvt _ hB6) (by have := List.length_take_le n l; omega) (fun o ho => HO.out o (List.mem_of_mem_take ho)) hEt.out
            clear hJ6 k0
            go_wp2_with (first | (with_reducible refine at_slice 48 _ _ _ _ rfl ?_; refine wpList_slice_run rfl 48 _ _ _ _ rfl vt (hrt _) ?_))
            refine cM.mono ?_
            rintro e w7 ⟨s7, rfl, hJ7, hC7, hk7, hf7⟩
            clear cM
            have hB7 := hB.trans (hJ7.b.mono hB.size)
            have cM := ncommit_inf hJ7 hf7 hC7.n hC7.hs hC7.hr (hvd _ hB7) (by rw [List.length_drop]; omega) (fun o ho => HO.out o (List.mem_of_mem_drop ho)) hEd.out
            clear hJ7
            go_wp2_with (first | (with_reducible refine at_slice 48 _ _ _ _ rfl ?_; refine wpList_slice_run rfl 48 _ _ _ _ rfl vd (hrd _) ?_))
            refine cM.mono ?_
            rintro e w8 ⟨s8, rfl, hJ, hC, _, _⟩
            clear cM
            have hX : ∀ i, i < 23 → put (l.drop n) s7.readAt i = put l (fun _ => zeroS) i := fun i hi => by
              rw [put_congr _ (hC7.rest i hi).2, put_congr (y := put (l.take n) fun _ => zeroS) _ (put_congr _ (hr6 i hi)), put_halves]
            clear hC7
            have cR := ncrash_any hJ.toND ⟨#[]⟩ (by decide)
            have hRr := (hC.crash []).congr hX
            clear hJ hC
            go_wp2_with fail
            refine cR.mono ?_
            rintro e w9 ⟨⟨k9, rfl⟩, hD9⟩
            clear cR
            have cC := content_any hD9.dev hRr (by decide) rfl
            rw [HT.out] at cC
            clear hRr
            go_wp2_with fail
            refine cC.mono ?_
            rintro e w10 ⟨u, s10, rfl, _, hown, hd10, _, _, _, ho10⟩
            have hb10 := (hD9.only hd10 ho10).b
            have hTl : T.length = 23 := by rw [← HT.out, txs_len]
            rw [← hTl] at hown
            have hU := RdT.of_own hown
            have hA10 := hA.below hb10
            have hB10 := hB.trans (hb10.mono hB.size)
            have hsz10 := Nat.le_trans hsz hb10.size
            clear cC hD9 hd10 ho10 hown hA hB hsz hb10
            obtain ⟨V, hVk, hVo, hVr⟩ := hA10
            obtain ⟨ao3, cp3, rfl, _⟩ := own_shape hVo
            have HV : Hid (w10.ownsRow w4.heap.size 62 1 (.slice ao3 1 cp3) 1 V) := hVo
            have HU : Hid (RdT w10 u T) := hU
            obtain ⟨aoU, cpU, rfl, _⟩ := id hU
            rw [hTl] at HU ⊢
            clear hVo hU
            go_wp2_with (first | (at_builtin; refine wpList_append_own _ rfl (.tmp 117) (.tmp 119) 49 rfl w4.heap.size 62 i0 (.slice none 0 0) 1 24 Try.underlying49 hi hz0 hz1 hz2 rfl (by decide) _ _ _ rfl (HV.out.alloc _) ⟨w10.heap.size, 0, none⟩ 1 1 [.slice aoU 23 cpU] rfl rfl (one_new _ _ _) (one_one _ rfl) (by unfold maxLen; omega) (by omega) (by simp; omega) ?_) | go_in)
            intro v' w11 hown11 hgrow _
            have hB11 : Below w.heap.size w w11 := hB10.trans ((below_app hsz10 (Below.refl _ _) HV.out hgrow).mono hwz)
            have hkp := grown_keep HV.out hgrow
            have hA11 : Al w11 w4.heap.size v' (1 + 1) T := ⟨V ++ [.slice aoU 23 cpU], by simp [hVk], hown11, fun y hy => by
              rw [List.mem_append, List.mem_singleton] at hy
              rcases hy with hy | rfl
              · exact (hVr y hy).keep hkp
              · exact HU.out.keep hkp⟩
            have hsz11 : w4.heap.size ≤ w11.heap.size := Nat.le_trans hsz10 (Nat.le_trans (by simp) hgrow.size)
            clear hown11 hgrow hkp HV HU hVr
            go_wp2_with fail
            go_roundw
            case rel => exact ⟨1 + 1, by omega, by go_num, hA11, hB11, hsz11⟩
            case measure => simp [intOf]
          · obtain rfl : k = 2 := by omega
            have hrt := run_take ao l.length cp n (by omega)
            have hrd := run_drop ao l.length cp n hnl
            have hvt : ∀ W, Below w.heap.size w W → RdWr W (sliced ao 0 n cp 2) (l.take n) := fun W h => rd_take (hvb W h) n hnl
            have hvd : ∀ W, Below w.heap.size w W → RdWr W (sliced ao n l.length cp 2) (l.drop n) := fun W h => rd_drop (hvb W h) n hnl
            generalize sliced ao 0 n cp 2 = vt at *
            generalize sliced ao n l.length cp 2 = vd at *
            have cM := ncommit_inf hJ6 hf6 hn6 hs6 hh6 (hvd _ hB6) (by rw [List.length_drop]; omega) (fun o ho => HO.out o (List.mem_of_mem_drop ho)) hEd.out
            clear hJ6 k0 k1
            go_wp2_with (first | (with_reducible refine at_slice 48 _ _ _ _ rfl ?_; refine wpList_slice_run rfl 48 _ _ _ _ rfl vd (hrd _) ?_))
            refine cM.mono ?_
            rintro e w7 ⟨s7, rfl, hJ7, hC7, hk7, hf7⟩
            clear cM
            have hB7 := hB.trans (hJ7.b.mono hB.size)
            have cM := ncommit_inf hJ7 hf7 hC7.n hC7.hs hC7.hr (hvt _ hB7) (by have := List.length_take_le n l; omega) (fun o ho => HO.out o (List.mem_of_mem_take ho)) hEt.out
            clear hJ7
            go_wp2_with (first | (with_reducible refine at_slice 48 _ _ _ _ rfl ?_; refine wpList_slice_run rfl 48 _ _ _ _ rfl vt (hrt _) ?_))
            refine cM.mono ?_
            rintro e w8 ⟨s8, rfl, hJ, hC, _, _⟩
            clear cM
            have hX : ∀ i, i < 23 → put (l.take n) s7.readAt i = put l (fun _ => zeroS) i := fun i hi => by
              rw [put_congr _ (hC7.rest i hi).2, put_congr (y := put (l.drop n) fun _ => zeroS) _ (put_congr _ (hr6 i hi)), put_swap HK.out]
            clear hC7
            have cR := ncrash_any hJ.toND ⟨#[]⟩ (by decide)
            have hRr := (hC.crash []).congr hX
            clear hJ hC
            go_wp2_with fail
            refine cR.mono ?_
            rintro e w9 ⟨⟨k9, rfl⟩, hD9⟩
            clear cR
            have cC := content_any hD9.dev hRr (by decide) rfl
            rw [HT.out] at cC
            clear hRr
            go_wp2_with fail
            refine cC.mono ?_
            rintro e w10 ⟨u, s10, rfl, _, hown, hd10, _, _, _, ho10⟩
            have hb10 := (hD9.only hd10 ho10).b
            have hTl : T.length = 23 := by rw [← HT.out, txs_len]
            rw [← hTl] at hown
            have hU := RdT.of_own hown
            have hA10 := hA.below hb10
            have hB10 := hB.trans (hb10.mono hB.size)
            have hsz10 := Nat.le_trans hsz hb10.size
            clear cC hD9 hd10 ho10 hown hA hB hsz hb10
            obtain ⟨V, hVk, hVo, hVr⟩ := hA10
            obtain ⟨ao3, cp3, rfl, _⟩ := own_shape hVo
            have HV : Hid (w10.ownsRow w4.heap.size 62 1 (.slice ao3 2 cp3) 2 V) := hVo
            have HU : Hid (RdT w10 u T) := hU
            obtain ⟨aoU, cpU, rfl, _⟩ := id hU
            rw [hTl] at HU ⊢
            clear hVo hU
            go_wp2_with (first | (at_builtin; refine wpList_append_own _ rfl (.tmp 117) (.tmp 119) 49 rfl w4.heap.size 62 i0 (.slice none 0 0) 1 24 Try.underlying49 hi hz0 hz1 hz2 rfl (by decide) _ _ _ rfl (HV.out.alloc _) ⟨w10.heap.size, 0, none⟩ 1 1 [.slice aoU 23 cpU] rfl rfl (one_new _ _ _) (one_one _ rfl) (by unfold maxLen; omega) (by omega) (by simp; omega) ?_) | go_in)
            intro v' w11 hown11 hgrow _
            have hB11 : Below w.heap.size w w11 := hB10.trans ((below_app hsz10 (Below.refl _ _) HV.out hgrow).mono hwz)
            have hkp := grown_keep HV.out hgrow
            have hA11 : Al w11 w4.heap.size v' (2 + 1) T := ⟨V ++ [.slice aoU 23 cpU], by simp [hVk], hown11, fun y hy => by
              rw [List.mem_append, List.mem_singleton] at hy
              rcases hy with hy | rfl
              · exact (hVr y hy).keep hkp
              · exact HU.out.keep hkp⟩
            have hsz11 : w4.heap.size ≤ w11.heap.size := Nat.le_trans hsz10 (Nat.le_trans (by simp) hgrow.size)
            clear hown11 hgrow hkp HV HU hVr
            go_wp2_with fail
            go_roundw
            case rel => exact ⟨2 + 1, by omega, by go_num, hA11, hB11, hsz11⟩
            case measure => simp [intOf]
      · obtain rfl : k = 3 := by omega
        have hlt' : ¬ ((3 : Nat) : Int) < 3 := by decide
        obtain ⟨V, hVk, hVo, hVr⟩ := hA
        match V, hVk with
        | [u0, u1, u2], _ =>
          obtain ⟨ao3, cp3, rfl, hao⟩ := own_shape hVo
          obtain ⟨g, rfl, hg0, hg1, hcp3, hcell⟩ := hao (by decide)
          have c0 := hcell 0 (by decide)
          have c1 := hcell 1 (by decide)
          have c2 := hcell 2 (by decide)
          have r0 := hVr u0 (by simp)
          have r1 := hVr u1 (by simp)
          have r2 := hVr u2 (by simp)
          have hTl : T.length = 23 := by rw [← HT.out, txs_len]
          have cE : ∀ (y z : Value), RdT wr y T → RdT wr z T → ∀ n, Calls Try.prog 33 #[y, z] (wr.drewN n) fun e w' => e = .returned (.bool true) ∧ ∃ m, w' = (wr.drewN n).drewN m := fun y z hy hz n => by
            have hb : Below wr.heap.size wr (wr.drewN n) := (Only.drewN [] wr n).nil_below
            have := same_any (hy.below hb).rd (hz.below hb).rd (by omega) (by omega)
            rw [show decide (T = T) = true by simp] at this
            exact this
          clear hVo hVr hao hcell hvb hv HT
          simp at c0 c1 c2
          go_wp2_with fail
          go_quiet (first | (go_at_call 33; exact Calls.quiet_of (cE _ _ (by assumption) (by assumption) _)))
          go_wp2_with fail
          go_ret
          exact ⟨rfl, hB.trans ((Only.drewN [] wr _).below hB.size (by simp))⟩
  · have hne : (apartE 23 l != 0) = true := by simpa using hE
    clear hE
    generalize apartE 23 l = er at hne ⊢
    go_wp2_with fail
    go_ret
    exact ⟨rfl, hB4⟩

theorem own : ownKnob Try.prog.godebug = none := by kernel_rfl
theorem laidOut : laidOutB Try.prog = true := by kernel_rfl

set_option maxRecDepth 20000 in
theorem contract (H : Type) (enc : TypeId × Value → H) (W : World) (base : Nat) (args : Array Value) (ds gs : List (DataW H)) (before : List MemPlace)
    (hval : ∀ (j : Nat) t v, Try.f8.params[j]? = some t → args[j]? = some v → Value.okWide Try.prog W .any base t v)
    (hW : DataW.Whole enc Try.prog Try.f8.params.toList Rows.walTogetherSpec.vars false W args.toList ds gs before) :
    Calls Try.prog 8 args W fun e W' => ∃ v, e = .returned v ∧ Rows.walTogetherSpec.post enc Try.prog Try.f8 false true false false W args v W' := by
  have hW' := hW
  obtain ⟨p, q, hA0, hV, rfl, hfz, hnd⟩ := hW
  have hA : DataW.TrodAll enc Try.prog W 0 (fun _ => true) true Try.f8.params.toList args.toList ds p := hA0
  rw [Try.params8] at hA hval
  obtain ⟨v0, vs0, d0, ds0, p0, q0, hargs, rfl, rfl, h0, r0⟩ := trodAll_cons hA
  obtain ⟨v1, vs1, d1, ds1, p1, q1, rfl, rfl, rfl, h1, r1⟩ := trodAll_cons r0
  obtain ⟨rfl, rfl, rfl⟩ := trodAll_nil r1
  obtain rfl : args = #[v0, v1] := by cases args; simp_all
  obtain ⟨rfl, rfl⟩ := trodVars_none hV
  have k0 := h0
  have lt0 : ∀ x ∈ p0, x.block < W.heap.size := by obtain ⟨m, hm⟩ := k0; exact DataW.trod_lt m _ _ _ hm
  have k1 := h1
  have lt1 : ∀ x ∈ p1, x.block < W.heap.size := by obtain ⟨m, hm⟩ := k1; exact DataW.trod_lt m _ _ _ hm
  obtain ⟨a0, len0, cap0, rfl⟩ := okWide_slice Try.underlying48 (hval 0 48 v0 rfl rfl)
  obtain ⟨fuel0, hf0⟩ := h0
  obtain ⟨l0, rd0, ln0, ok0⟩ := open_wrs hf0
  obtain ⟨a1, rfl, rfl, rfl, w1⟩ := open_int Try.underlying3 (hval 1 3 v1 rfl rfl) h1
  clear hA0
  simp only [List.append_nil] at hW'
  refine (walk (.slice a0 len0 cap0) l0 a1 W rd0 ln0 ok0 (wf_bd w1).1 (wf_bd w1).2).mono fun e W' ⟨he, bel⟩ => ?_
  subst he
  exact ⟨_, rfl, _, _, _, [], _, [], hW', trodAll_mk1 (shut_bool Try.underlying4 _), (trodAll_cons_mk (Below.trod laidOut (by kernel_rfl) (of_decide_eq_true (by kernel_rfl)) k0 bel lt0) (trodAll_cons_mk (Below.trod laidOut (by kernel_rfl) (of_decide_eq_true (by kernel_rfl)) k1 bel lt1) trodAll_mk0)), rfl, bel.frame _, fun h => by cases h⟩

set_option maxRecDepth 100000 in
theorem lifted (os : Os) (started : os.Started) (H : Type) (enc : TypeId × Value → H) :
    ReturnsInHanded {} Try.checked os 8 .any (Rows.walTogetherSpec.pre6 enc Try.prog Try.f8 Rows.walTogetherRow.domain false) (Rows.walTogetherSpec.post enc Try.prog Try.f8 false true false false) := by
  refine returnsInHanded_of_change (C := Try.checked) own started (by kernel_rfl) Try.func8
    (ChangeSpec.witness6 (enc := enc) (C := Try.checked) false ⟨#[], #[.slice none 0 0, .int .i64 0], []⟩ 8 (by kernel_rfl) (by kernel_rfl) (by kernel_rfl) (by kernel_rfl)) ?_
  intro W base args ds gs before hval hW _ _
  exact contract H enc W base args ds gs before hval hW

theorem holds : Rows.WalTogetherSaid :=
  OpenClaim.holds_of_wide 8 Try.f8 rfl rfl rfl rfl rfl rfl rfl ⟨rfl, rfl, rfl, rfl, rfl⟩ rfl rfl rfl rfl rfl (by kernel_rfl) Try.func8 (by kernel_rfl)
    (of_decide_eq_true (by kernel_rfl)) (by unfold Func.isWrapper; first | (rw [if_pos (by decide +kernel)]; kernel_rfl) | (rw [if_neg (by decide +kernel)]; exact ⟨rfl, rfl⟩))
    (fun os started H enc _ => lifted os started H enc)
end Go.Proofs.Ytblhmfkohbdmeaa.walTogether
namespace Go.Proofs.Ytblhmfkohbdmeaa
theorem walTogether_holds : Rows.WalTogetherSaid := walTogether.holds
#print axioms walTogether_holds
end Go.Proofs.Ytblhmfkohbdmeaa
