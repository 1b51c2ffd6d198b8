/-
  The scripts of shelf: crashes.
-/
import Derived.Test.YtkmdjhdininimaaSsB
namespace Go.Proofs.Ytkmdjhdininimaa
open Go.RowKit Go.Maps

theorem strings_neS {a b : ByteArray} (h : a ≠ b) : (a.toList == b.toList) = false := by
  rw [beq_eq_false_iff_ne, ne_eq, Go.ByteArray.toList_eq, Go.ByteArray.toList_eq]
  intro e
  exact h (ByteArray.ext (Array.ext' e))
/-- At v lie numbers. -/
def RdI (w : World) (v : Value) (l : List Int) : Prop :=
  ∃ ao cp, v = .slice ao l.length cp ∧ ∀ (i : Nat) (o : Int), l[i]? = some o → ∃ b off, ao = some ⟨b, off, none⟩ ∧ b < w.heap.size ∧ w.cell? ⟨b, off + i, none⟩ = some (.int .i64 o)
section
variable {W0 W W' : World} {b p bs bw : Nat} {P P' : PD}
/-- The pair has another shelf. -/
theorem IsPr.swap {q2 : Nat} {s' : DevS} {age' : Int} {d' : Bool} (h : IsPr W0 W b p bs bw P) (hn : NS W0 W q2 p bs bw s' age' d') (hr : s'.n = P.s.n) : IsPr W0 (W.setCell ⟨b, 1, none⟩ (.pointer (some ⟨q2, 0, none⟩))) b p bs bw { P with q := q2, s := s', age := age', dead := d' } := by
  have ho : Only [b] W (W.setCell ⟨b, 1, none⟩ (.pointer (some ⟨q2, 0, none⟩))) := Only.setCell W (p := ⟨b, 1, none⟩) (by simp) _
  have hap := h.apart
  simp at hap
  have hq : q2 ≠ b := fun e => by
    have : W.heap[q2]? = _ := hn.sh
    rw [e, h.bx] at this; injection this with this; injection this with _ h2; cases h2
  refine ⟨hn.kept ho (h.b.trans (ho.below h.b.size (by have := h.lb; simpa using this))) (by simp; omega) (by simp; omega) (by simp; omega) (by simpa using hq), heap_setCell h.bx 1 _, h.lb, own_o h.ow ho (fun x hx cs fz e => ?_), by rw [← h.rm]; exact room_n hr⟩
  simp at hx
  subst hx
  rw [h.bx] at e; injection e with e; injection e with _ h2; cases h2
theorem says_fuseS {s : DevS} {t : List UInt8} (h : Says s t) (n : Int) : Says { s with fuse := n } t := h.of rfl rfl (fun _ _ => rfl)
theorem own_len {w : World} {B e n : Nat} {v : Value} {xs : List Value} (h : w.ownsRow B e 1 v n xs) : n ≤ 9223372036854775807 := by
  rcases h.2 with ⟨_, h1⟩ | ⟨g, cap, cur, _, _, _, h1, h2, _⟩
  · omega
  · unfold maxLen at h2; omega
theorem Kept.safe (h : Kept P) (h8 : 8 ≤ P.s.n) : Safe P := by
  rcases h with h | h
  · exact h.safe h8
  · exact h.safe
theorem Kept.rdy (h : Kept P) (m : List UInt8) : rdy (P.s.crashed m) P.age P.dead = false := by
  rcases h with h | h
  · rw [h.age]; exact crash_rdy _ _ _
  · rw [h.dead]; exact lost_rdy _ _
end

set_option maxRecDepth 20000 in
set_option maxHeartbeats 1000000 in
theorem crashes_any {W0 W : World} {b p bs bw : Nat} {P : PD} (h : IsPr W0 W b p bs bw P) (hk : Kept P) (x : ByteArray) (hx : x.size ≤ maxLen) (v : Value) (C : List Int) (hC : RdI W0 v C) (hcb : ∀ c ∈ C, -9223372036854775808 ≤ c ∧ c ≤ 9223372036854775807) :
    Calls Try.prog 22 #[.pointer (some ⟨b, 0, none⟩), .string x, v] W fun e w' => e = .returned (.bool true) ∧ ∃ P', IsPr W0 w' b p bs bw P' ∧ Mid P' ∧ P'.s.n = P.s.n := by
  obtain ⟨t, htm, hts⟩ := hk.safe h.dev.lo x.data.toList
  obtain ⟨ao, cp, rfl, hCc⟩ := hC
  obtain ⟨c0, -, -, -, -, -, -⟩ := h.cells
  have cX := ncrash_any h.toND x hx
  go_enter Try.func22, Try.ntmps22
  go_wp2_with fail
  refine cX.mono ?_
  rintro e w1 ⟨⟨k1, rfl⟩, hD1, ho1⟩
  have h1 := h.turn ⟨hD1, h.sh.only ho1 (h.sh.apart h.dev), h.lq⟩ (ho1.mono (by simp)) rfl
  clear cX c0 hD1 ho1
  have e1 := h1.cells.2.1
  have cP := nput_dead2 h1.toNS (hk.rdy _) ⟨#[120]⟩
  simp only at e1 cP
  go_wp2_with fail
  refine cP.mono ?_
  rintro e w2 ⟨rfl, hN2, ho2⟩
  have h2 := h1.turn hN2 ho2 rfl
  clear cP e1 h1 hN2 ho2
  have e1 := h2.cells.2.1
  have cG := nget_no h2.toNS (lost_rdy _ _)
  simp only at e1 cG
  go_wp2_with fail
  refine cG.mono ?_
  rintro e w3 ⟨rfl, hN3, ho3⟩
  have h3 := h2.turn hN3 (ho3.mono (by simp)) rfl
  clear cG e1 h2 hN3 ho3
  have Hk : Hid (Kept P) := hk
  clear hk
  go_wp2_with fail
  go_loopw [7] (fun i wr => ∃ (k : Nat) (s' : DevS), k ≤ C.length ∧ k ≤ 4 ∧ i = .int .i64 (k : Int) ∧ IsPr W0 wr b p bs bw { P with s := s', dead := true } ∧ s'.keys = [] ∧ s'.fuse = -1 ∧ Says s' t.data.toList ∧ s'.n = P.s.n) (fun i _ => 4 - (intOf i).toNat)
  case atStart => exact ⟨0, _, by omega, by omega, rfl, h3, crash_keys _, rfl, hts, rfl⟩
  case round =>
    clear h3
    obtain ⟨k, s', hk1, hk4, rfl, hp, hc', hf', hs', hn'⟩ := hrel
    by_cases hlt : k < C.length ∧ k < 4
    · obtain ⟨hl1, hl2⟩ := hlt
      have hl1' : (k : Int) < (C.length : Int) := by omega
      have hl2' : (k : Int) < 4 := by omega
      obtain ⟨cb, off, rfl, hcl, hcc⟩ := hCc k C[k] (by simp [hl1])
      have hcb' := hcb C[k] (List.getElem_mem hl1)
      have hpd := hp.below (Below.drew (Below.refl _ wr))
      have hcd : wr.drew.cell? ⟨cb, off + k, none⟩ = some (.int .i64 C[k]) := by
        have := hpd.b.cell (p := ⟨cb, off + k, none⟩) hcl
        rw [this]; exact hcc
      have q0 := hpd.cells.1
      have cK := pick_any C[k] 9 wr.drew hcb'.1 hcb'.2 (by omega) (by omega)
      have hpb := pickI_bd C[k] 9 (by omega)
      generalize pickI C[k] 9 = f at *
      generalize C[k] = c at *
      have cF := fuse_ok hpd.dev f (by omega) (by omega)
      go_upto_region 7 with fail
      refine region_tail 9 Try.mixed (by kernel_rfl) ?_
      simp only [List.take_succ_cons, List.take_zero, List.drop_succ_cons, List.drop_zero]
      iterate 8 still_step
      still_call cK
      refine wpStill_nil ?_
      go_wp2_with (go_at_call 13; refine cF.mono ?_; rintro e w4 ⟨rfl, hd4, ho4⟩; have h4 := hpd.turn ⟨hpd.toND.only hd4 ho4 (by have := hpd.lp; simpa using this), hpd.sh.only ho4 (by have := hpd.sh.apart hpd.dev; simp at this; simp [this.1]), hpd.lq⟩ (ho4.mono (by simp)) rfl; have q4 := h4.cells.1; go_frame)
      have hs4 := says_fuseS hs' f
      have hk4 : ({ s' with fuse := f } : DevS).keys = [] := hc'
      clear cF cK hpd hcd q0 hp
      try simp only at h4
      try simp only at q4
      have fin : ∀ w6, IsPr W0 w6 b p bs bw { P with s := DevS.crashed { s' with fuse := f } x.data.toList, dead := true } → (∃ (k_1 : Nat) (s'_1 : DevS), k_1 ≤ C.length ∧ k_1 ≤ 4 ∧ Value.int .i64 ((k : Int) + 1) = .int .i64 (k_1 : Int) ∧ IsPr W0 w6 b p bs bw { P with s := s'_1, dead := true } ∧ s'_1.keys = [] ∧ s'_1.fuse = -1 ∧ Says s'_1 t.data.toList ∧ s'_1.n = P.s.n) := fun w6 h6 => ⟨k + 1, _, by omega, by omega, by go_num, h6, crash_keys _, rfl, hs4.crash hk4 h4.dev.lo _, hn'⟩
      by_cases hf0 : f = 0
      · subst hf0
        have cO := sopen_down h4.dev rfl
        refine cO.mono ?_
        rintro e w5 ⟨rfl, hb5⟩
        have h5 := h4.below hb5
        have q5 := h5.cells.1
        have cX := ncrash_any h5.toND x hx
        simp only at q5 cX
        clear cO h4 q4 hb5
        go_wp2_with fail
        refine cX.mono ?_
        rintro e w6 ⟨⟨k6, rfl⟩, hD6, ho6⟩
        have h6 := h5.turn ⟨hD6, h5.sh.only ho6 (h5.sh.apart h5.dev), h5.lq⟩ (ho6.mono (by simp)) rfl
        clear cX h5 q5 hD6 ho6
        go_wp2_with fail
        exact ⟨fin _ h6, by simp [intOf]; omega⟩
      · have hu4 : ({ s' with fuse := f } : DevS).up = true := by unfold DevS.up; simpa using hf0
        have cO := nopen_up (W0 := W0) (t := t.data.toList) ⟨h4.toND, hk4, hs4⟩ hu4
        refine cO.mono ?_
        rintro e w5 ⟨q9, rfl, hN5, -, ho5⟩
        have h5 := h4.turn ⟨hN5.toND, h4.sh.only ho5 (h4.sh.apart h4.dev), h4.lq⟩ (ho5.mono (by simp)) rfl
        have q5 := h5.cells.1
        have cX := ncrash_any h5.toND x hx
        simp only at q5 cX
        clear cO h4 q4 hN5 ho5
        go_wp2_with fail
        refine cX.mono ?_
        rintro e w6 ⟨⟨k6, rfl⟩, hD6, ho6⟩
        have h6 := h5.turn ⟨hD6, h5.sh.only ho6 (h5.sh.apart h5.dev), h5.lq⟩ (ho6.mono (by simp)) rfl
        clear cX h5 q5 hD6 ho6
        go_wp2_with fail
        exact ⟨fin _ h6, by simp [intOf]; omega⟩
    · clear hCc hcb
      have hq0 := hp.cells.1
      have cO := lv_open (W0 := W0) (t := t.data.toList) ⟨hp.toND, hc', hs'⟩ hf'
      have hcut : decide ((k : Int) < (C.length : Int)) = false ∨ decide ((k : Int) < (C.length : Int)) = true ∧ decide ((k : Int) < 4) = false := by
        by_cases h1 : k < C.length
        · exact .inr ⟨by simpa using h1, by simp; omega⟩
        · exact .inl (by simpa using h1)
      go_upto_region 5 with fail
      go_cut [42] (fun v wx => v = .bool false ∧ wr = wx)
      case first =>
        rcases hcut with h1 | ⟨h1, h2⟩
        · have h1' : ¬ (k : Int) < (C.length : Int) := by simpa using h1
          go_wp2_with fail
          go_meet
          exact ⟨rfl, rfl⟩
        · have h1' : (k : Int) < (C.length : Int) := by simpa using h1
          have h2' : ¬ (k : Int) < 4 := by simpa using h2
          go_wp2_with fail
          go_meet
          exact ⟨rfl, rfl⟩
      case rest =>
        obtain ⟨rfl, rfl⟩ := hcut
        clear hcut
        go_wp2_with fail
        refine cO.mono ?_
        rintro e w5 ⟨q2, rfl, hL5, -, ho5⟩
        have h5 := hp.turn ⟨hL5.toND, hp.sh.only ho5 (hp.sh.apart hp.dev), hp.lq⟩ (ho5.mono (by simp)) rfl
        clear cO hp hq0 ho5
        have cG := lv_getx hL5
        go_wp2_with fail
        refine cG.mono ?_
        rintro e w6 ⟨rfl, hL6, hb6⟩
        have h6 := h5.below hb6
        clear cG hL5 h5 hb6
        obtain ⟨q0, q1, q2', q3, q4, q5, qz⟩ := h6.cells
        simp only at q2' q3 q4 q5
        have how := h6.ow
        simp only at how
        have hll := own_len how
        obtain ⟨a4, k4, hlv, hlc⟩ := own_shape how
        rw [hlv] at q4
        clear how
        go_upto_region 16 with fail
        go_cut [13] (fun v wx => ∃ rb : Bool, v = .bool rb ∧ (rb = true ∨ ∃ j : Nat, P.late[j]? = some t) ∧ w6 = wx)
        case first =>
          by_cases hT : t = P.text
          · subst hT
            go_wp2_with fail
            go_meet
            exact ⟨_, rfl, .inl (by simp), rfl⟩
          · have hne := strings_neS hT
            have hj : ∃ j : Nat, P.late[j]? = some t := by
              rcases List.mem_cons.1 htm with e | e
              · exact absurd e hT
              · obtain ⟨j, hj, e⟩ := List.mem_iff_getElem.1 e
                exact ⟨j, by rw [List.getElem?_eq_getElem hj, e]⟩
            go_wp2_with fail
            go_meet
            exact ⟨_, rfl, .inr hj, rfl⟩
        case rest =>
          obtain ⟨rb, rfl, hrb, rfl⟩ := hcut
          go_wp2_with fail
          go_loop [13, 14] (fun r i => ∃ (j : Nat) (rb : Bool), j ≤ P.late.length ∧ i = .int .i64 (j : Int) ∧ r = .bool rb ∧ (rb = true ∨ ∃ l : Nat, j ≤ l ∧ P.late[l]? = some t)) (fun _ i => P.late.length - (intOf i).toNat)
          case atStart => exact ⟨0, rb, by omega, rfl, rfl, by
            rcases hrb with e | ⟨l, e⟩
            · exact .inl e
            · exact .inr ⟨l, by omega, e⟩⟩
          case round =>
            obtain ⟨j, rc, hj, rfl, rfl, hrc⟩ := hrel
            by_cases hjl : j < P.late.length
            · have hjl' : (j : Int) < (P.late.length : Int) := by omega
              obtain ⟨g, ea, -, -, -, hcell⟩ := hlc (by omega)
              have hcj := hcell j hjl
              rw [ea] at q4
              clear hcell
              simp only [List.getElem?_map, List.getElem?_eq_getElem hjl, Option.map_some] at hcj
              cases rc with
              | true =>
                clear hrc
                go_wp2_with fail
                go_round
                case rel => exact ⟨j + 1, true, by omega, by go_num, rfl, .inl rfl⟩
                case measure => simp [intOf]; omega
              | false =>
                by_cases hT : t = P.late[j]
                · rw [← hT] at hcj
                  clear hrc hT
                  go_wp2_with fail
                  go_round
                  case rel => exact ⟨j + 1, _, by omega, by go_num, rfl, .inl (by simp)⟩
                  case measure => simp [intOf]; omega
                · have hne := strings_neS hT
                  have hr' : ∃ l : Nat, j + 1 ≤ l ∧ P.late[l]? = some t := by
                    rcases hrc with e | ⟨l, e1, e2⟩
                    · cases e
                    · refine ⟨l, ?_, e2⟩
                      rcases Nat.lt_or_ge j l with h7 | h7
                      · exact h7
                      · obtain rfl : l = j := by omega
                        rw [List.getElem?_eq_getElem hjl] at e2
                        injection e2 with e2
                        exact absurd e2.symm hT
                  clear hrc
                  go_wp2_with fail
                  go_round
                  case rel => exact ⟨j + 1, false, by omega, by go_num, rfl, .inr hr'⟩
                  case measure => simp [intOf]; omega
            · have hjl' : ¬ (j : Int) < (P.late.length : Int) := by omega
              obtain rfl : rc = true := by
                rcases hrc with e | ⟨l, e1, e2⟩
                · exact e
                · have := (List.getElem?_eq_some_iff.1 e2).1
                  omega
              have z1 := qz 1
              have h7 := h6.swap hL6.toNS rfl
              simp only at h7
              obtain ⟨-, -, r2, -, -, -, rz⟩ := h7.cells
              have z2 := rz 2
              simp only at r2
              have h8 : IsPr W0 ((w6.setCell ⟨b, 1, none⟩ (.pointer (some ⟨q2, 0, none⟩))).setCell ⟨b, 2, none⟩ (.string t)) b p bs bw { P with q := q2, s := s', age := s'.age, dead := false, text := t } := h7.put rfl rfl rfl rfl rfl rfl (.inl ⟨rfl, rfl⟩)
              obtain ⟨-, -, -, -, r4, -, rz8⟩ := h8.cells
              have z4 := rz8 4
              simp only at r4
              rw [hlv] at r4
              have h9 : IsPr W0 (((w6.setCell ⟨b, 1, none⟩ (.pointer (some ⟨q2, 0, none⟩))).setCell ⟨b, 2, none⟩ (.string t)).setCell ⟨b, 4, none⟩ (.slice none 0 0)) b p bs bw { P with q := q2, s := s', age := s'.age, dead := false, text := t, lv := .slice none 0 0, late := [] } := h8.put rfl rfl rfl rfl rfl rfl (.inr ⟨rfl, rfl⟩)
              obtain ⟨-, -, -, -, -, r5, rz9⟩ := h9.cells
              have z5 := rz9 5
              simp only at r5
              have h10 : IsPr W0 ((((w6.setCell ⟨b, 1, none⟩ (.pointer (some ⟨q2, 0, none⟩))).setCell ⟨b, 2, none⟩ (.string t)).setCell ⟨b, 4, none⟩ (.slice none 0 0)).setCell ⟨b, 5, none⟩ (.bool false)) b p bs bw { P with q := q2, s := s', age := s'.age, dead := false, text := t, lv := .slice none 0 0, late := [], lost := false } := h9.put rfl rfl rfl rfl rfl rfl (.inl ⟨rfl, rfl⟩)
              have hLive : Live { P with q := q2, s := s', age := s'.age, dead := false, text := t, lv := .slice none 0 0, late := [], lost := false } := ⟨rfl, up_inf hf', rfl, rfl, hc', hs', ⟨rfl, rfl⟩⟩
              clear qz rz rz8 rz9 h7 h8 h9 hrc
              obtain ⟨X, hX⟩ : ∃ X, X = (((w6.setCell ⟨b, 1, none⟩ (.pointer (some ⟨q2, 0, none⟩))).setCell ⟨b, 2, none⟩ (.string t)).setCell ⟨b, 4, none⟩ (.slice none 0 0)).setCell ⟨b, 5, none⟩ (.bool false) := ⟨_, rfl⟩
              have hX' : Hid (X = (((w6.setCell ⟨b, 1, none⟩ (.pointer (some ⟨q2, 0, none⟩))).setCell ⟨b, 2, none⟩ (.string t)).setCell ⟨b, 4, none⟩ (.slice none 0 0)).setCell ⟨b, 5, none⟩ (.bool false)) := hX
              clear hX
              rw [← hX'.out] at h10
              go_upto_region 25 with fail
              rw [← hX'.out]
              have k3 : ∀ u : Beh X, u.it.cell? ⟨b, 3, none⟩ = some (.int .i64 (P.room : Int)) := fun u => (h10.below u.h).cells.2.2.2.1
              have hrd := hLive.rdy
              have cR : ∀ u : Beh X, Calls Try.prog 18 #[.pointer (some ⟨q2, 0, none⟩)] u.it fun e w' => e = .returned (.int .i64 (P.room : Int)) ∧ Below u.it.heap.size u.it w' := fun u => (sroom_ok (h10.below u.h).dev (h10.below u.h).sh hrd).mono fun _ _ ⟨h1, h2⟩ => ⟨by rw [h1]; exact congrArg (fun n : Nat => Ending.returned (.int .i64 (n : Int))) h10.rm, h2⟩
              clear hX' hrd hL6 h6
              refine wp_region_beh (by kernel_rfl) (by kernel_rfl) ?_
              repeat (go_big_quiet_step ((go_at_call 18; exact Beh.call (cR _))))
              refine wpQuiet_nil ?_
              intro wq hw'
              have hwq := Beh.out hw'
              clear hw' cR k3
              go_wp2_with fail
              go_ret
              exact ⟨rfl, _, h10.below hwq, .inl hLive, hn'⟩
end Go.Proofs.Ytkmdjhdininimaa
