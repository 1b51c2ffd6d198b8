/-
  The contracts of the reference's Base, Target and Apply.
-/
import Derived.Test.YtcdnlkhjlgaaoaaDoorDrA
import Derived.Test.YtcdnlkhjlgaaoaaDoorPkRefW
import Derived.Deep.QuietTactic
import Derived.BigQuiet
namespace Go.Proofs.YtcdnlkhjlgaaoaaDoor
open Go.ChangeShapes Go.WideShapes Go.ChangeAt Go.RowKit Go.PlainAid

theorem op_n (s : St) : s.op.n = (s.b : Int) := by cases s <;> rfl

set_option maxRecDepth 20000 in
set_option maxHeartbeats 2000000 in
theorem refBase_any (v : Value) (ds : List OpD) (w : World) (hr : RdD w v ds) (hm : ds.length ≤ maxLen) (hi : ∀ o ∈ ds, o.Sm) :
    Calls Tryd.prog 31 #[v] w fun e w' => e = .returned (.tuple #[.int .i64 (bsum (stR ds) : Int), .int .i64 (chk ds)]) ∧ Below w.heap.size w w' := by
  have hC := refCheck_any v ds w hr hm hi
  by_cases c : chk ds = 0
  · have hbd := stR_bd ds
    have hln := stR_len ds
    have hds := stR_op c
    rw [c] at hC ⊢
    generalize stR ds = l at *
    subst hds
    obtain ⟨ao, cp, rfl, _, hc⟩ := hr
    rw [List.length_map] at *
    clear hi hm c
    go_enter Tryd.func31, Tryd.ntmps31
    go_wp2_with (go_at_call 62; refine hC.mono ?_; rintro e w1 ⟨rfl, hb1⟩)
    clear hC
    go_loopw [5, 6] (fun b i wr => ∃ k : Nat, k ≤ l.length ∧ i = .int .i64 (k : Int) ∧ b = .int .i64 (bsum (l.take k) : Int) ∧ Below w.heap.size w wr) (fun _ i _ => l.length - (intOf i).toNat)
    case atStart => exact ⟨0, by omega, rfl, rfl, hb1⟩
    case round =>
      obtain ⟨k, hk, rfl, rfl, hbl⟩ := hrel
      have hst := (sum_take l k).1
      have b1 : (bsum (l.take k) : Int) ≤ 1000 := by omega
      by_cases hlt : k < l.length
      · have hlt' : (k : Int) < (l.length : Int) := by omega
        have HB : Hid (bsum (l.take (k + 1)) = bsum (l.take k) + (l[k]).b) := bsum_take l k hlt
        have hst2 := (sum_take l (k + 1)).1
        have n1 : ((l[k]).b : Int) ≤ 1000 := by have := HB.out; omega
        obtain ⟨b, off, rfl, hbb, c0, c1, c2⟩ := hc k (l[k]).op (by simp [hlt])
        have hBc : ∀ o, wr.cell? ⟨b, o, none⟩ = w.cell? ⟨b, o, none⟩ := fun o => hbl.cell (p := ⟨b, o, none⟩) hbb
        rw [← hBc] at c0 c1 c2
        rw [op_n] at c1
        clear hBc hc hst hst2 c0 c2
        generalize (l[k]).b = N at *
        generalize bsum (l.take k) = B at *
        go_wp2
        go_roundw
        case rel => exact ⟨k + 1, by omega, by go_num, by rw [HB.out]; go_num, hbl⟩
        case measure => simp [intOf]; omega
      · have e : k = l.length := by omega
        subst e
        rw [List.take_length]
        clear hc hst
        go_wp2
        go_ret2
        exact ⟨rfl, hbl⟩
  · have hne : (chk ds != 0) = true := by simpa using c
    have e0 : bsum (stR ds) = 0 := by rw [chk_no ds c]; rfl
    rw [e0]
    generalize chk ds = x at *
    go_enter Tryd.func31, Tryd.ntmps31
    go_wp2_with (go_at_call 62; refine hC.mono ?_; rintro e w1 ⟨rfl, hb1⟩)
    go_ret2
    exact ⟨rfl, hb1⟩

set_option maxRecDepth 20000 in
theorem slice_mid (b o len cp lo n : Nat) (hn : lo + n ≤ len) (hc : len ≤ cp) (h0 : 0 < n) (W : World) :
    (Instr.slice 88 (.slice (some ⟨b, o, none⟩) len cp) (some (.int .i64 (lo : Int))) (some (.int .i64 ((lo : Int) + (n : Int)))) none).run Tryd.prog W = .ok (.slice (some ⟨b, o + lo, none⟩) n (cp - lo)) W := by
  rw [run_slice_lh (P := Tryd.prog) W 88 (some ⟨b, o, none⟩) len cp Tryd.underlying88 .i64 .i64 (lo : Int) ((lo : Int) + (n : Int)) (by omega) (by omega) (by omega)]
  have e : Tryd.prog.elem 88 = 3 := by kernel_rfl
  rw [e, sizeInt]
  have e2 : ((lo : Int) + (n : Int)).toNat = lo + n := by omega
  simp only [Result.andThen, sliced, Int.toNat_natCast, Option.map_some, Nat.mul_one, addr_add, e2]
  rw [if_neg (by omega), show lo + n - lo = n by omega]

set_option maxRecDepth 20000 in
set_option maxHeartbeats 4000000 in
theorem refApply_any (s : ByteArray) (v : Value) (ds : List OpD) (w : World) (hs : s.size ≤ 1048576) (hr : RdD w v ds) (hm : ds.length ≤ maxLen) (hi : ∀ o ∈ ds, o.Sm) :
    Calls Tryd.prog 33 #[.string s, v] w fun e w' => e = .returned (.tuple #[.string (apR s ds).1, .int .i64 (apR s ds).2]) ∧ Below w.heap.size w w' := by
  have hin : ∀ o ∈ ds, o.In := fun o ho => sm_in (hi o ho)
  rcases valid_or_bad s with ⟨n, hv⟩ | ⟨k, hbad⟩
  · have hcn := cpl_ok hv
    have hP := refPoints_ok s n w hs hv
    have hpe : ptL s n = pts s := by rw [pts, hcn, Int.toNat_natCast]
    rw [hpe] at hP
    have hpl := pts_len (t := s) (by omega)
    have hB := fun W h => refBase_any v ds W h hm hi
    by_cases c1 : chk ds = 0
    · rw [c1] at hB
      have hbd := stR_bd ds
      have hok := stR_ok hin
      by_cases c2 : (bsum (stR ds) : Int) = (n : Int)
      · have HR : Hid (apR s ds = (mk (enc (apRun (pts s) (stR ds))), 0)) := by show _ = _; rw [apR, if_neg (by omega), if_neg (fun h => h c1), if_neg (fun h => h (by rw [hcn]; exact c2))]
        have hzo := pts_ok (t := s) (by omega)
        have hln := stR_len ds
        have hds := stR_op c1
        have hbn : bsum (stR ds) = n := by omega
        have hzl : (pts s).length = n := by omega
        rw [hbn] at hB hbd
        generalize hl : stR ds = l at *
        clear hl
        generalize pts s = zs at *
        subst hds
        have hr0 := hr
        obtain ⟨ao, cp, rfl, _, hc⟩ := hr
        rw [List.length_map] at *
        clear hi hin hm c1 c2 hv hcn hpe hpl hs
        go_enter Tryd.func33, Tryd.ntmps33
        go_wp2_with (first | (go_at_call 63; refine hP.mono ?_; rintro e w1 ⟨u1, rfl, ho1, hb1⟩; have hz := rdp_own ho1; obtain ⟨qo, qc, rfl, hqc, hqz⟩ := hz; rw [hzl] at hqc hqz ⊢) | (go_at_call 31; refine (hB _ (hr0.below hb1)).mono ?_; rintro e w2 ⟨rfl, hb2⟩))
        have hB2 : Below w.heap.size w w2 := chain hb1 hb2
        have hqz2 : 0 < n → ∃ b off, qo = some ⟨b, off, none⟩ ∧ b < w2.heap.size ∧ ∀ i, i < n → w2.cell? ⟨b, off + i, none⟩ = some (.int .i64 (zs.getD i 0)) := fun h => by
          obtain ⟨b, off, e, hlt, hcell⟩ := hqz h
          exact ⟨b, off, e, Nat.lt_of_lt_of_le hlt hb2.size, fun i hi => (hb2.cell (p := ⟨b, off + i, none⟩) hlt).trans (hcell i hi)⟩
        clear hqz hb1 hb2 ho1 hB hP hr0
        go_loopw [10, 11, 12] (fun o a i wr => ∃ (k : Nat) (out : List Int), k ≤ l.length ∧ i = .int .i64 (k : Int) ∧ a = .int .i64 (bsum (l.take k) : Int) ∧ o = .string (mk (enc out)) ∧ out.length = tsum (l.take k) ∧ Hid (out ++ apRun (zs.drop (bsum (l.take k))) (l.drop k) = apRun zs l) ∧ Below w2.heap.size w2 wr) (fun _ _ i _ => l.length - (intOf i).toNat)
        case atStart => exact ⟨0, [], by omega, rfl, rfl, rfl, rfl, rfl, Below.refl _ _⟩
        case round =>
          obtain ⟨k, out, hk, rfl, rfl, rfl, hlen, HE, hbl⟩ := hrel
          have hst := sum_take l k
          have hsz := hbl.size
          have hBw : Below w.heap.size w wr := hB2.trans (hbl.mono hB2.size)
          by_cases hlt : k < l.length
          · have hlt' : (k : Int) < (l.length : Int) := by omega
            have hsk := hok l[k] (List.getElem_mem hlt)
            have hbt := bsum_take l k hlt
            have htt := tsum_take l k hlt
            have hst2 := sum_take l (k + 1)
            have HD : Hid (l.drop k = l[k] :: l.drop (k + 1)) := List.drop_eq_getElem_cons hlt
            obtain ⟨b, off, rfl, hbb, c0, c1, c2⟩ := hc k (l[k]).op (by simp [hlt])
            have hBc : ∀ {W : World} o, Below w.heap.size w W → W.cell? ⟨b, o, none⟩ = w.cell? ⟨b, o, none⟩ := fun o h => h.cell (p := ⟨b, o, none⟩) hbb
            have e0 := c0
            have e1 := c1
            have e2 := c2
            rw [← hBc _ hBw] at c0 c1 c2
            clear hc
            generalize l[k] = st at hsk HD c0 c1 c2 e0 e1 e2 hbt htt
            have HE2 : Hid (out ++ apRun (zs.drop (bsum (l.take k))) (st :: l.drop (k + 1)) = apRun zs l) := by show _ = _; rw [← HD.out]; exact HE.out
            clear HE HD
            have hol : out.length ≤ 1000 := by omega
            have heo := enc_len out
            cases st with
            | keep m =>
              simp only [St.op, St.Ok, St.b, St.c] at *
              obtain ⟨b', o', rfl, hb', hcell⟩ := hqz2 (by omega)
              obtain ⟨Z, hZ⟩ : ∃ Z, Z = (zs.drop (bsum (l.take k))).take m := ⟨_, rfl⟩
              have hZl : Z.length = m := by rw [hZ, List.length_take, List.length_drop]; omega
              have hZo : ∀ z ∈ Z, szI z ≠ 0 := fun z h => hzo z (by rw [hZ] at h; exact List.mem_of_mem_drop (List.mem_of_mem_take h))
              have hsl := slice_mid b' o' n qc (bsum (l.take k)) m (by omega) hqc (by omega)
              have hrd : ReadsI wr (.slice (some ⟨b', o' + bsum (l.take k), none⟩) m (qc - bsum (l.take k))) Z := by
                refine .inr ⟨b', o' + bsum (l.take k), qc - bsum (l.take k), by rw [hZl], fun i hi => ?_⟩
                rw [hZl] at hi
                rw [hbl.cell (p := ⟨b', o' + bsum (l.take k) + i, none⟩) hb', Nat.add_assoc, hcell _ (by omega), hZ]
                simp [List.getD, hi]
              have hX := refText_any _ Z wr (by omega) hrd
              have hxe : textR Z = (mk (enc Z), true) := by rw [textR, if_pos hZo]
              rw [hxe] at hX
              simp only at hX
              have hez := enc_len Z
              have ha1 := fun W => pk.add_mk (enc out) (enc Z) W (by omega)
              have ha2 := fun W => pk.add_mk (enc out ++ enc Z) [] W (by rw [List.length_append]; simp; omega)
              rw [List.append_nil, show mk [] = (⟨#[]⟩ : ByteArray) from rfl] at ha2
              have HE3 : Hid ((out ++ Z) ++ apRun (zs.drop (bsum (l.take (k + 1)))) (l.drop (k + 1)) = apRun zs l) := by
                show _ = _
                rw [← HE2.out, apRun, List.drop_drop, hbt, hZ, List.append_assoc]
              have HL : Hid ((out ++ Z).length = tsum (l.take (k + 1))) := by show _ = _; rw [List.length_append, hZl]; omega
              have HM : Hid (mk (enc out ++ enc Z) = mk (enc (out ++ Z))) := by show _ = _; rw [enc_append]
              have HB : Hid (bsum (l.take (k + 1)) = bsum (l.take k) + m) := hbt
              have b1 : (bsum (l.take k) : Int) ≤ 1000 := by omega
              have m1 : (m : Int) ≤ 1000 := by omega
              clear HE2 hcell hqz2 hbt htt hlen hst hst2 hZ hZl hZo hxe hrd hez heo hsk hzo
              generalize bsum (l.take k) = B at *
              go_wp2_with (go_at_call 64; refine hX.mono ?_; rintro e w3 ⟨rfl, hb3⟩; have hB3 := hBw.trans (hb3.mono hBw.size); have d0 := (hBc _ hB3).trans e0; have d1 := (hBc _ hB3).trans e1; have d2 := (hBc _ hB3).trans e2)
              go_roundw
              case rel => exact ⟨k + 1, out ++ Z, by omega, by go_num, by rw [HB.out]; go_num, by rw [HM.out], HL.out, HE3, hbl.trans (hb3.mono hsz)⟩
              case measure => simp [intOf]; omega
            | rem m =>
              simp only [St.op, St.Ok, St.b, St.c] at *
              have ha2 := fun W => pk.add_mk (enc out) [] W (by simp; omega)
              rw [List.append_nil, show mk [] = (⟨#[]⟩ : ByteArray) from rfl] at ha2
              have HE3 : Hid (out ++ apRun (zs.drop (bsum (l.take (k + 1)))) (l.drop (k + 1)) = apRun zs l) := by
                show _ = _
                rw [← HE2.out, apRun, List.drop_drop, hbt]
              have HL : Hid (out.length = tsum (l.take (k + 1))) := by show _ = _; omega
              have HB : Hid (bsum (l.take (k + 1)) = bsum (l.take k) + m) := hbt
              have b1 : (bsum (l.take k) : Int) ≤ 1000 := by omega
              have m1 : (m : Int) ≤ 1000 := by omega
              clear HE2 hqz2 hbt htt hlen hst hst2 heo hsk hzo e0 e1 e2 hBc
              generalize bsum (l.take k) = B at *
              go_wp2
              go_roundw
              case rel => exact ⟨k + 1, out, by omega, by go_num, by rw [HB.out]; go_num, rfl, HL.out, HE3, hbl⟩
              case measure => simp [intOf]; omega
            | ins t =>
              simp only [St.op, St.Ok, St.b, St.c] at *
              have ht := ins_enc (t := t) (by omega)
              have hts := size_cpl hsk.1
              have hdl := data_len t
              have ha2 := fun W => pk.add_mk (enc out) t.data.toList W (by omega)
              rw [mk_data] at ha2
              have hpl := pts_len (t := t) (by omega)
              have HE3 : Hid ((out ++ pts t) ++ apRun (zs.drop (bsum (l.take (k + 1)))) (l.drop (k + 1)) = apRun zs l) := by
                show _ = _
                rw [← HE2.out, apRun, List.append_assoc, hbt, Nat.add_zero]
              have HL : Hid ((out ++ pts t).length = tsum (l.take (k + 1))) := by show _ = _; rw [List.length_append]; omega
              have HM : Hid (mk (enc out ++ t.data.toList) = mk (enc (out ++ pts t))) := by show _ = _; rw [ht, enc_append]
              have HB : Hid (bsum (l.take (k + 1)) = bsum (l.take k)) := by show _ = _; omega
              have b1 : (bsum (l.take k) : Int) ≤ 1000 := by omega
              clear HE2 hqz2 hbt htt hlen hst hst2 heo hsk hzo e0 e1 e2 ht hts hdl hpl hBc
              generalize bsum (l.take k) = B at *
              go_wp2
              go_roundw
              case rel => exact ⟨k + 1, out ++ pts t, by omega, by go_num, by rw [HB.out], by rw [HM.out], HL.out, HE3, hbl⟩
              case measure => simp [intOf]; omega
          · have e : k = l.length := by omega
            subst e
            rw [List.take_length, List.drop_length] at HE
            have HF : Hid (out = apRun zs l) := by show _ = _; rw [← HE.out]; simp [apRun]
            clear HE hc hok hqz2 hst
            go_wp2
            go_ret2
            exact ⟨by rw [HR.out, ← HF.out]; rfl, hBw⟩
      · have e : apR s ds = (⟨#[]⟩, 91) := by rw [apR, if_neg (by omega), if_neg (fun h => h c1), if_pos (by rw [hcn]; exact c2)]
        rw [e]
        have hne : ((bsum (stR ds) : Int) != (n : Int)) = true := by simpa using c2
        have hzl : (pts s).length = n := by omega
        clear c2 hbd e
        generalize bsum (stR ds) = B at *
        go_enter Tryd.func33, Tryd.ntmps33
        go_wp2_with (first | (go_at_call 63; refine hP.mono ?_; rintro e w1 ⟨u1, rfl, ho1, hb1⟩; obtain ⟨qo, qc, rfl⟩ := own_form ho1) | (go_at_call 31; refine (hB _ (hr.below hb1)).mono ?_; rintro e w2 ⟨rfl, hb2⟩))
        go_ret2
        exact ⟨rfl, chain hb1 hb2⟩
    · have e : apR s ds = (⟨#[]⟩, chk ds) := by rw [apR, if_neg (by omega), if_pos c1]
      rw [e]
      have hne : (chk ds != 0) = true := by simpa using c1
      clear e
      generalize chk ds = c at *
      go_enter Tryd.func33, Tryd.ntmps33
      go_wp2_with (first | (go_at_call 63; refine hP.mono ?_; rintro e w1 ⟨u1, rfl, ho1, hb1⟩; obtain ⟨qo, qc, rfl⟩ := own_form ho1) | (go_at_call 31; refine (hB _ (hr.below hb1)).mono ?_; rintro e w2 ⟨rfl, hb2⟩))
      go_ret2
      exact ⟨rfl, chain hb1 hb2⟩
  · have e : apR s ds = (⟨#[]⟩, 10) := by rw [apR, if_pos (by rw [cpl_bad hbad]; decide)]
    rw [e]
    have hP := refPoints_bad s k w hs hbad
    go_enter Tryd.func33, Tryd.ntmps33
    go_wp2_with (go_at_call 63; refine hP.mono ?_; rintro e w1 ⟨rfl, hb1⟩)
    go_ret2
    exact ⟨rfl, hb1⟩
end Go.Proofs.YtcdnlkhjlgaaoaaDoor
