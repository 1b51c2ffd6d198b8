/-
  The contract of the reference's Encode.
-/
import Derived.Test.YtgceileakcjmdaaDrA
import Derived.Test.YtgceileakcjmdaaPkMarked
import Derived.Test.YtgceileakcjmdaaPkRefW
namespace Go.Proofs.Ytgceileakcjmdaa
open Go.ChangeShapes Go.WideShapes Go.ChangeAt Go.RowKit Go.PlainAid

theorem conv_made (l : List UInt8) (base : Nat) (w : World) (hb : base ≤ w.heap.size) (hl : l.length ≤ maxLen) :
    ∃ v0 w0, (convert 9 40 (.string (mk l))).run Try.prog w = .ok v0 w0 ∧ pk.OwnM w0 base v0 l ∧ Below w.heap.size w w0 := by
  refine ⟨_, _, run_bytes_of_string w 9 40 5 (mk l) Try.underlying9 Try.underlying40 Try.underlying5, ?_, ?_⟩
  · have := pk.made_marked w (mk l) base hb (by rw [mk_size]; exact hl)
    rw [mk_toList] at this
    exact this
  · exact Below.alloc (Below.refl _ w).drew (Nat.le_refl _) _
theorem ownM_lt {w : World} {base : Nat} {v : Value} {l : List UInt8} (h : pk.OwnM w base v l) : ∀ k, v.ownBlock = some k → base ≤ k := by
  obtain ⟨g, cap, cur, fz, rfl, hbg, _⟩ := h
  intro k hk
  simp [Value.ownBlock] at hk
  omega
theorem ownM_below {w w' : World} {base : Nat} {v : Value} {l : List UInt8} (h : pk.OwnM w base v l) (hb : Below w.heap.size w w') : pk.OwnM w' base v l := by
  obtain ⟨g, cap, cur, fz, rfl, hbg, hg, rest⟩ := h
  refine ⟨g, cap, cur, fz, rfl, hbg, ?_, rest⟩
  rw [hb.block g (Array.getElem?_eq_some_iff.1 hg).1]
  exact hg

set_option maxRecDepth 20000 in
set_option maxHeartbeats 4000000 in
theorem refEncode_any (v : Value) (ds : List OpD) (w : World) (hr : RdD w v ds) (hm : ds.length ≤ maxLen) (hi : ∀ o ∈ ds, o.Sm) :
    Calls Try.prog 23 #[v] w fun e w' => e = .returned (.tuple #[.string (encR ds).1, .int .i64 (encR ds).2]) ∧ Below w.heap.size w w' := by
  have hC := refCheck_any v ds w hr hm hi
  by_cases c : chk ds = 0
  · have HR : Hid (encR ds = (mk (encB (stR ds)), 0)) := by show _ = _; rw [encR, if_pos c]
    have hin : ∀ o ∈ ds, o.In := fun o ho => sm_in (hi o ho)
    have hok := stR_ok hin
    have hsm := ins_small hin
    have hln := stR_len ds
    have hds := stR_op c
    rw [c] at hC
    generalize stR ds = l at *
    subst hds
    obtain ⟨i0, hin0, hz0, hz1, hz2⟩ := info_parts Try.info5
    obtain ⟨ao, cp, rfl, _, hc⟩ := hr
    rw [List.length_map] at *
    clear hi hin hm c
    go_enter Try.func23, Try.ntmps23
    go_wp2_with fail
    refine hC.mono ?_
    rintro e w1 ⟨rfl, hb1⟩
    clear hC
    have hs1 := hb1.size
    go_wp2_with fail
    refine (pk.refNumW_ok l.length w1 (by omega)).mono ?_
    rintro e w2 ⟨rfl, hb2⟩
    have hs2 := hb2.size
    obtain ⟨v0, w0, hcv, ho0, hb0⟩ := conv_made (numB l.length) w.heap.size w2 (by omega) (by have := numB_len (n := l.length); unfold maxLen; omega)
    have hB0 : Below w.heap.size w w0 := chain (chain hb1 hb2) hb0
    clear hb1 hb2 hs1 hs2 hb0
    go_wp2_with fail
    clear hcv
    go_loopw [7, 8] (fun d i wr => ∃ k : Nat, k ≤ l.length ∧ i = .int .i64 (k : Int) ∧ pk.OwnM wr w.heap.size d (numB l.length ++ stsB (l.take k)) ∧ Below w.heap.size w wr) (fun _ i _ => l.length - (intOf i).toNat)
    case atStart => exact ⟨0, by omega, rfl, by simpa [stsB] using ho0, hB0⟩
    case round =>
      obtain ⟨k, hk, rfl, ho, hbl⟩ := hrel
      clear ho0 hB0
      have hsz := hbl.size
      by_cases hlt : k < l.length
      · have hlt' : (k : Int) < (l.length : Int) := by omega
        have hsk := hok l[k] (List.getElem_mem hlt)
        have hik := hsm l[k] (List.getElem_mem hlt)
        have HT : Hid (stsB (l.take (k + 1)) = stsB (l.take k) ++ stB l[k]) := stsB_take l k hlt
        have hlen : (numB l.length ++ stsB (l.take k)).length ≤ 70000000 := by
          have h1 := stsB_len (l := l.take k) (fun s hs => hsm s (List.mem_of_mem_take hs))
          have h2 := numB_len (n := l.length)
          rw [List.length_take] at h1
          rw [List.length_append]; omega
        obtain ⟨b, off, rfl, hbb, c0, c1, c2⟩ := hc k (l[k]).op (by simp [hlt])
        have hBc : ∀ {W : World} o, Below w.heap.size w W → W.cell? ⟨b, o, none⟩ = w.cell? ⟨b, o, none⟩ := fun o h => h.cell (p := ⟨b, o, none⟩) hbb
        have e0 := c0
        have e1 := c1
        have e2 := c2
        rw [← hBc _ hbl] at c0 c1 c2
        clear hc
        generalize l[k] = s at hsk hik HT c0 c1 c2 e0 e1 e2
        generalize hX : numB l.length ++ stsB (l.take k) = X at *
        have HX : Hid (numB l.length ++ stsB (l.take (k + 1)) = X ++ stB s) := by show _ = _; rw [HT.out, ← List.append_assoc, hX]
        clear hX HT hsm hok
        cases s with
        | keep n =>
          simp only [St.op, stB, nmB_two, St.Ok] at *
          have hK := fun W => pk.refNumW_ok 1 W (by decide)
          have hV := fun W => pk.refNumW_ok n W (by omega)
          have l1 := numB_len (n := 1)
          have l2 := numB_len (n := n)
          have m1 := mk_size (numB 1)
          have m2 := mk_size (numB n)
          clear hik hsk
          go_wp2_with fail
          refine (hK _).mono ?_
          rintro e w2 ⟨rfl, hb2⟩
          have ho2 := ownM_below ho hb2
          have hB2 := hbl.trans (hb2.mono hsz)
          have hs2 := hB2.size
          clear hb2 ho c0 c1 c2
          go_wp2_with (at_builtin; refine pk.wpList_app_marked _ rfl (.tmp 43) (.tmp 44) rfl w.heap.size i0 Try.underlying40 Try.underlying9 hin0 hz0 hz1 hz2 _ _ rfl ho2 (mk (numB 1)) rfl (by rw [m1]; omega) (by omega) ?_; intro v3 w3 ho3 hg3; have hB3 : Below w.heap.size w w3 := hB2.grown hg3 hs2 (ownM_lt ho2); have d0 := (hBc _ hB3).trans e0; have d1 := (hBc _ hB3).trans e1; have d2 := (hBc _ hB3).trans e2; clear ho2 hg3)
          have hs3 := hB3.size
          rw [mk_toList] at ho3
          refine (hV _).mono ?_
          rintro e w4 ⟨rfl, hb4⟩
          have ho4 := ownM_below ho3 hb4
          have hB4 := hB3.trans (hb4.mono hs3)
          have hs4 := hB4.size
          clear hb4 ho3 d0 d1 d2
          go_wp2_with (at_builtin; refine pk.wpList_app_marked _ rfl (.tmp 73) (.tmp 74) rfl w.heap.size i0 Try.underlying40 Try.underlying9 hin0 hz0 hz1 hz2 _ _ rfl ho4 (mk (numB n)) rfl (by rw [m2, List.length_append]; omega) (by omega) ?_; intro v5 w5 ho5 hg5; have hB5 : Below w.heap.size w w5 := hB4.grown hg5 hs4 (ownM_lt ho4); clear ho4 hg5)
          rw [mk_toList, List.append_assoc] at ho5
          go_roundw
          case rel => exact ⟨k + 1, by omega, by go_num, by rw [HX.out]; exact ho5, hB5⟩
          case measure => simp [intOf]; omega
        | rem n =>
          simp only [St.op, stB, nmB_two, St.Ok] at *
          have hK := fun W => pk.refNumW_ok 3 W (by decide)
          have hV := fun W => pk.refNumW_ok n W (by omega)
          have l1 := numB_len (n := 3)
          have l2 := numB_len (n := n)
          have m1 := mk_size (numB 3)
          have m2 := mk_size (numB n)
          clear hik hsk
          go_wp2_with fail
          refine (hK _).mono ?_
          rintro e w2 ⟨rfl, hb2⟩
          have ho2 := ownM_below ho hb2
          have hB2 := hbl.trans (hb2.mono hsz)
          have hs2 := hB2.size
          clear hb2 ho c0 c1 c2
          go_wp2_with (at_builtin; refine pk.wpList_app_marked _ rfl (.tmp 43) (.tmp 44) rfl w.heap.size i0 Try.underlying40 Try.underlying9 hin0 hz0 hz1 hz2 _ _ rfl ho2 (mk (numB 3)) rfl (by rw [m1]; omega) (by omega) ?_; intro v3 w3 ho3 hg3; have hB3 : Below w.heap.size w w3 := hB2.grown hg3 hs2 (ownM_lt ho2); have d0 := (hBc _ hB3).trans e0; have d1 := (hBc _ hB3).trans e1; have d2 := (hBc _ hB3).trans e2; clear ho2 hg3)
          have hs3 := hB3.size
          rw [mk_toList] at ho3
          refine (hV _).mono ?_
          rintro e w4 ⟨rfl, hb4⟩
          have ho4 := ownM_below ho3 hb4
          have hB4 := hB3.trans (hb4.mono hs3)
          have hs4 := hB4.size
          clear hb4 ho3 d0 d1 d2
          go_wp2_with (at_builtin; refine pk.wpList_app_marked _ rfl (.tmp 73) (.tmp 74) rfl w.heap.size i0 Try.underlying40 Try.underlying9 hin0 hz0 hz1 hz2 _ _ rfl ho4 (mk (numB n)) rfl (by rw [m2, List.length_append]; omega) (by omega) ?_; intro v5 w5 ho5 hg5; have hB5 : Below w.heap.size w w5 := hB4.grown hg5 hs4 (ownM_lt ho4); clear ho4 hg5)
          rw [mk_toList, List.append_assoc] at ho5
          go_roundw
          case rel => exact ⟨k + 1, by omega, by go_num, by rw [HX.out]; exact ho5, hB5⟩
          case measure => simp [intOf]; omega
        | ins t =>
          simp only [St.op, stB, nmB_one, St.Ok] at *
          have hK := fun W => pk.refNumW_ok 2 W (by decide)
          have hts := hik t rfl
          have hV := fun W => pk.refTextW_any t W (by unfold maxLen; omega)
          have eT : pk.textR t = (mk (pk.textB t), 0) := by rw [pk.textR, if_pos hts]
          rw [eT] at hV
          simp only at hV
          clear eT
          have l1 := numB_len (n := 2)
          have l2 := pk.textB_len t
          have m1 := mk_size (numB 2)
          have m2 := mk_size (pk.textB t)
          clear hik hsk
          go_wp2_with fail
          refine (hK _).mono ?_
          rintro e w2 ⟨rfl, hb2⟩
          have ho2 := ownM_below ho hb2
          have hB2 := hbl.trans (hb2.mono hsz)
          have hs2 := hB2.size
          clear hb2 ho c0 c1 c2
          go_wp2_with (at_builtin; refine pk.wpList_app_marked _ rfl (.tmp 43) (.tmp 44) rfl w.heap.size i0 Try.underlying40 Try.underlying9 hin0 hz0 hz1 hz2 _ _ rfl ho2 (mk (numB 2)) rfl (by rw [m1]; omega) (by omega) ?_; intro v3 w3 ho3 hg3; have hB3 : Below w.heap.size w w3 := hB2.grown hg3 hs2 (ownM_lt ho2); have d0 := (hBc _ hB3).trans e0; have d1 := (hBc _ hB3).trans e1; have d2 := (hBc _ hB3).trans e2; clear ho2 hg3)
          have hs3 := hB3.size
          rw [mk_toList] at ho3
          refine (hV _).mono ?_
          rintro e w4 ⟨rfl, hb4⟩
          have ho4 := ownM_below ho3 hb4
          have hB4 := hB3.trans (hb4.mono hs3)
          have hs4 := hB4.size
          clear hb4 ho3 d0 d1 d2
          go_wp2_with (at_builtin; refine pk.wpList_app_marked _ rfl (.tmp 61) (.tmp 62) rfl w.heap.size i0 Try.underlying40 Try.underlying9 hin0 hz0 hz1 hz2 _ _ rfl ho4 (mk (pk.textB t)) rfl (by rw [m2, List.length_append]; omega) (by omega) ?_; intro v5 w5 ho5 hg5; have hB5 : Below w.heap.size w w5 := hB4.grown hg5 hs4 (ownM_lt ho4); clear ho4 hg5)
          rw [mk_toList, List.append_assoc] at ho5
          go_roundw
          case rel => exact ⟨k + 1, by omega, by go_num, by rw [HX.out]; exact ho5, hB5⟩
          case measure => simp [intOf]; omega
      · have e : k = l.length := by omega
        subst e
        rw [List.take_length] at ho
        have hcv := pk.conv_marked Try.underlying40 Try.underlying5 Try.underlying9 ho
        clear hc hok hsm ho
        go_wp2
        go_ret2
        exact ⟨by rw [HR.out]; rfl, hbl⟩
  · have e : encR ds = (⟨#[]⟩, chk ds) := by rw [encR, if_neg c]
    rw [e]
    have hne : (chk ds != 0) = true := by simpa using c
    clear e
    generalize chk ds = x at *
    go_enter Try.func23, Try.ntmps23
    go_wp2_with (go_at_call 45; refine hC.mono ?_; rintro e w2 ⟨rfl, hb2⟩)
    go_ret2
    exact ⟨rfl, hb2⟩
end Go.Proofs.Ytgceileakcjmdaa
