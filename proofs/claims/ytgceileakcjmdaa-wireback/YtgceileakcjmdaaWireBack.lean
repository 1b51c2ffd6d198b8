/-
  Proved: what is written is read, and what is read is written; no form goes on, or ends sooner (the law WireBack), for every input.
-/
import Derived.Test.YtgceileakcjmdaaWrK
import Derived.ChangeOld
import Derived.ShutString
namespace Go.Proofs.Ytgceileakcjmdaa.wireBack
open Go.RowKit Go.ChangeShapes Go.WideShapes Go.ChangeAt Go.PlainAid
open Go.ChangeMaps (open_string shut_string)

theorem frm_pos (m : MsD) : 0 < (frmB m).length := by
  have := numB_pos (m.at 0).toNat
  rw [frmB, ns_cons, nmB_cons, List.length_append, List.length_append]
  omega
theorem wd_zero {s : ByteArray} (h : ¬ okM s (rdM s) = true) : wdR s = (zM, 160) := if_neg h
theorem wd_yes {s : ByteArray} (h : okM s (rdM s) = true) : wdR s = ((rdM s).1, 0) ∧ weR (rdM s).1 = (s, 0) ∧ (rdM s).1.d.length ≤ maxLen ∧ ∀ o ∈ (rdM s).1.d, o.In := by
  obtain ⟨e1, e2, e3⟩ := wd_of h
  refine ⟨if_pos h, ?_, ?_, e3⟩
  · rw [weR, e2, e1]; rfl
  · have := (rdM_in s).1
    unfold maxLen
    omega
theorem drop_last (l : List UInt8) (h : 0 < l.length) : ∃ M : List UInt8, l = l.dropLast ++ M ∧ 0 < M.length := by
  have hne : l ≠ [] := fun e => by rw [e] at h; simp at h
  exact ⟨[l.getLast hne], (List.dropLast_concat_getLast hne).symm, by simp⟩
theorem cut_mk (l : List UInt8) (h : 0 < l.length) (W : World) : (Instr.slice 9 (.string (mk l)) none (some (.int .i64 (((mk l).size : Int) - 1))) none).run Try.prog W = .ok (.string (mk l.dropLast)) W := by
  have hs := mk_size l
  rw [run_slice_string_to_if (P := Try.prog) (w := W) 9 (mk l) .i64 _ Try.underlying9, if_pos (by omega)]
  congr 2
  have e : (((mk l).size : Int) - 1).toNat = l.length - 1 := by omega
  rw [e]
  have h1 : At (mk l) 0 l.dropLast := by
    obtain ⟨M, h2, -⟩ := drop_last l h
    have := at_self l.dropLast M
    rwa [← h2] at this
  have h2 := at_extract h1
  rw [Nat.zero_add, List.length_dropLast] at h2
  first | exact h2 | simpa using h2

set_option maxRecDepth 20000 in
set_option maxHeartbeats 1000000 in
theorem walk (m : MsD) (u : Value) (s more : ByteArray) (w : World) (hr : RdD w u m.d) (hm : m.d.length ≤ 4398046511104) (hio : ∀ o ∈ m.d, o.In ∧ o.Ok) (hs : s.size ≤ maxLen) (_hs1 : more.size ≤ maxLen) (hs2 : more.size ≤ 140737488351232) :
    Calls Try.prog 5 #[.agg (m.fs u), .string s, .string more] w fun e w' => e = .returned (.bool true) ∧ Below w.heap.size w w' := by
  have hm' : m.d.length ≤ maxLen := by unfold maxLen; omega
  have hi : ∀ o ∈ m.d, o.In := fun o ho => (hio o ho).1
  have hB : Below w.heap.size w (w.alloc (.cells (m.fs u) 24)) := (Below.refl _ w).alloc (Nat.le_refl _) _
  have hx : MB _ _ m u := heap_alloc_new w (.cells (m.fs u) 24)
  have hr0 := hr.below hB
  have hE := wencode_any m u _ hr0 hm' hi
  have hZ := fun W => wdecode_any s W hs
  obtain ⟨ao, cp, rfl, -⟩ := hr
  clear hm hio
  by_cases hok : okM s (rdM s) = true
  · obtain ⟨f1, f2, f3, f4⟩ := wd_yes hok
    rw [f1] at hZ
    have hEs := fun v W h => wencode_any (rdM s).1 v W h f3 f4
    rw [f2] at hEs
    simp only at hZ hEs
    generalize (rdM s).1 = m2 at *
    clear f1 f2 f3 f4 hok
    unfold MsD.fs at hZ
    cases hM : mayM m
    · have e0 : weR m = (⟨#[]⟩, 160) := by rw [weR, hM]; rfl
      rw [e0] at hE
      clear e0 hM hx hr0 hm' hi
      unfold MsD.fs at hE hB ⊢
      go_enter Try.func5, Try.ntmps5
      go_wp2_with fail
      refine hE.mono ?_
      rintro e w1 ⟨rfl, hb1⟩
      have hB1 := hB.trans (hb1.mono hB.size)
      clear hE hB hb1
      go_wp2_with fail
      refine (hZ w1).mono ?_
      clear hZ
      rintro e y1 ⟨v1, rfl, hy1, hb7⟩
      have q1 := rdd_own hy1
      obtain ⟨aq, cq, rfl⟩ := own_form hy1
      have hC1 := chain hB1 hb7
      have hb8 : Below y1.heap.size y1 (y1.alloc (.cells #[.int .i64 m2.k, .int .i64 m2.b, .int .i64 m2.c, .int .i64 m2.s, .int .i64 m2.r, .int .i64 m2.y, .slice aq m2.d.length cq] 24)) := (Below.refl _ y1).alloc (Nat.le_refl _) _
      have hF := hEs _ _ (q1.below hb8)
      have hC2 := chain hC1 hb8
      clear hy1 hb7 hEs q1 hb8 hC1
      unfold MsD.fs at hF
      go_wp2_with fail
      refine hF.mono ?_
      clear hF
      rintro e y2 ⟨rfl, hb9⟩
      have hC3 := hC2.trans (hb9.mono hC2.size)
      clear hb9 hC2
      go_wp2_with fail
      refine (live16_any y2).mono ?_
      rintro e y3 ⟨rfl, hbA⟩
      go_wp2_with fail
      go_ret
      exact ⟨rfl, chain hC3 hbA⟩
    have e0 : weR m = (mk (frmB m), 0) := by rw [weR, hM]; rfl
    rw [e0] at hE
    have hfl := frmB_len m hi
    have hfp := frm_pos m
    have hmks := mk_size (frmB m)
    have hD := fun W => wdecode_any (mk (frmB m)) W (by rw [mk_size]; unfold maxLen; omega)
    rw [wd_form hM hi] at hD
    simp only at hD
    have hS := fun a b W h1 h2 => sameM_true m a b W hm' h1 h2
    have hcut := cut_mk (frmB m) hfp
    obtain ⟨LM, hLM, hLp⟩ := drop_last (frmB m) hfp
    have hD1 := fun W => wdecode_any (mk (frmB m).dropLast) W (by rw [mk_size, List.length_dropLast]; unfold maxLen; omega)
    rw [wd_less hM hi _ _ hLM hLp] at hD1
    simp only at hD1
    have hne := empty_ff (s := mk (frmB m)) (by omega)
    have hsz1 : ((mk (frmB m)).size : Int) ≤ 20000 := by omega
    have hsz0 : 1 ≤ ((mk (frmB m)).size : Int) := by omega
    have hadd := fun W => pk.add_mk (frmB m) more.data.toList W (by rw [data_len]; omega)
    rw [mk_data] at hadd
    by_cases hz : more.size = 0
    · have hmE := empty_tt hz
      have hD2 := hD
      have hcat : frmB m ++ more.data.toList = frmB m := by
        have : more.data.toList = [] := List.eq_nil_of_length_eq_zero (by rw [data_len]; exact hz)
        rw [this, List.append_nil]
      rw [hcat] at hadd
      clear hcat hLM hLp hz
      generalize mk (frmB m).dropLast = S1 at *
      generalize mk (frmB m) = S at *
      clear e0 hM hi hfl hfp hmks hs2 _hs1
      unfold MsD.fs at hE hB hr0 hx hD hS hD1 hD2 ⊢
      simp only [zM] at hD1
      go_enter Try.func5, Try.ntmps5
      go_wp2_with fail
      refine hE.mono ?_
      rintro e w1 ⟨rfl, hb1⟩
      have hB1 := hB.trans (hb1.mono hB.size)
      have hx1 := MB.below (m := m) hx hb1
      have hr1 := hr0.below hb1
      clear hE hB hx hr0 hb1
      go_wp2_with fail
      refine (hD w1).mono ?_
      clear hD
      rintro e w2 ⟨u2, rfl, ho2, hb2⟩
      have r2 := rdd_own ho2
      obtain ⟨ao2, cp2, rfl⟩ := own_form ho2
      have hB2 := chain hB1 hb2
      have hx2 := hx1.below hb2
      have hr2 := hr1.below hb2
      clear ho2 hB1 hx1 hr1 hb2
      have hb3 : Below w2.heap.size w2 (w2.alloc (.cells #[.int .i64 m.k, .int .i64 m.b, .int .i64 m.c, .int .i64 m.s, .int .i64 m.r, .int .i64 m.y, .slice ao2 m.d.length cp2] 24)) := (Below.refl _ w2).alloc (Nat.le_refl _) _
      have hx3 := hx2.below hb3
      have hr3 := hr2.below hb3
      have q3 := r2.below hb3
      have hB3 := hB2.trans (hb3.mono hB2.size)
      obtain ⟨c0, c1, c2, c3, c4, c5, c6⟩ := hx3.cells
      have hS1 := hS _ _ _ q3 hr3
      clear hb3 hB2 hx2 hr2 r2 hS hx3 hr3 q3
      go_wp2_with fail
      generalize w2.alloc _ = w3 at *
      refine hS1.mono ?_
      clear hS1 c0 c1 c2 c3 c4 c5 c6
      rintro e w4 ⟨rfl, hb4⟩
      have hB4 := hB3.trans (hb4.mono hB3.size)
      clear hB3 hb4
      go_wp2_with fail
      refine (hD1 w4).mono ?_
      clear hD1
      rintro e w5 ⟨u5, rfl, ho5, hb5⟩
      obtain ⟨ao5, cp5, rfl⟩ := own_form ho5
      have hB5 := chain hB4 hb5
      have hB6 : Below w.heap.size w (w5.alloc (.cells #[.int .i64 0, .int .i64 0, .int .i64 0, .int .i64 0, .int .i64 0, .int .i64 0, .slice ao5 ([] : List OpD).length cp5] 24)) := hB5.alloc hB5.size _
      clear ho5 hb5 hB4 hB5
      go_wp2_with fail
      generalize w5.alloc _ = w6 at *
      refine (hD2 w6).mono ?_
      clear hD2
      rintro e w7 ⟨u7, rfl, ho7, hb7⟩
      obtain ⟨ao7, cp7, rfl⟩ := own_form ho7
      have hB7 := chain hB6 hb7
      have hB8 : Below w.heap.size w (w7.alloc (.cells #[.int .i64 m.k, .int .i64 m.b, .int .i64 m.c, .int .i64 m.s, .int .i64 m.r, .int .i64 m.y, .slice ao7 m.d.length cp7] 24)) := hB7.alloc hB7.size _
      clear ho7 hb7 hB6 hB7
      go_wp2_with fail
      generalize w7.alloc _ = w8 at *
      refine (hZ w8).mono ?_
      clear hZ
      rintro e y1 ⟨v1, rfl, hy1, hb7⟩
      have q1 := rdd_own hy1
      obtain ⟨aq, cq, rfl⟩ := own_form hy1
      have hC1 := chain hB8 hb7
      have hb8 : Below y1.heap.size y1 (y1.alloc (.cells #[.int .i64 m2.k, .int .i64 m2.b, .int .i64 m2.c, .int .i64 m2.s, .int .i64 m2.r, .int .i64 m2.y, .slice aq m2.d.length cq] 24)) := (Below.refl _ y1).alloc (Nat.le_refl _) _
      have hF := hEs _ _ (q1.below hb8)
      have hC2 := chain hC1 hb8
      clear hy1 hb7 hEs q1 hb8 hC1
      unfold MsD.fs at hF
      go_wp2_with fail
      refine hF.mono ?_
      clear hF
      rintro e y2 ⟨rfl, hb9⟩
      have hC3 := hC2.trans (hb9.mono hC2.size)
      clear hb9 hC2
      go_wp2_with fail
      refine (live16_any y2).mono ?_
      rintro e y3 ⟨rfl, hbA⟩
      go_wp2_with fail
      go_ret
      exact ⟨rfl, chain hC3 hbA⟩
    have hmE := empty_ff hz
    have hD2 := fun W => wdecode_any (mk (frmB m ++ more.data.toList)) W (by rw [mk_size, List.length_append, data_len]; unfold maxLen; omega)
    rw [wd_more hM hi _ (by rw [data_len]; omega)] at hD2
    simp only at hD2
    generalize mk (frmB m ++ more.data.toList) = S2 at *
    clear hLM hLp hz
    generalize mk (frmB m).dropLast = S1 at *
    generalize mk (frmB m) = S at *
    clear e0 hM hi hfl hfp hmks hs2 _hs1
    unfold MsD.fs at hE hB hr0 hx hD hS hD1 hD2 ⊢
    simp only [zM] at hD1 hD2
    go_enter Try.func5, Try.ntmps5
    go_wp2_with fail
    refine hE.mono ?_
    rintro e w1 ⟨rfl, hb1⟩
    have hB1 := hB.trans (hb1.mono hB.size)
    have hx1 := MB.below (m := m) hx hb1
    have hr1 := hr0.below hb1
    clear hE hB hx hr0 hb1
    go_wp2_with fail
    refine (hD w1).mono ?_
    clear hD
    rintro e w2 ⟨u2, rfl, ho2, hb2⟩
    have r2 := rdd_own ho2
    obtain ⟨ao2, cp2, rfl⟩ := own_form ho2
    have hB2 := chain hB1 hb2
    have hx2 := hx1.below hb2
    have hr2 := hr1.below hb2
    clear ho2 hB1 hx1 hr1 hb2
    have hb3 : Below w2.heap.size w2 (w2.alloc (.cells #[.int .i64 m.k, .int .i64 m.b, .int .i64 m.c, .int .i64 m.s, .int .i64 m.r, .int .i64 m.y, .slice ao2 m.d.length cp2] 24)) := (Below.refl _ w2).alloc (Nat.le_refl _) _
    have hx3 := hx2.below hb3
    have hr3 := hr2.below hb3
    have q3 := r2.below hb3
    have hB3 := hB2.trans (hb3.mono hB2.size)
    obtain ⟨c0, c1, c2, c3, c4, c5, c6⟩ := hx3.cells
    have hS1 := hS _ _ _ q3 hr3
    clear hb3 hB2 hx2 hr2 r2 hS hx3 hr3 q3
    go_wp2_with fail
    generalize w2.alloc _ = w3 at *
    refine hS1.mono ?_
    clear hS1 c0 c1 c2 c3 c4 c5 c6
    rintro e w4 ⟨rfl, hb4⟩
    have hB4 := hB3.trans (hb4.mono hB3.size)
    clear hB3 hb4
    go_wp2_with fail
    refine (hD1 w4).mono ?_
    clear hD1
    rintro e w5 ⟨u5, rfl, ho5, hb5⟩
    obtain ⟨ao5, cp5, rfl⟩ := own_form ho5
    have hB5 := chain hB4 hb5
    have hB6 : Below w.heap.size w (w5.alloc (.cells #[.int .i64 0, .int .i64 0, .int .i64 0, .int .i64 0, .int .i64 0, .int .i64 0, .slice ao5 ([] : List OpD).length cp5] 24)) := hB5.alloc hB5.size _
    clear ho5 hb5 hB4 hB5
    go_wp2_with fail
    generalize w5.alloc _ = w6 at *
    refine (hD2 w6).mono ?_
    clear hD2
    rintro e w7 ⟨u7, rfl, ho7, hb7⟩
    obtain ⟨ao7, cp7, rfl⟩ := own_form ho7
    have hB7 := chain hB6 hb7
    have hB8 : Below w.heap.size w (w7.alloc (.cells #[.int .i64 0, .int .i64 0, .int .i64 0, .int .i64 0, .int .i64 0, .int .i64 0, .slice ao7 ([] : List OpD).length cp7] 24)) := hB7.alloc hB7.size _
    clear ho7 hb7 hB6 hB7
    go_wp2_with fail
    generalize w7.alloc _ = w8 at *
    refine (hZ w8).mono ?_
    clear hZ
    rintro e y1 ⟨v1, rfl, hy1, hb7⟩
    have q1 := rdd_own hy1
    obtain ⟨aq, cq, rfl⟩ := own_form hy1
    have hC1 := chain hB8 hb7
    have hb8 : Below y1.heap.size y1 (y1.alloc (.cells #[.int .i64 m2.k, .int .i64 m2.b, .int .i64 m2.c, .int .i64 m2.s, .int .i64 m2.r, .int .i64 m2.y, .slice aq m2.d.length cq] 24)) := (Below.refl _ y1).alloc (Nat.le_refl _) _
    have hF := hEs _ _ (q1.below hb8)
    have hC2 := chain hC1 hb8
    clear hy1 hb7 hEs q1 hb8 hC1
    unfold MsD.fs at hF
    go_wp2_with fail
    refine hF.mono ?_
    clear hF
    rintro e y2 ⟨rfl, hb9⟩
    have hC3 := hC2.trans (hb9.mono hC2.size)
    clear hb9 hC2
    go_wp2_with fail
    refine (live16_any y2).mono ?_
    rintro e y3 ⟨rfl, hbA⟩
    go_wp2_with fail
    go_ret
    exact ⟨rfl, chain hC3 hbA⟩
  rw [wd_zero hok] at hZ
  clear hok
  unfold MsD.fs at hZ
  simp only [zM] at hZ
  cases hM : mayM m
  · have e0 : weR m = (⟨#[]⟩, 160) := by rw [weR, hM]; rfl
    rw [e0] at hE
    clear e0 hM hx hr0 hm' hi
    unfold MsD.fs at hE hB ⊢
    go_enter Try.func5, Try.ntmps5
    go_wp2_with fail
    refine hE.mono ?_
    rintro e w1 ⟨rfl, hb1⟩
    have hB1 := hB.trans (hb1.mono hB.size)
    clear hE hB hb1
    go_wp2_with fail
    refine (hZ w1).mono ?_
    clear hZ
    rintro e y1 ⟨v1, rfl, hy1, hb7⟩
    obtain ⟨aq, cq, rfl⟩ := own_form hy1
    have hC1 := chain hB1 hb7
    have hb8 : Below y1.heap.size y1 (y1.alloc (.cells #[.int .i64 0, .int .i64 0, .int .i64 0, .int .i64 0, .int .i64 0, .int .i64 0, .slice aq ([] : List OpD).length cq] 24)) := (Below.refl _ y1).alloc (Nat.le_refl _) _
    have hz8 : MB _ _ zM (.slice aq ([] : List OpD).length cq) := heap_alloc_new y1 (.cells #[.int .i64 0, .int .i64 0, .int .i64 0, .int .i64 0, .int .i64 0, .int .i64 0, .slice aq ([] : List OpD).length cq] 24)
    have hC2 := chain hC1 hb8
    have hz9 := hz8.below (W' := y1.alloc _) (Below.refl _ _)
    clear hy1 hb7 hb8 hC1 hz8
    go_wp2_with fail
    generalize y1.alloc _ = y2 at *
    refine (live16_any y2).mono ?_
    rintro e y3 ⟨rfl, hbA⟩
    obtain ⟨c0, -, -, -, -, -, -⟩ := (hz9.below hbA).cells
    simp only [zM] at c0
    clear hz9
    go_wp2_with fail
    go_ret
    exact ⟨rfl, chain hC2 hbA⟩
  have e0 : weR m = (mk (frmB m), 0) := by rw [weR, hM]; rfl
  rw [e0] at hE
  have hfl := frmB_len m hi
  have hfp := frm_pos m
  have hmks := mk_size (frmB m)
  have hD := fun W => wdecode_any (mk (frmB m)) W (by rw [mk_size]; unfold maxLen; omega)
  rw [wd_form hM hi] at hD
  simp only at hD
  have hS := fun a b W h1 h2 => sameM_true m a b W hm' h1 h2
  have hcut := cut_mk (frmB m) hfp
  obtain ⟨LM, hLM, hLp⟩ := drop_last (frmB m) hfp
  have hD1 := fun W => wdecode_any (mk (frmB m).dropLast) W (by rw [mk_size, List.length_dropLast]; unfold maxLen; omega)
  rw [wd_less hM hi _ _ hLM hLp] at hD1
  simp only at hD1
  have hne := empty_ff (s := mk (frmB m)) (by omega)
  have hsz1 : ((mk (frmB m)).size : Int) ≤ 20000 := by omega
  have hsz0 : 1 ≤ ((mk (frmB m)).size : Int) := by omega
  have hadd := fun W => pk.add_mk (frmB m) more.data.toList W (by rw [data_len]; omega)
  rw [mk_data] at hadd
  by_cases hz : more.size = 0
  · have hmE := empty_tt hz
    have hD2 := hD
    have hcat : frmB m ++ more.data.toList = frmB m := by
      have : more.data.toList = [] := List.eq_nil_of_length_eq_zero (by rw [data_len]; exact hz)
      rw [this, List.append_nil]
    rw [hcat] at hadd
    clear hcat hLM hLp hz
    generalize mk (frmB m).dropLast = S1 at *
    generalize mk (frmB m) = S at *
    clear e0 hM hi hfl hfp hmks hs2 _hs1
    unfold MsD.fs at hE hB hr0 hx hD hS hD1 hD2 ⊢
    simp only [zM] at hD1
    go_enter Try.func5, Try.ntmps5
    go_wp2_with fail
    refine hE.mono ?_
    rintro e w1 ⟨rfl, hb1⟩
    have hB1 := hB.trans (hb1.mono hB.size)
    have hx1 := MB.below (m := m) hx hb1
    have hr1 := hr0.below hb1
    clear hE hB hx hr0 hb1
    go_wp2_with fail
    refine (hD w1).mono ?_
    clear hD
    rintro e w2 ⟨u2, rfl, ho2, hb2⟩
    have r2 := rdd_own ho2
    obtain ⟨ao2, cp2, rfl⟩ := own_form ho2
    have hB2 := chain hB1 hb2
    have hx2 := hx1.below hb2
    have hr2 := hr1.below hb2
    clear ho2 hB1 hx1 hr1 hb2
    have hb3 : Below w2.heap.size w2 (w2.alloc (.cells #[.int .i64 m.k, .int .i64 m.b, .int .i64 m.c, .int .i64 m.s, .int .i64 m.r, .int .i64 m.y, .slice ao2 m.d.length cp2] 24)) := (Below.refl _ w2).alloc (Nat.le_refl _) _
    have hx3 := hx2.below hb3
    have hr3 := hr2.below hb3
    have q3 := r2.below hb3
    have hB3 := hB2.trans (hb3.mono hB2.size)
    obtain ⟨c0, c1, c2, c3, c4, c5, c6⟩ := hx3.cells
    have hS1 := hS _ _ _ q3 hr3
    clear hb3 hB2 hx2 hr2 r2 hS hx3 hr3 q3
    go_wp2_with fail
    generalize w2.alloc _ = w3 at *
    refine hS1.mono ?_
    clear hS1 c0 c1 c2 c3 c4 c5 c6
    rintro e w4 ⟨rfl, hb4⟩
    have hB4 := hB3.trans (hb4.mono hB3.size)
    clear hB3 hb4
    go_wp2_with fail
    refine (hD1 w4).mono ?_
    clear hD1
    rintro e w5 ⟨u5, rfl, ho5, hb5⟩
    obtain ⟨ao5, cp5, rfl⟩ := own_form ho5
    have hB5 := chain hB4 hb5
    have hB6 : Below w.heap.size w (w5.alloc (.cells #[.int .i64 0, .int .i64 0, .int .i64 0, .int .i64 0, .int .i64 0, .int .i64 0, .slice ao5 ([] : List OpD).length cp5] 24)) := hB5.alloc hB5.size _
    clear ho5 hb5 hB4 hB5
    go_wp2_with fail
    generalize w5.alloc _ = w6 at *
    refine (hD2 w6).mono ?_
    clear hD2
    rintro e w7 ⟨u7, rfl, ho7, hb7⟩
    obtain ⟨ao7, cp7, rfl⟩ := own_form ho7
    have hB7 := chain hB6 hb7
    have hB8 : Below w.heap.size w (w7.alloc (.cells #[.int .i64 m.k, .int .i64 m.b, .int .i64 m.c, .int .i64 m.s, .int .i64 m.r, .int .i64 m.y, .slice ao7 m.d.length cp7] 24)) := hB7.alloc hB7.size _
    clear ho7 hb7 hB6 hB7
    go_wp2_with fail
    generalize w7.alloc _ = w8 at *
    refine (hZ w8).mono ?_
    clear hZ
    rintro e y1 ⟨v1, rfl, hy1, hb7⟩
    obtain ⟨aq, cq, rfl⟩ := own_form hy1
    have hC1 := chain hB8 hb7
    have hb8 : Below y1.heap.size y1 (y1.alloc (.cells #[.int .i64 0, .int .i64 0, .int .i64 0, .int .i64 0, .int .i64 0, .int .i64 0, .slice aq ([] : List OpD).length cq] 24)) := (Below.refl _ y1).alloc (Nat.le_refl _) _
    have hz8 : MB _ _ zM (.slice aq ([] : List OpD).length cq) := heap_alloc_new y1 (.cells #[.int .i64 0, .int .i64 0, .int .i64 0, .int .i64 0, .int .i64 0, .int .i64 0, .slice aq ([] : List OpD).length cq] 24)
    have hC2 := chain hC1 hb8
    have hz9 := hz8.below (W' := y1.alloc _) (Below.refl _ _)
    clear hy1 hb7 hb8 hC1 hz8
    go_wp2_with fail
    generalize y1.alloc _ = y2 at *
    refine (live16_any y2).mono ?_
    rintro e y3 ⟨rfl, hbA⟩
    obtain ⟨c0, -, -, -, -, -, -⟩ := (hz9.below hbA).cells
    simp only [zM] at c0
    clear hz9
    go_wp2_with fail
    go_ret
    exact ⟨rfl, chain hC2 hbA⟩
  have hmE := empty_ff hz
  have hD2 := fun W => wdecode_any (mk (frmB m ++ more.data.toList)) W (by rw [mk_size, List.length_append, data_len]; unfold maxLen; omega)
  rw [wd_more hM hi _ (by rw [data_len]; omega)] at hD2
  simp only at hD2
  generalize mk (frmB m ++ more.data.toList) = S2 at *
  clear hLM hLp hz
  generalize mk (frmB m).dropLast = S1 at *
  generalize mk (frmB m) = S at *
  clear e0 hM hi hfl hfp hmks hs2 _hs1
  unfold MsD.fs at hE hB hr0 hx hD hS hD1 hD2 ⊢
  simp only [zM] at hD1 hD2
  go_enter Try.func5, Try.ntmps5
  go_wp2_with fail
  refine hE.mono ?_
  rintro e w1 ⟨rfl, hb1⟩
  have hB1 := hB.trans (hb1.mono hB.size)
  have hx1 := MB.below (m := m) hx hb1
  have hr1 := hr0.below hb1
  clear hE hB hx hr0 hb1
  go_wp2_with fail
  refine (hD w1).mono ?_
  clear hD
  rintro e w2 ⟨u2, rfl, ho2, hb2⟩
  have r2 := rdd_own ho2
  obtain ⟨ao2, cp2, rfl⟩ := own_form ho2
  have hB2 := chain hB1 hb2
  have hx2 := hx1.below hb2
  have hr2 := hr1.below hb2
  clear ho2 hB1 hx1 hr1 hb2
  have hb3 : Below w2.heap.size w2 (w2.alloc (.cells #[.int .i64 m.k, .int .i64 m.b, .int .i64 m.c, .int .i64 m.s, .int .i64 m.r, .int .i64 m.y, .slice ao2 m.d.length cp2] 24)) := (Below.refl _ w2).alloc (Nat.le_refl _) _
  have hx3 := hx2.below hb3
  have hr3 := hr2.below hb3
  have q3 := r2.below hb3
  have hB3 := hB2.trans (hb3.mono hB2.size)
  obtain ⟨c0, c1, c2, c3, c4, c5, c6⟩ := hx3.cells
  have hS1 := hS _ _ _ q3 hr3
  clear hb3 hB2 hx2 hr2 r2 hS hx3 hr3 q3
  go_wp2_with fail
  generalize w2.alloc _ = w3 at *
  refine hS1.mono ?_
  clear hS1 c0 c1 c2 c3 c4 c5 c6
  rintro e w4 ⟨rfl, hb4⟩
  have hB4 := hB3.trans (hb4.mono hB3.size)
  clear hB3 hb4
  go_wp2_with fail
  refine (hD1 w4).mono ?_
  clear hD1
  rintro e w5 ⟨u5, rfl, ho5, hb5⟩
  obtain ⟨ao5, cp5, rfl⟩ := own_form ho5
  have hB5 := chain hB4 hb5
  have hB6 : Below w.heap.size w (w5.alloc (.cells #[.int .i64 0, .int .i64 0, .int .i64 0, .int .i64 0, .int .i64 0, .int .i64 0, .slice ao5 ([] : List OpD).length cp5] 24)) := hB5.alloc hB5.size _
  clear ho5 hb5 hB4 hB5
  go_wp2_with fail
  generalize w5.alloc _ = w6 at *
  refine (hD2 w6).mono ?_
  clear hD2
  rintro e w7 ⟨u7, rfl, ho7, hb7⟩
  obtain ⟨ao7, cp7, rfl⟩ := own_form ho7
  have hB7 := chain hB6 hb7
  have hB8 : Below w.heap.size w (w7.alloc (.cells #[.int .i64 0, .int .i64 0, .int .i64 0, .int .i64 0, .int .i64 0, .int .i64 0, .slice ao7 ([] : List OpD).length cp7] 24)) := hB7.alloc hB7.size _
  clear ho7 hb7 hB6 hB7
  go_wp2_with fail
  generalize w7.alloc _ = w8 at *
  refine (hZ w8).mono ?_
  clear hZ
  rintro e y1 ⟨v1, rfl, hy1, hb7⟩
  obtain ⟨aq, cq, rfl⟩ := own_form hy1
  have hC1 := chain hB8 hb7
  have hb8 : Below y1.heap.size y1 (y1.alloc (.cells #[.int .i64 0, .int .i64 0, .int .i64 0, .int .i64 0, .int .i64 0, .int .i64 0, .slice aq ([] : List OpD).length cq] 24)) := (Below.refl _ y1).alloc (Nat.le_refl _) _
  have hz8 : MB _ _ zM (.slice aq ([] : List OpD).length cq) := heap_alloc_new y1 (.cells #[.int .i64 0, .int .i64 0, .int .i64 0, .int .i64 0, .int .i64 0, .int .i64 0, .slice aq ([] : List OpD).length cq] 24)
  have hC2 := chain hC1 hb8
  have hz9 := hz8.below (W' := y1.alloc _) (Below.refl _ _)
  clear hy1 hb7 hb8 hC1 hz8
  go_wp2_with fail
  generalize y1.alloc _ = y2 at *
  refine (live16_any y2).mono ?_
  rintro e y3 ⟨rfl, hbA⟩
  obtain ⟨c0, -, -, -, -, -, -⟩ := (hz9.below hbA).cells
  simp only [zM] at c0
  clear hz9
  go_wp2_with fail
  go_ret
  exact ⟨rfl, chain hC2 hbA⟩

theorem own : ownKnob Try.prog.godebug = none := by kernel_rfl
theorem laidOut : laidOutB Try.prog = true := by kernel_rfl

set_option maxRecDepth 20000 in
theorem contract (H : Type) (enc : TypeId × Value → H) (W : World) (base : Nat) (args : Array Value) (ds gs : List (DataW H)) (before : List MemPlace)
    (hval : ∀ (j : Nat) t v, Try.f5.params[j]? = some t → args[j]? = some v → Value.okWide Try.prog W .any base t v)
    (hW : DataW.Whole enc Try.prog Try.f5.params.toList Rows.wireBackSpec.vars false W args.toList ds gs before) (hsz0 : (DataW.weightsEach Try.prog (Try.f5.params.toList ++ Rows.wireBackSpec.plain.varTypes Try.prog) (ds ++ gs)).all (· ≤ reachBytes) = true) :
    Calls Try.prog 5 args W fun e W' => ∃ v, e = .returned v ∧ Rows.wireBackSpec.post enc Try.prog Try.f5 false true false false W args v W' := by
  have hW' := hW
  obtain ⟨p, q, hA0, hV, rfl, hfz, hnd⟩ := hW
  have hA : DataW.TrodAll enc Try.prog W 0 (fun _ => true) true Try.f5.params.toList args.toList ds p := hA0
  rw [Try.params5] at hA hval hsz0
  obtain ⟨v0, vs0, d0, ds0, p0, q0, hargs, rfl, rfl, h0, r0⟩ := trodAll_cons hA
  obtain ⟨v1, vs1, d1, ds1, p1, q1, rfl, rfl, rfl, h1, r1⟩ := trodAll_cons r0
  obtain ⟨v2, vs2, d2, ds2, p2, q2, rfl, rfl, rfl, h2, r2⟩ := trodAll_cons r1
  obtain ⟨rfl, rfl, rfl⟩ := trodAll_nil r2
  obtain rfl : args = #[v0, v1, v2] := by cases args; simp_all
  obtain ⟨rfl, rfl⟩ := trodVars_none hV
  have k0 := h0
  have lt0 : ∀ x ∈ p0, x.block < W.heap.size := by obtain ⟨m, hm⟩ := k0; exact DataW.trod_lt m _ _ _ hm
  have k1 := h1
  have lt1 : ∀ x ∈ p1, x.block < W.heap.size := by obtain ⟨m, hm⟩ := k1; exact DataW.trod_lt m _ _ _ hm
  have k2 := h2
  have lt2 : ∀ x ∈ p2, x.block < W.heap.size := by obtain ⟨m, hm⟩ := k2; exact DataW.trod_lt m _ _ _ hm
  obtain ⟨fuel0, hf0⟩ := h0
  have z0 : ∀ n ∈ d0.weights Try.prog 24, n ≤ reachBytes := fun n hn => by simpa using List.all_eq_true.1 hsz0 n (DataW.weights_mem_each (j := 0) (t := 24) (d := d0) rfl rfl n hn)
  obtain ⟨l0, u0, hc0, rd0, ln0, ok0⟩ := open_msz hf0 z0
  obtain rfl := ms_val hc0
  obtain ⟨a1, rfl, rfl, rfl, w1⟩ := open_string Try.underlying9 (hval 1 9 v1 rfl rfl) h1
  obtain ⟨a2, rfl, rfl, rfl, w2⟩ := open_string Try.underlying9 (hval 2 9 v2 rfl rfl) h2
  have z2 := sized_string hsz0 (j := 2) (t := 9) rfl rfl
  clear hA0
  simp only [List.append_nil] at hW'
  refine (walk l0 u0 a1 a2 W rd0 ln0 ok0 w1 w2 (by simpa [reachBytes] using z2)).mono fun e W' ⟨he, bel⟩ => ?_
  subst he
  exact ⟨_, rfl, _, _, _, [], _, [], hW', trodAll_mk1 (shut_bool Try.underlying4 _), (trodAll_cons_mk (Below.trod laidOut (by kernel_rfl) (of_decide_eq_true (by kernel_rfl)) k0 bel lt0) (trodAll_cons_mk (Below.trod laidOut (by kernel_rfl) (of_decide_eq_true (by kernel_rfl)) k1 bel lt1) (trodAll_cons_mk (Below.trod laidOut (by kernel_rfl) (of_decide_eq_true (by kernel_rfl)) k2 bel lt2) trodAll_mk0))), rfl, bel.frame _, fun h => by cases h⟩

set_option maxRecDepth 100000 in
theorem lifted (os : Os) (started : os.Started) (H : Type) (enc : TypeId × Value → H) :
    ReturnsInHanded {} Try.checked os 5 .any (Rows.wireBackSpec.pre6 enc Try.prog Try.f5 Rows.wireBackRow.domain false) (Rows.wireBackSpec.post enc Try.prog Try.f5 false true false false) := by
  refine returnsInHanded_of_change_sized (C := Try.checked) own started (by kernel_rfl) Try.func5
    (ChangeSpec.witness6 (enc := enc) (C := Try.checked) false ⟨#[], #[.agg #[.int .i64 0, .int .i64 0, .int .i64 0, .int .i64 0, .int .i64 0, .int .i64 0, .slice none 0 0], .string .empty, .string .empty], []⟩ 8 (by kernel_rfl) (by kernel_rfl) (by kernel_rfl) (by kernel_rfl)) ?_
  intro W base args ds gs before hval hW _ hsz _
  exact contract H enc W base args ds gs before hval hW hsz

theorem holds : Rows.WireBackSaid :=
  OpenClaim.holds_of_wide 5 Try.f5 rfl rfl rfl rfl rfl rfl rfl ⟨rfl, rfl, rfl, rfl, rfl⟩ rfl rfl rfl rfl rfl (by kernel_rfl) Try.func5 (by kernel_rfl)
    (of_decide_eq_true (by kernel_rfl)) (by unfold Func.isWrapper; first | (rw [if_pos (by decide +kernel)]; kernel_rfl) | (rw [if_neg (by decide +kernel)]; exact ⟨rfl, rfl⟩))
    (fun os started H enc _ => lifted os started H enc)
end Go.Proofs.Ytgceileakcjmdaa.wireBack
namespace Go.Proofs.Ytgceileakcjmdaa
theorem wireBack_holds : Rows.WireBackSaid := wireBack.holds
#print axioms wireBack_holds
end Go.Proofs.Ytgceileakcjmdaa
