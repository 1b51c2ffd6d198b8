/-
  The reference: Encode.
-/
import Derived.Test.YtgceileakcjmdaaRwA
namespace Go.Proofs.Ytgceileakcjmdaa
open Go.ChangeShapes Go.WideShapes Go.ChangeAt Go.RowKit Go.PlainAid

theorem heap_alloc_size (w : World) (o : Obj) : (w.alloc o).heap.size = w.heap.size + 1 := by simp
theorem nsI (m : MsD) (hM : mayM m = true) (fs : List Nat) : fs.map m.at = (m.ns fs).map (fun n : Nat => (n : Int)) := by
  rw [MsD.ns, List.map_map]
  apply List.map_congr_left
  intro f _
  exact (Int.toNat_of_nonneg (may_at hM f).1).symm

set_option maxRecDepth 20000 in
set_option maxHeartbeats 1000000 in
theorem rencode_any (m : MsD) (v : Value) (w : World) (hr : RdD w v m.d) (hm : m.d.length ≤ maxLen) (hi : ∀ o ∈ m.d, o.Sm) :
    Calls Try.prog 9 #[.agg (m.fs v)] w fun e w' => e = .returned (.tuple #[.string (weR m).1, .int .i64 (weR m).2]) ∧ Below w.heap.size w w' := by
  obtain ⟨i0, hin, hz0, hz1, hz2⟩ := info_parts Try.info3
  have hi' : ∀ o ∈ m.d, o.In := fun o ho => sm_in (hi o ho)
  have hB : Below w.heap.size w (w.alloc (.cells (m.fs v) 24)) := (Below.refl _ w).alloc (Nat.le_refl _) _
  have hx : MB _ _ m v := heap_alloc_new w (.cells (m.fs v) 24)
  have hr1 := hr.below hB
  have hc := rmay_any m v _ hr1 hm hi
  have hsz : (w.alloc (.cells (m.fs v) 24)).heap.size = w.heap.size + 1 := by simp
  obtain ⟨ao, cp, rfl, -⟩ := hr
  cases hM : mayM m
  · have HR : Hid (weR m = (⟨#[]⟩, 160)) := by show _ = _; rw [weR, hM]; rfl
    rw [hM] at hc
    clear hM hx hr1
    unfold MsD.fs at hc hB hsz ⊢
    go_enter Try.func9, Try.ntmps9
    go_wp2_with fail
    refine hc.mono ?_
    rintro e w2 ⟨rfl, hb2⟩
    clear hc
    go_wp2_with fail
    go_ret2
    exact ⟨by rw [HR.out]; rfl, hB.trans (hb2.mono (by omega))⟩
  have HR : Hid (weR m = (mk (frmB m), 0)) := by show _ = _; rw [weR, hM]; rfl
  rw [hM] at hc
  have HM : Hid (mayM m = true) := hM
  have hp := may_parts hM
  have hE := fun W h => refEncode_any (.slice ao m.d.length cp) m.d W h hm hi
  have he : encR m.d = (mk (encB (stR m.d)), 0) := by rw [encR, if_pos hp.2.2.2.2.1]
  rw [he] at hE
  have hsm := encB_small hi'
  have hT : pk.textR (mk (encB (stR m.d))) = (mk (pk.textB (mk (encB (stR m.d)))), 0) := by rw [pk.textR, if_pos (by rw [mk_size]; omega)]
  have hX := fun W => pk.refTextW_any (mk (encB (stR m.d))) W (by rw [mk_size]; unfold maxLen; omega)
  rw [hT] at hX
  have htl := pk.textB_len (mk (encB (stR m.d)))
  rw [mk_size] at htl
  have hns := ns_le hM (0 :: bkF m.k)
  have HI : Hid ((0 :: bkF m.k).map m.at = (m.ns (0 :: bkF m.k)).map (fun n : Nat => (n : Int))) := nsI m hM _
  have HF : Hid (frmB m = nmB (m.ns (0 :: bkF m.k)) ++ (if hdM m.k = true then pk.textB (mk (encB (stR m.d))) else [])) := rfl
  obtain ⟨-, -, -, -, -, -, -, -, -, -, -, hk, -⟩ := hp
  generalize pk.textB (mk (encB (stR m.d))) = T at *
  generalize encB (stR m.d) = E at *
  simp only at hE hX
  clear he hT hM hi' hm hi HM
  unfold MsD.fs at hc hB hsz hx hr1 ⊢
  generalize hW : weR m = R at *
  clear hW
  obtain ⟨k, b, c, s, r, y, d⟩ := m
  simp only at hc hB hsz hx hr1 hE HI HF hk hns ⊢
  rcases hk with rfl | ⟨rfl, rfl, -⟩ | rfl
  · have hNl : (MsD.ns ⟨1, b, c, s, r, y, d⟩ (0 :: bkF 1)).length = 5 := rfl
    have HI2 : Hid (iv ([1, b, c, r] ++ [s]) = nsV (MsD.ns ⟨1, b, c, s, r, y, d⟩ (0 :: bkF 1))) := by
      have h1 := HI.out
      have h2 : ([1, b, c, r] ++ [s]) = (0 :: bkF 1).map (MsD.at ⟨1, b, c, s, r, y, d⟩) := rfl
      show _ = _
      rw [h2, h1, iv, nsV, List.map_map]
      rfl
    have HF2 : Hid (frmB ⟨1, b, c, s, r, y, d⟩ = nmB (MsD.ns ⟨1, b, c, s, r, y, d⟩ (0 :: bkF 1)) ++ T) := HF.out
    clear HI HF
    generalize MsD.ns ⟨1, b, c, s, r, y, d⟩ (0 :: bkF 1) = N at *
    go_enter Try.func9, Try.ntmps9
    go_wp2_with fail
    generalize w.alloc (.cells #[.int .i64 1, .int .i64 b, .int .i64 c, .int .i64 s, .int .i64 r, .int .i64 y, .slice ao d.length cp] 24) = w1 at *
    refine hc.mono ?_
    rintro e w2 ⟨rfl, hb2⟩
    have hs2 := hb2.size
    have hB2 : Below w.heap.size w w2 := hB.trans (hb2.mono (by omega))
    have hx2 := MB.below (m := ⟨1, b, c, s, r, y, d⟩) hx hb2
    have hr2 := hr1.below hb2
    clear hc hx hr1 hb2 hB
    have hO := own_lit w2 w2.heap.size 3 (iv [1, b, c, r]) 4 (Nat.le_refl _) rfl (by decide)
    have hB3 : Below w2.heap.size w2 (w2.alloc (.cells (iv [1, b, c, r]).toArray 3)) := (Below.refl _ w2).alloc (Nat.le_refl _) _
    have hs3 : (w2.alloc (.cells (iv [1, b, c, r]).toArray 3)).heap.size = w2.heap.size + 1 := by simp
    obtain ⟨c0, c1, c2, c3, c4, c5, -⟩ := hx2.cells
    obtain ⟨d0, d1, d2, d3, d4, d5, -⟩ := (hx2.below hB3).cells
    simp only [iv, List.map_cons, List.map_nil] at hO hB3 hs3 d0 d1 d2 d3 d4 d5
    simp only at c0 c1 c2 c3 c4 c5
    go_wp2_with (at_builtin; refine wpList_append_own _ rfl (.tmp 38) (.tmp 41) 48 rfl w2.heap.size 3 i0 (.int .i64 0) 1 8 Try.underlying48 hin hz0 hz1 hz2 rfl (by decide) _ _ _ rfl (hO.alloc _) ⟨_, 0, none⟩ 1 1 (iv [s]) rfl rfl (many_new2 _ _ _ _) (iv_one _) (by decide) (by decide) (by rw [heap_alloc_size, heap_alloc_size]; omega) ?_; intro v4 w4 ho4 hg4 _; have hB4 := below_app (Nat.le_refl _) hB3 hO hg4; clear hg4 hO hB3 hs3 c0 c1 c2 c3 c4 c5 d0 d1 d2 d3 d4 d5)
    have hoN : w4.ownsRow w2.heap.size 3 1 v4 5 (nsV N) := by rw [← HI2.out]; exact ho4
    clear ho4 HI2
    obtain ⟨bo, bc, rfl⟩ := own_form hoN
    go_loopw [6, 7] (fun x i wr => ∃ q : Nat, q ≤ 5 ∧ x = .string (mk (nmB (N.take q))) ∧ i = .int .i64 (q : Int) ∧ wr.ownsRow w2.heap.size 3 1 (.slice bo 5 bc) 5 (nsV N) ∧ Below w2.heap.size w2 wr) (fun _ i _ => 5 - (intOf i).toNat)
    case atStart => exact ⟨0, by omega, rfl, rfl, hoN, hB4⟩
    case round =>
      obtain ⟨q, hq, rfl, rfl, hO, hbl⟩ := hrel
      clear hoN hB4
      by_cases hlt : q < 5
      · have hlt' : (q : Int) < 5 := by omega
        have hlN : q < N.length := by omega
        have cq : ∃ g, bo = some ⟨g, 0, none⟩ ∧ wr.cell? ⟨g, q, none⟩ = some (.int .i64 (N[q] : Int)) := by
          rcases hO.2 with ⟨e, h⟩ | ⟨g, cap, cur, e, -⟩
          · cases h
          · injection e with e1 e2 e3
            refine ⟨g, e1, ?_⟩
            have := hO.cells (g := g) (by rw [e1]; rfl) q (.int .i64 (N[q] : Int)) (by simp [nsV, hlN])
            rw [addr_add, Nat.zero_add] at this
            exact this
        obtain ⟨g, eg, cq⟩ := cq
        subst eg
        have HT : Hid (nmB (N.take (q + 1)) = nmB (N.take q) ++ numB N[q]) := nmB_take N q hlN
        have hN := hns N[q] (List.getElem_mem hlN)
        have hl1 := nmB_len (N.take q)
        have hl2 := numB_len (n := N[q])
        have hl3 : (N.take q).length ≤ 6 := by rw [List.length_take]; omega
        have hadd := fun W => pk.add_mk (nmB (N.take q)) (numB N[q]) W (by omega)
        rw [← HT.out] at hadd
        have hc := pk.refNumW_ok N[q] wr hN
        clear HT hl1 hl2 hl3 hN
        generalize mk (nmB (N.take q)) = X at *
        generalize hXn : mk (nmB (N.take (q + 1))) = Xn at *
        have HXn : Hid (mk (nmB (N.take (q + 1))) = Xn) := hXn
        clear hXn
        generalize N[q] = nq at *
        go_wp2_with fail
        refine hc.mono ?_
        rintro e w6 ⟨rfl, hb6⟩
        have hO6 := own_belowG hO hb6
        have hb6' := hbl.trans (hb6.mono hbl.size)
        clear hc hO hbl hb6 cq
        generalize mk (numB nq) = Y at *
        go_wp2_with fail
        go_roundw
        case rel => exact ⟨q + 1, by omega, by rw [HXn.out], by go_num, hO6, hb6'⟩
        case measure => simp [intOf]; omega
      · obtain rfl : q = 5 := by omega
        have HN : Hid (N.take 5 = N) := by show _ = _; rw [← hNl, List.take_length]
        rw [HN.out]
        have hB6 := hB2.trans (hbl.mono hB2.size)
        have hx6 := hx2.below hbl
        have hr6 := hr2.below hbl
        obtain ⟨c0, -, -, -, -, -, c6⟩ := hx6.cells
        simp only at c0 c6
        clear hns hx6 hx2 hr2 hB2 hO hbl HN
        have hE' := hE wr hr6
        clear hE hr6
        have hl1 := nmB_len N
        have hadd := fun W => pk.add_mk (nmB N) T W (by omega)
        go_wp2_with fail
        refine hE'.mono ?_
        rintro e w7 ⟨rfl, hb7⟩
        have hB7 := hB6.trans (hb7.mono hB6.size)
        clear hE' hB6 hb7 c0 c6
        go_wp2_with fail
        refine (hX w7).mono ?_
        rintro e w8 ⟨rfl, hb8⟩
        have hB8 := hB7.trans (hb8.mono hB7.size)
        clear hX hB7 hb8
        go_wp2_with fail
        go_ret2
        exact ⟨by rw [HR.out, HF2.out]; rfl, hB8⟩
  · have hNl : (MsD.ns ⟨2, b, c, 0, r, y, d⟩ (0 :: bkF 2)).length = 4 := rfl
    have HI2 : Hid (iv ([2, b, c, r]) = nsV (MsD.ns ⟨2, b, c, 0, r, y, d⟩ (0 :: bkF 2))) := by
      have h1 := HI.out
      have h2 : ([2, b, c, r]) = (0 :: bkF 2).map (MsD.at ⟨2, b, c, 0, r, y, d⟩) := rfl
      show _ = _
      rw [h2, h1, iv, nsV, List.map_map]
      rfl
    have HF2 : Hid (frmB ⟨2, b, c, 0, r, y, d⟩ = nmB (MsD.ns ⟨2, b, c, 0, r, y, d⟩ (0 :: bkF 2)) ++ []) := HF.out
    clear HI HF
    generalize MsD.ns ⟨2, b, c, 0, r, y, d⟩ (0 :: bkF 2) = N at *
    go_enter Try.func9, Try.ntmps9
    go_wp2_with fail
    generalize w.alloc (.cells #[.int .i64 2, .int .i64 b, .int .i64 c, .int .i64 0, .int .i64 r, .int .i64 y, .slice ao d.length cp] 24) = w1 at *
    refine hc.mono ?_
    rintro e w2 ⟨rfl, hb2⟩
    have hs2 := hb2.size
    have hB2 : Below w.heap.size w w2 := hB.trans (hb2.mono (by omega))
    have hx2 := MB.below (m := ⟨2, b, c, 0, r, y, d⟩) hx hb2
    have hr2 := hr1.below hb2
    clear hc hx hr1 hb2 hB
    have hO := own_lit w2 w2.heap.size 3 (iv [2, b, c, r]) 4 (Nat.le_refl _) rfl (by decide)
    have hB3 : Below w2.heap.size w2 (w2.alloc (.cells (iv [2, b, c, r]).toArray 3)) := (Below.refl _ w2).alloc (Nat.le_refl _) _
    have hs3 : (w2.alloc (.cells (iv [2, b, c, r]).toArray 3)).heap.size = w2.heap.size + 1 := by simp
    obtain ⟨c0, c1, c2, c3, c4, c5, -⟩ := hx2.cells
    obtain ⟨d0, d1, d2, d3, d4, d5, -⟩ := (hx2.below hB3).cells
    simp only [iv, List.map_cons, List.map_nil] at hO hB3 hs3 d0 d1 d2 d3 d4 d5
    simp only at c0 c1 c2 c3 c4 c5
    go_wp2_with fail
    have ho4 := hO
    have hB4 := hB3
    generalize w2.alloc _ = w4 at *
    clear hO hB3 hs3 c0 c1 c2 c3 c4 c5 d0 d1 d2 d3 d4 d5
    have hoN : w4.ownsRow w2.heap.size 3 1 (.slice (some ⟨w2.heap.size, 0, none⟩) 4 4) 4 (nsV N) := by rw [← HI2.out]; exact ho4
    clear ho4 HI2
    go_loopw [6, 7] (fun x i wr => ∃ q : Nat, q ≤ 4 ∧ x = .string (mk (nmB (N.take q))) ∧ i = .int .i64 (q : Int) ∧ wr.ownsRow w2.heap.size 3 1 (.slice (some ⟨w2.heap.size, 0, none⟩) 4 4) 4 (nsV N) ∧ Below w2.heap.size w2 wr) (fun _ i _ => 4 - (intOf i).toNat)
    case atStart => exact ⟨0, by omega, rfl, rfl, hoN, hB4⟩
    case round =>
      obtain ⟨q, hq, rfl, rfl, hO, hbl⟩ := hrel
      clear hoN hB4
      by_cases hlt : q < 4
      · have hlt' : (q : Int) < 4 := by omega
        have hlN : q < N.length := by omega
        have cq : ∃ g, some (⟨w2.heap.size, 0, none⟩ : Addr) = some ⟨g, 0, none⟩ ∧ wr.cell? ⟨g, q, none⟩ = some (.int .i64 (N[q] : Int)) := by
          rcases hO.2 with ⟨e, h⟩ | ⟨g, cap, cur, e, -⟩
          · cases h
          · injection e with e1 e2 e3
            refine ⟨g, e1, ?_⟩
            have := hO.cells (g := g) (by rw [e1]; rfl) q (.int .i64 (N[q] : Int)) (by simp [nsV, hlN])
            rw [addr_add, Nat.zero_add] at this
            exact this
        obtain ⟨g, eg, cq⟩ := cq
        obtain rfl : w2.heap.size = g := by injection eg with eg; injection eg
        have HT : Hid (nmB (N.take (q + 1)) = nmB (N.take q) ++ numB N[q]) := nmB_take N q hlN
        have hN := hns N[q] (List.getElem_mem hlN)
        have hl1 := nmB_len (N.take q)
        have hl2 := numB_len (n := N[q])
        have hl3 : (N.take q).length ≤ 6 := by rw [List.length_take]; omega
        have hadd := fun W => pk.add_mk (nmB (N.take q)) (numB N[q]) W (by omega)
        rw [← HT.out] at hadd
        have hc := pk.refNumW_ok N[q] wr hN
        clear HT hl1 hl2 hl3 hN
        generalize mk (nmB (N.take q)) = X at *
        generalize hXn : mk (nmB (N.take (q + 1))) = Xn at *
        have HXn : Hid (mk (nmB (N.take (q + 1))) = Xn) := hXn
        clear hXn
        generalize N[q] = nq at *
        go_wp2_with fail
        refine hc.mono ?_
        rintro e w6 ⟨rfl, hb6⟩
        have hO6 := own_belowG hO hb6
        have hb6' := hbl.trans (hb6.mono hbl.size)
        clear hc hO hbl hb6 cq
        generalize mk (numB nq) = Y at *
        go_wp2_with fail
        go_roundw
        case rel => exact ⟨q + 1, by omega, by rw [HXn.out], by go_num, hO6, hb6'⟩
        case measure => simp [intOf]; omega
      · obtain rfl : q = 4 := by omega
        have HN : Hid (N.take 4 = N) := by show _ = _; rw [← hNl, List.take_length]
        rw [HN.out]
        have hB6 := hB2.trans (hbl.mono hB2.size)
        have hx6 := hx2.below hbl
        have hr6 := hr2.below hbl
        obtain ⟨c0, -, -, -, -, -, c6⟩ := hx6.cells
        simp only at c0 c6
        clear hns hx6 hx2 hr2 hB2 hO hbl HN
        go_wp2_with fail
        go_ret2
        exact ⟨by rw [HR.out, HF2.out, List.append_nil]; rfl, hB6⟩
  · have hNl : (MsD.ns ⟨3, b, c, s, r, y, d⟩ (0 :: bkF 3)).length = 6 := rfl
    have HI2 : Hid (iv ([3, b, c, r] ++ [y] ++ [s]) = nsV (MsD.ns ⟨3, b, c, s, r, y, d⟩ (0 :: bkF 3))) := by
      have h1 := HI.out
      have h2 : ([3, b, c, r] ++ [y] ++ [s]) = (0 :: bkF 3).map (MsD.at ⟨3, b, c, s, r, y, d⟩) := rfl
      show _ = _
      rw [h2, h1, iv, nsV, List.map_map]
      rfl
    have HF2 : Hid (frmB ⟨3, b, c, s, r, y, d⟩ = nmB (MsD.ns ⟨3, b, c, s, r, y, d⟩ (0 :: bkF 3)) ++ T) := HF.out
    clear HI HF
    generalize MsD.ns ⟨3, b, c, s, r, y, d⟩ (0 :: bkF 3) = N at *
    go_enter Try.func9, Try.ntmps9
    go_wp2_with fail
    generalize w.alloc (.cells #[.int .i64 3, .int .i64 b, .int .i64 c, .int .i64 s, .int .i64 r, .int .i64 y, .slice ao d.length cp] 24) = w1 at *
    refine hc.mono ?_
    rintro e w2 ⟨rfl, hb2⟩
    have hs2 := hb2.size
    have hB2 : Below w.heap.size w w2 := hB.trans (hb2.mono (by omega))
    have hx2 := MB.below (m := ⟨3, b, c, s, r, y, d⟩) hx hb2
    have hr2 := hr1.below hb2
    clear hc hx hr1 hb2 hB
    have hO := own_lit w2 w2.heap.size 3 (iv [3, b, c, r]) 4 (Nat.le_refl _) rfl (by decide)
    have hB3 : Below w2.heap.size w2 (w2.alloc (.cells (iv [3, b, c, r]).toArray 3)) := (Below.refl _ w2).alloc (Nat.le_refl _) _
    have hs3 : (w2.alloc (.cells (iv [3, b, c, r]).toArray 3)).heap.size = w2.heap.size + 1 := by simp
    obtain ⟨c0, c1, c2, c3, c4, c5, -⟩ := hx2.cells
    obtain ⟨d0, d1, d2, d3, d4, d5, -⟩ := (hx2.below hB3).cells
    simp only [iv, List.map_cons, List.map_nil] at hO hB3 hs3 d0 d1 d2 d3 d4 d5
    simp only at c0 c1 c2 c3 c4 c5
    go_wp2_with (first | (at_builtin; refine wpList_append_own _ rfl (.tmp 30) (.tmp 33) 48 rfl w2.heap.size 3 i0 (.int .i64 0) 1 8 Try.underlying48 hin hz0 hz1 hz2 rfl (by decide) _ _ _ rfl (hO.alloc _) ⟨_, 0, none⟩ 1 1 (iv [y]) rfl rfl (many_new2 _ _ _ _) (iv_one _) (by decide) (by decide) (by rw [heap_alloc_size, heap_alloc_size]; omega) ?_; intro v5 w5 ho5 hg5 _; have hB5 := below_app (Nat.le_refl _) hB3 hO hg5; obtain ⟨f0, f1, f2, f3, f4, f5, -⟩ := (hx2.below hB5).cells; simp only at f0 f1 f2 f3 f4 f5; clear hg5 hO hB3 hs3 c0 c1 c2 c3 c4 c5 d0 d1 d2 d3 d4 d5) | (at_builtin; refine wpList_append_own _ rfl (.tmp 38) (.tmp 41) 48 rfl w2.heap.size 3 i0 (.int .i64 0) 1 8 Try.underlying48 hin hz0 hz1 hz2 rfl (by decide) _ _ _ rfl (ho5.alloc _) ⟨_, 0, none⟩ 1 1 (iv [s]) rfl rfl (many_new _ _ _) (iv_one _) (by decide) (by decide) (by have := hB5.size; rw [heap_alloc_size]; omega) ?_; intro v4 w4 ho4 hg4 _; have hB4 := below_app (Nat.le_refl _) hB5 ho5 hg4; clear hg4 ho5 hB5 f0 f1 f2 f3 f4 f5))
    have hoN : w4.ownsRow w2.heap.size 3 1 v4 6 (nsV N) := by rw [← HI2.out]; exact ho4
    clear ho4 HI2
    obtain ⟨bo, bc, rfl⟩ := own_form hoN
    go_loopw [6, 7] (fun x i wr => ∃ q : Nat, q ≤ 6 ∧ x = .string (mk (nmB (N.take q))) ∧ i = .int .i64 (q : Int) ∧ wr.ownsRow w2.heap.size 3 1 (.slice bo 6 bc) 6 (nsV N) ∧ Below w2.heap.size w2 wr) (fun _ i _ => 6 - (intOf i).toNat)
    case atStart => exact ⟨0, by omega, rfl, rfl, hoN, hB4⟩
    case round =>
      obtain ⟨q, hq, rfl, rfl, hO, hbl⟩ := hrel
      clear hoN hB4
      by_cases hlt : q < 6
      · have hlt' : (q : Int) < 6 := by omega
        have hlN : q < N.length := by omega
        have cq : ∃ g, bo = some ⟨g, 0, none⟩ ∧ wr.cell? ⟨g, q, none⟩ = some (.int .i64 (N[q] : Int)) := by
          rcases hO.2 with ⟨e, h⟩ | ⟨g, cap, cur, e, -⟩
          · cases h
          · injection e with e1 e2 e3
            refine ⟨g, e1, ?_⟩
            have := hO.cells (g := g) (by rw [e1]; rfl) q (.int .i64 (N[q] : Int)) (by simp [nsV, hlN])
            rw [addr_add, Nat.zero_add] at this
            exact this
        obtain ⟨g, eg, cq⟩ := cq
        subst eg
        have HT : Hid (nmB (N.take (q + 1)) = nmB (N.take q) ++ numB N[q]) := nmB_take N q hlN
        have hN := hns N[q] (List.getElem_mem hlN)
        have hl1 := nmB_len (N.take q)
        have hl2 := numB_len (n := N[q])
        have hl3 : (N.take q).length ≤ 6 := by rw [List.length_take]; omega
        have hadd := fun W => pk.add_mk (nmB (N.take q)) (numB N[q]) W (by omega)
        rw [← HT.out] at hadd
        have hc := pk.refNumW_ok N[q] wr hN
        clear HT hl1 hl2 hl3 hN
        generalize mk (nmB (N.take q)) = X at *
        generalize hXn : mk (nmB (N.take (q + 1))) = Xn at *
        have HXn : Hid (mk (nmB (N.take (q + 1))) = Xn) := hXn
        clear hXn
        generalize N[q] = nq at *
        go_wp2_with fail
        refine hc.mono ?_
        rintro e w6 ⟨rfl, hb6⟩
        have hO6 := own_belowG hO hb6
        have hb6' := hbl.trans (hb6.mono hbl.size)
        clear hc hO hbl hb6 cq
        generalize mk (numB nq) = Y at *
        go_wp2_with fail
        go_roundw
        case rel => exact ⟨q + 1, by omega, by rw [HXn.out], by go_num, hO6, hb6'⟩
        case measure => simp [intOf]; omega
      · obtain rfl : q = 6 := by omega
        have HN : Hid (N.take 6 = N) := by show _ = _; rw [← hNl, List.take_length]
        rw [HN.out]
        have hB6 := hB2.trans (hbl.mono hB2.size)
        have hx6 := hx2.below hbl
        have hr6 := hr2.below hbl
        obtain ⟨c0, -, -, -, -, -, c6⟩ := hx6.cells
        simp only at c0 c6
        clear hns hx6 hx2 hr2 hB2 hO hbl HN
        have hE' := hE wr hr6
        clear hE hr6
        have hl1 := nmB_len N
        have hadd := fun W => pk.add_mk (nmB N) T W (by omega)
        go_wp2_with fail
        refine hE'.mono ?_
        rintro e w7 ⟨rfl, hb7⟩
        have hB7 := hB6.trans (hb7.mono hB6.size)
        clear hE' hB6 hb7 c0 c6
        go_wp2_with fail
        refine (hX w7).mono ?_
        rintro e w8 ⟨rfl, hb8⟩
        have hB8 := hB7.trans (hb8.mono hB7.size)
        clear hX hB7 hb8
        go_wp2_with fail
        go_ret2
        exact ⟨by rw [HR.out, HF2.out]; rfl, hB8⟩
end Go.Proofs.Ytgceileakcjmdaa
