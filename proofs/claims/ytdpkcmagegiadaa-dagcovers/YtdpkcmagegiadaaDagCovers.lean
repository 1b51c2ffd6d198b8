/-
  Proved: each commit above both is above one of those that are common, and these are above both, none of them above another one (the law DagCovers), for every input.
-/
import Derived.Test.YtdpkcmagegiadaaDgM
import Derived.Test.YtdpkcmagegiadaaDgP
import Derived.ChangeOld
import Derived.ShutString
namespace Go.Proofs.Ytdpkcmagegiadaa.dagCovers
open Go.RowKit Go.ChangeShapes Go.WideShapes Go.ChangeAt Go.PlainAid

/-- On the way: the lists, and the row of what is covered. -/
structure CV (w W : World) (u1 u2 u3 : Value) (C X Y : List Int) (g : Nat) (B : List Bool) : Prop where
  bel : Below w.heap.size w W
  c : RdI W u1 C
  x : RdI W u2 X
  y : RdI W u3 Y
  row : RowB W g B
  new : w.heap.size ≤ g
theorem CV.below {w W W' : World} {u1 u2 u3 : Value} {C X Y : List Int} {g : Nat} {B : List Bool} (h : CV w W u1 u2 u3 C X Y g B) (hb : Below W.heap.size W W') : CV w W' u1 u2 u3 C X Y g B :=
  ⟨chain h.bel hb, h.c.below hb, h.x.below hb, h.y.below hb, h.row.below hb, h.new⟩
theorem CV.set {w W : World} {u1 u2 u3 : Value} {C X Y : List Int} {g : Nat} {B : List Bool} (h : CV w W u1 u2 u3 C X Y g B) (i : Nat) (x : Bool) : CV w (W.setCell ⟨g, i, none⟩ (.bool x)) u1 u2 u3 C X Y g (B.set i x) := by
  have ho : Only [g] W (W.setCell ⟨g, i, none⟩ (.bool x)) := Only.setCell W (by simp) _
  exact ⟨h.bel.trans (ho.below h.bel.size (by simp [h.new])), h.c.row h.row ho, h.x.row h.row ho, h.y.row h.row ho, h.row.set i x, h.new⟩

set_option maxRecDepth 20000 in
set_option maxHeartbeats 8000000 in
theorem walk (v : Value) (L : List Lk) (a b : Int) (w : World) (hv : RdL w v L) (hl : L.length ≤ maxLen) (hok : ∀ k ∈ L, k.Ok) (a0 : -9223372036854775808 ≤ a) (a1 : a ≤ 9223372036854775807) (b0 : -9223372036854775808 ≤ b) (b1 : b ≤ 9223372036854775807) :
    Calls Try.prog 5 #[v, .int .i64 a, .int .i64 b] w fun e w' => e = .returned (.bool true) ∧ Below w.heap.size w w' := by
  have c1 := Common_any a b a0 a1 b0 b1 hv hl hok
  have lc := co_len L a b
  by_cases hz : (coR L a b).2 = 0
  · have c2 := fun W (hb : Below w.heap.size w W) => Above_any a a0 a1 (hv.below hb) hl hok
    have c3 := fun W (hb : Below w.heap.size w W) => Above_any b b0 b1 (hv.below hb) hl hok
    have c4 := fun (n : Int) (h : n ∈ nums L) W (hb : Below w.heap.size w W) => Above_any n (by have := (good_bd (co_zero hz).1).1 n h; omega) (by have := (good_bd (co_zero hz).1).1 n h; omega) (hv.below hb) hl hok
    have lx := up_len L a
    have ly := up_len L b
    obtain ⟨z1, z2⟩ := co_up hz
    have HM : Hid (∀ c ∈ (coR L a b).1, (upR L a).1.contains c = true ∧ (upR L b).1.contains c = true ∧ c ∈ nums L) := fun c hc => cov_mem hz hc
    have HA : Hid (∀ c ∈ (coR L a b).1, ∀ d ∈ (coR L a b).1, c ≠ d → (upR L c).1.contains d = false) := fun c hc d hd h => cov_apart hz hc hd h
    have HL : Hid (∀ x, (upR L a).1.contains x = true → (upR L b).1.contains x = true → ((coR L a b).1.any fun c => (upR L c).1.contains x) = true) := fun x h1 h2 => cov_all hz h1 h2
    have HP : Hid ((coR L a b).1.Pairwise (· < ·)) := co_nodup hz
    rw [hz] at c1
    simp only [z1] at c2
    simp only [z2] at c3
    clear hz z1 z2
    generalize (coR L a b).1 = C at *
    generalize (upR L a).1 = X at *
    generalize (upR L b).1 = Y at *
    obtain ⟨ao, cp, rfl, _⟩ := hv
    go_enter Try.func5, Try.ntmps5
    go_wp2_with fail
    refine c1.mono ?_
    rintro e w1 ⟨u1, rfl, ho1, hb1⟩
    have c2' := c2 w1 hb1
    clear c1 c2
    go_wp2_with fail
    refine c2'.mono ?_
    rintro e w2 ⟨u2, rfl, ho2, hb2⟩
    have hb12 := chain hb1 hb2
    have c3' := c3 w2 hb12
    clear c2' c3
    go_wp2_with fail
    refine c3'.mono ?_
    rintro e w3 ⟨u3, rfl, ho3, hb3⟩
    have hb13 := chain hb12 hb3
    have hA3 := alloc_below w3 (.cells (Array.replicate X.length (Value.bool false)) 4)
    have hV : CV w (w3.alloc (.cells (Array.replicate X.length (Value.bool false)) 4)) u1 u2 u3 C X Y w3.heap.size (covB L C X 0) :=
      ⟨chain hb13 hA3, (((rdi_own ho1).below hb2).below hb3).below hA3, ((rdi_own ho2).below hb3).below hA3, (rdi_own ho3).below hA3, by rw [covB_zero]; exact RowB.made w3 X.length, hb13.size⟩
    have hmk := make_boo X.length (by omega)
    obtain ⟨xo, xp, rfl, _⟩ := rdi_own ho2
    obtain ⟨co, cq, rfl, _⟩ := rdi_own ho1
    obtain ⟨yo, yq, rfl, _⟩ := rdi_own ho3
    clear c3' ho1 ho2 ho3 hb1 hb2 hb12 hb13 hb3 hA3
    go_wp2_with fail
    clear hmk
    go_loopw [14] (fun i wr => ∃ k : Nat, k ≤ C.length ∧ i = .int .i64 (k : Int) ∧ CV w wr (.slice co C.length cq) (.slice xo X.length xp) (.slice yo Y.length yq) C X Y w3.heap.size (covB L C X k)) (fun i _ => C.length - (Go.RowKit.intOf i).toNat)
    case atStart => exact ⟨0, Nat.zero_le _, rfl, hV⟩
    case round =>
      obtain ⟨k, hk, rfl, hK⟩ := hrel
      clear hV
      by_cases c : k < C.length
      · have c' : (k : Int) < (C.length : Int) := by omega
        have hC := hK.c
        obtain ⟨_, _, e1, hcC⟩ := id hC
        obtain ⟨g, off, e2, hg, cC⟩ := hcC k C[k] (by simp [c])
        simp at e1
        obtain ⟨rfl, rfl⟩ := e1
        subst e2
        obtain ⟨m1, m2, m3⟩ := HM.out C[k] (by simp)
        have cH1 := lhas_any C[k] hK.x (by omega)
        have cH2 := lhas_any C[k] hK.y (by omega)
        rw [m1] at cH1
        rw [m2] at cH2
        have cA := c4 C[k] m3 wr hK.bel
        have lk := up_len L C[k]
        have HA' : Hid (∀ j (hj : j < C.length), j ≠ k → (upR L C[k]).1.contains C[j] = false) := fun j hj hne => HA.out C[k] (by simp) C[j] (by simp) (fun e => by
          rcases Nat.lt_or_gt_of_ne hne with h | h
          · have := List.pairwise_iff_getElem.1 HP.out j k hj c h; omega
          · have := List.pairwise_iff_getElem.1 HP.out k j c hj h; omega)
        have HS : Hid (∀ j (hj : j < X.length), (covB L C X (k + 1))[j]'(by rw [covB_len]; exact hj) = ((covB L C X k)[j]'(by rw [covB_len]; exact hj) || (upR L C[k]).1.contains X[j])) := fun j hj => covB_succ L C X c hj
        clear hcC m1 m2 m3
        generalize C[k] = ck at *
        generalize upR L ck = q at *
        obtain ⟨U, y⟩ := q
        dsimp only at cA lk HA' HS
        go_wp2_with fail
        refine cH1.mono ?_
        rintro e w5 ⟨rfl, rfl⟩
        clear cH1
        go_wp2_with fail
        refine cH2.mono ?_
        rintro e w5 ⟨rfl, rfl⟩
        clear cH2
        go_wp2_with fail
        refine cA.mono ?_
        rintro e w6 ⟨u6, rfl, ho6, hb6⟩
        have hK6 := hK.below hb6
        have rU := rdi_own ho6
        obtain ⟨uo, up, rfl, _⟩ := id rU
        clear cA hK ho6 hb6 hC cC
        go_wp2_with fail
        go_loopw [17] (fun i wr => ∃ j : Nat, j ≤ C.length ∧ i = .int .i64 (j : Int) ∧ wr = w6) (fun i _ => C.length - (Go.RowKit.intOf i).toNat)
        case atStart => exact ⟨0, Nat.zero_le _, rfl, rfl⟩
        case round =>
          obtain ⟨j, hj, rfl, rfl⟩ := hrel
          by_cases cj : j < C.length
          · have cj' : (j : Int) < (C.length : Int) := by omega
            by_cases hne : j = k
            · have hne' : (j : Int) = (k : Int) := by omega
              go_wp2_with fail
              exact ⟨⟨j + 1, by omega, by go_num, by first | rfl | trivial⟩, by simp only [Go.RowKit.intOf]; omega⟩
            · have hne' : (j : Int) ≠ (k : Int) := by omega
              have cH := lhas_any C[j] rU (by omega)
              rw [HA'.out j cj hne] at cH
              obtain ⟨_, _, e1, hcC⟩ := id hK6.c
              obtain ⟨g2, off2, e2, hg2, cC2⟩ := hcC j C[j] (by simp [cj])
              simp at e1
              obtain ⟨rfl, rfl⟩ := e1
              simp at e2
              obtain ⟨rfl, rfl⟩ := e2
              clear hcC hne
              generalize C[j] = cjv at *
              go_wp2_with fail
              refine cH.mono ?_
              rintro e w7 ⟨rfl, hw⟩
              rw [hw]
              clear hw cH
              go_wp2_with fail
              exact ⟨⟨j + 1, by omega, by go_num, by first | rfl | trivial⟩, by simp only [Go.RowKit.intOf]; omega⟩
          · obtain rfl : j = C.length := by omega
            have rU' : Hid (∀ W, Below wr.heap.size wr W → RdI W (.slice uo U.length up) U) := fun W hb => rU.below hb
            have h0 : CV w wr (.slice (some ⟨g, off, none⟩) C.length cq) (.slice xo X.length xp) (.slice yo Y.length yq) C X Y w3.heap.size (mixB (covB L C X (k + 1)) (covB L C X k) 0) ∧ RdI wr (.slice uo U.length up) U := ⟨by rw [mixB_zero]; exact hK6, rU⟩
            clear rU' hK6 rU
            go_wp2_with fail
            go_loopw [18] (fun i wx => ∃ j : Nat, j ≤ X.length ∧ i = .int .i64 (j : Int) ∧ CV w wx (.slice (some ⟨g, off, none⟩) C.length cq) (.slice xo X.length xp) (.slice yo Y.length yq) C X Y w3.heap.size (mixB (covB L C X (k + 1)) (covB L C X k) j) ∧ RdI wx (.slice uo U.length up) U) (fun i _ => X.length - (Go.RowKit.intOf i).toNat)
            case atStart => exact ⟨0, Nat.zero_le _, rfl, h0⟩
            case round =>
              obtain ⟨j, hj, rfl, hK7, rU⟩ := hrel
              clear h0
              have hl1 := covB_len L C X (k + 1)
              have hl0 := covB_len L C X k
              by_cases cj : j < X.length
              · have cj' : (j : Int) < (X.length : Int) := by omega
                have cH := lhas_any X[j] rU (by omega)
                have cB := hK7.row.cell (i := j) (by rw [mixB_len (by omega)]; omega)
                rw [mixB_at (by omega) (by omega)] at cB
                have fB := hK7.row.frz j
                obtain ⟨_, _, e1, hcX⟩ := id hK7.x
                obtain ⟨g2, off2, e2, hg2, cX⟩ := hcX j X[j] (by simp [cj])
                simp at e1
                obtain ⟨rfl, rfl⟩ := e1
                subst e2
                clear hcX
                have HS' : Hid ((covB L C X (k + 1))[j]'(by omega) = ((covB L C X k)[j]'(by omega) || U.contains X[j])) := HS.out j cj
                have HV : Hid (∀ x, x = (covB L C X (k + 1))[j]'(by omega) → CV w (wr.setCell ⟨w3.heap.size, j, none⟩ (.bool x)) (.slice (some ⟨g, off, none⟩) C.length cq) (.slice (some ⟨g2, off2, none⟩) X.length xp) (.slice yo Y.length yq) C X Y w3.heap.size (mixB (covB L C X (k + 1)) (covB L C X k) (j + 1)) ∧ RdI (wr.setCell ⟨w3.heap.size, j, none⟩ (.bool x)) (.slice uo U.length up) U) := fun x hx => by
                  have h1 := hK7.set j x
                  have h2 := rU.row hK7.row (Only.setCell wr (S := [w3.heap.size]) (p := ⟨w3.heap.size, j, none⟩) (by simp) (.bool x))
                  rw [hx, mixB_set (by omega) (by omega), ← hx] at h1
                  exact ⟨h1, h2⟩
                generalize (covB L C X (k + 1))[j]'(by omega) = z1 at *
                generalize (covB L C X k)[j]'(by omega) = z0 at *
                generalize X[j] = xj at *
                cases z0 with
                | true =>
                  have HV' := HV.out true (by rw [HS'.out]; rfl)
                  have HV2 : Hid (CV w (wr.setCell ⟨w3.heap.size, j, none⟩ (.bool true)) (.slice (some ⟨g, off, none⟩) C.length cq) (.slice (some ⟨g2, off2, none⟩) X.length xp) (.slice yo Y.length yq) C X Y w3.heap.size (mixB (covB L C X (k + 1)) (covB L C X k) (j + 1)) ∧ RdI (wr.setCell ⟨w3.heap.size, j, none⟩ (.bool true)) (.slice uo U.length up) U) := HV'
                  clear HV HV' HS' hK7 rU cH hl0 hl1 cX
                  go_wp2_with fail
                  exact ⟨⟨j + 1, by omega, by go_num, HV2.out.1, HV2.out.2⟩, by simp only [Go.RowKit.intOf]; omega⟩
                | false =>
                  have HV' := HV.out (U.contains xj) (by rw [HS'.out]; simp)
                  have HV2 : Hid (CV w (wr.setCell ⟨w3.heap.size, j, none⟩ (.bool (U.contains xj))) (.slice (some ⟨g, off, none⟩) C.length cq) (.slice (some ⟨g2, off2, none⟩) X.length xp) (.slice yo Y.length yq) C X Y w3.heap.size (mixB (covB L C X (k + 1)) (covB L C X k) (j + 1)) ∧ RdI (wr.setCell ⟨w3.heap.size, j, none⟩ (.bool (U.contains xj))) (.slice uo U.length up) U) := HV'
                  clear HV HV' HS' hK7 rU hl0 hl1
                  go_wp2_with fail
                  refine cH.mono ?_
                  rintro e w7 ⟨rfl, hw⟩
                  rw [hw]
                  clear hw cH
                  generalize U.contains xj = bj at *
                  go_wp2_with fail
                  exact ⟨⟨j + 1, by omega, by go_num, HV2.out.1, HV2.out.2⟩, by simp only [Go.RowKit.intOf]; omega⟩
              · obtain rfl : j = X.length := by omega
                have hK8 : Hid (CV w wr (.slice (some ⟨g, off, none⟩) C.length cq) (.slice xo X.length xp) (.slice yo Y.length yq) C X Y w3.heap.size (covB L C X (k + 1))) := by
                  have h9 := mixB_all (A := covB L C X (k + 1)) (B := covB L C X k) (by omega)
                  rw [hl1] at h9
                  rw [h9] at hK7
                  exact hK7
                clear hK7 rU hl0 hl1
                go_wp2_with fail
                exact ⟨⟨k + 1, by omega, by go_num, hK8.out⟩, by simp only [Go.RowKit.intOf]; omega⟩
      · obtain rfl : k = C.length := by omega
        have HF : Hid (∀ j (hj : j < X.length), Y.contains X[j] = true → (covB L C X C.length)[j]'(by rw [covB_len]; exact hj) = true) := fun j hj hy => by
          simp only [covB, List.getElem_map, List.take_length]
          exact HL.out X[j] (by simp [List.contains_eq_mem]) hy
        clear c4 HM HA HP HL
        go_wp2_with fail
        go_loopw [19] (fun i wx => ∃ j : Nat, j ≤ X.length ∧ i = .int .i64 (j : Int) ∧ wx = wr) (fun i _ => X.length - (Go.RowKit.intOf i).toNat)
        case atStart => exact ⟨0, Nat.zero_le _, rfl, rfl⟩
        case round =>
          obtain ⟨j, hj, rfl, rfl⟩ := hrel
          by_cases cj : j < X.length
          · have cj' : (j : Int) < (X.length : Int) := by omega
            have cH := lhas_any X[j] hK.y (by omega)
            have cB := hK.row.cell (i := j) (by rw [covB_len]; omega)
            obtain ⟨_, _, e1, hcX⟩ := id hK.x
            obtain ⟨g2, off2, e2, hg2, cX⟩ := hcX j X[j] (by simp [cj])
            simp at e1
            obtain ⟨rfl, rfl⟩ := e1
            subst e2
            clear hcX
            have HF' := HF.out j cj
            have HF2 : Hid (Y.contains X[j] = true → (covB L C X C.length)[j]'(by rw [covB_len]; exact cj) = true) := HF'
            clear HF'
            generalize (covB L C X C.length)[j]'(by rw [covB_len]; exact cj) = z at *
            generalize X[j] = xj at *
            cases hy : Y.contains xj with
            | false =>
              rw [hy] at cH
              clear HF2 hy
              go_wp2_with fail
              refine cH.mono ?_
              rintro e w7 ⟨rfl, hw⟩
              rw [hw]
              clear hw cH
              go_wp2_with fail
              exact ⟨⟨j + 1, by omega, by go_num, by first | rfl | trivial⟩, by simp only [Go.RowKit.intOf]; omega⟩
            | true =>
              rw [hy] at cH
              have hz := HF2.out hy
              subst hz
              clear HF2 hy
              go_wp2_with fail
              refine cH.mono ?_
              rintro e w7 ⟨rfl, hw⟩
              rw [hw]
              clear hw cH
              go_wp2_with fail
              exact ⟨⟨j + 1, by omega, by go_num, by first | rfl | trivial⟩, by simp only [Go.RowKit.intOf]; omega⟩
          · obtain rfl : j = X.length := by omega
            have HB : Hid (Below w.heap.size w wr) := hK.bel
            clear HF hK
            go_wp2_with (go_at_call 16; refine (live_any _).mono ?_; rintro e w6 ⟨rfl, hb6⟩)
            go_ret
            exact ⟨rfl, chain HB.out hb6⟩
  · have he := co_bad hz
    rw [he] at c1
    generalize (coR L a b).2 = z at *
    have hz' : (z != 0) = true := by simpa using hz
    obtain ⟨ao, cp, rfl, _⟩ := hv
    clear he hz lc
    go_enter Try.func5, Try.ntmps5
    go_wp2_with fail
    refine c1.mono ?_
    rintro e w1 ⟨u1, rfl, ho1, hb1⟩
    obtain ⟨co, cq, rfl, _⟩ := rdi_own ho1
    clear c1 ho1
    go_wp2_with (go_at_call 16; refine (live_any _).mono ?_; rintro e w6 ⟨rfl, hb6⟩)
    go_ret
    exact ⟨rfl, chain hb1 hb6⟩

theorem own : ownKnob Try.prog.godebug = none := by kernel_rfl
theorem laidOut : laidOutB Try.prog = true := by kernel_rfl

set_option maxRecDepth 20000 in
theorem contract (H : Type) (enc : TypeId × Value → H) (W : World) (base : Nat) (args : Array Value) (ds gs : List (DataW H)) (before : List MemPlace)
    (hval : ∀ (j : Nat) t v, Try.f5.params[j]? = some t → args[j]? = some v → Value.okWide Try.prog W .any base t v)
    (hW : DataW.Whole enc Try.prog Try.f5.params.toList Rows.dagCoversSpec.vars false W args.toList ds gs before) :
    Calls Try.prog 5 args W fun e W' => ∃ v, e = .returned v ∧ Rows.dagCoversSpec.post enc Try.prog Try.f5 false true false false W args v W' := by
  have hW' := hW
  obtain ⟨p, q, hA0, hV, rfl, hfz, hnd⟩ := hW
  have hA : DataW.TrodAll enc Try.prog W 0 (fun _ => true) true Try.f5.params.toList args.toList ds p := hA0
  rw [Try.params5] at hA hval
  obtain ⟨v0, vs0, d0, ds0, p0, q0, hargs, rfl, rfl, h0, r0⟩ := trodAll_cons hA
  obtain ⟨v1, vs1, d1, ds1, p1, q1, rfl, rfl, rfl, h1, r1⟩ := trodAll_cons r0
  obtain ⟨v2, vs2, d2, ds2, p2, q2, rfl, rfl, rfl, h2, r2⟩ := trodAll_cons r1
  obtain ⟨rfl, rfl, rfl⟩ := trodAll_nil r2
  obtain rfl : args = #[v0, v1, v2] := by cases args; simp_all
  obtain ⟨rfl, rfl⟩ := trodVars_none hV
  have k0 := h0
  have lt0 : ∀ x ∈ p0, x.block < W.heap.size := by obtain ⟨m, hm⟩ := k0; exact DataW.trod_lt m _ _ _ hm
  have k1 := h1
  have lt1 : ∀ x ∈ p1, x.block < W.heap.size := by obtain ⟨m, hm⟩ := k1; exact DataW.trod_lt m _ _ _ hm
  have k2 := h2
  have lt2 : ∀ x ∈ p2, x.block < W.heap.size := by obtain ⟨m, hm⟩ := k2; exact DataW.trod_lt m _ _ _ hm
  obtain ⟨a0, len0, cap0, rfl⟩ := okWide_slice Try.underlying22 (hval 0 22 v0 rfl rfl)
  obtain ⟨fuel0, hf0⟩ := h0
  obtain ⟨l0, rd0, ln0, ok0⟩ := open_ops hf0
  obtain ⟨a1, rfl, rfl, rfl, w1⟩ := open_int Try.underlying3 (hval 1 3 v1 rfl rfl) h1
  obtain ⟨a2, rfl, rfl, rfl, w2⟩ := open_int Try.underlying3 (hval 2 3 v2 rfl rfl) h2
  clear hA0
  simp only [List.append_nil] at hW'
  refine (walk (.slice a0 len0 cap0) l0 a1 a2 W rd0 ln0 ok0 (wf_bd w1).1 (wf_bd w1).2 (wf_bd w2).1 (wf_bd w2).2).mono fun e W' ⟨he, bel⟩ => ?_
  subst he
  exact ⟨_, rfl, _, _, _, [], _, [], hW', trodAll_mk1 (shut_bool Try.underlying4 _), (trodAll_cons_mk (Below.trod laidOut (by kernel_rfl) (of_decide_eq_true (by kernel_rfl)) k0 bel lt0) (trodAll_cons_mk (Below.trod laidOut (by kernel_rfl) (of_decide_eq_true (by kernel_rfl)) k1 bel lt1) (trodAll_cons_mk (Below.trod laidOut (by kernel_rfl) (of_decide_eq_true (by kernel_rfl)) k2 bel lt2) trodAll_mk0))), rfl, bel.frame _, fun h => by cases h⟩

set_option maxRecDepth 100000 in
theorem lifted (os : Os) (started : os.Started) (H : Type) (enc : TypeId × Value → H) :
    ReturnsInHanded {} Try.checked os 5 .any (Rows.dagCoversSpec.pre6 enc Try.prog Try.f5 Rows.dagCoversRow.domain false) (Rows.dagCoversSpec.post enc Try.prog Try.f5 false true false false) := by
  refine returnsInHanded_of_change (C := Try.checked) own started (by kernel_rfl) Try.func5
    (ChangeSpec.witness6 (enc := enc) (C := Try.checked) false ⟨#[], #[.slice none 0 0, .int .i64 0, .int .i64 0], []⟩ 8 (by kernel_rfl) (by kernel_rfl) (by kernel_rfl) (by kernel_rfl)) ?_
  intro W base args ds gs before hval hW _ _
  exact contract H enc W base args ds gs before hval hW

theorem holds : Rows.DagCoversSaid :=
  OpenClaim.holds_of_wide 5 Try.f5 rfl rfl rfl rfl rfl rfl rfl ⟨rfl, rfl, rfl, rfl, rfl⟩ rfl rfl rfl rfl rfl (by kernel_rfl) Try.func5 (by kernel_rfl)
    (of_decide_eq_true (by kernel_rfl)) (by unfold Func.isWrapper; first | (rw [if_pos (by decide +kernel)]; kernel_rfl) | (rw [if_neg (by decide +kernel)]; exact ⟨rfl, rfl⟩))
    (fun os started H enc _ => lifted os started H enc)
end Go.Proofs.Ytdpkcmagegiadaa.dagCovers
namespace Go.Proofs.Ytdpkcmagegiadaa
theorem dagCovers_holds : Rows.DagCoversSaid := dagCovers.holds
#print axioms dagCovers_holds
end Go.Proofs.Ytdpkcmagegiadaa
