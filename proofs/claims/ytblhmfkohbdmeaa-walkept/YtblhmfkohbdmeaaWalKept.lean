/-
  Proved: behind any calls, what a Commit that answered OK wrote is there after any crash, and after opening twice as after opening once (the law WalKept), for every input.
-/
import Derived.Test.YtblhmfkohbdmeaaWLawS
import Derived.Test.YtblhmfkohbdmeaaWArgX
namespace Go.Proofs.Ytblhmfkohbdmeaa.walKept
open Go.RowKit Go.Maps Go.ChangeShapes Go.WideShapes Go.ChangeAt Go.PlainAid
open Go.ChangeMaps (open_string shut_string)

theorem put_mem {N : Nat} {l : List WrD} (h : OkW N l) {o : WrD} (ho : o ∈ l) (x : Nat → Sec) : mk (put l x o.k.toNat) = o.x := by
  unfold put
  rw [fOf_mem h ho]
  exact mk_data _

set_option maxRecDepth 20000 in
set_option maxHeartbeats 8000000 in
theorem walk (c : Int) (v : Value) (ops : List OpX) (vk : Value) (l : List WrD) (mask : ByteArray) (vc : Value) (cuts : List Int) (w : World) (h0 : -9223372036854775808 ≤ c) (h1 : c ≤ 9223372036854775807) (hv : RdX w v ops) (hl : ops.length ≤ 1900000000000) (hok : ∀ o ∈ ops, o.Ok w) (hvk : RdWr w vk l) (hll : l.length ≤ 5864062014800) (hlo : ∀ o ∈ l, o.Ok) (hm : mask.size ≤ maxLen) (hvc : RdI w vc cuts) (hcb : ∀ c ∈ cuts, -9223372036854775808 ≤ c ∧ c ≤ 9223372036854775807) :
    Calls Try.prog 5 #[.int .i64 c, v, vk, .string mask, vc] w fun e w' => e = .returned (.bool true) ∧ Below w.heap.size w w' := by
  obtain ⟨ao, cp, rfl, _⟩ := id hv
  obtain ⟨aoK, cpK, rfl, ⟨hcpK, hnnK⟩, _⟩ := id hvk
  obtain ⟨aoC, cpC, rfl, _⟩ := id hvc
  have hvkb : ∀ W, Below w.heap.size w W → RdWr W (.slice aoK l.length cpK) l := fun W h => hvk.below h rfl
  have hllM : l.length ≤ maxLen := by unfold maxLen; omega
  have cM := made_any c w h0 h1
  have HG : Hid (∀ w1 A n, IsP w w1 A false false (newS n) (fun _ => [mk zeroS]) (.slice none 0 0) [] → Calls Try.prog 24 #[.pointer (some ⟨A.q, 0, none⟩), .slice ao ops.length cp] w1 fun e w' => e = .returned (.bool true) ∧ ∃ A', A'.q = A.q ∧ After w w' A' 2000000000000) :=
    fun w1 A n hP => (goes_any (stOK w) (made_after hP) hv hok (by omega)).mono fun _ _ ⟨h1, A', h2, h3⟩ => ⟨h1, A', h2, h3.mono (by omega)⟩
  have HVC : Hid (∀ W, Below w.heap.size w W → RdI W (.slice aoC cuts.length cpC) cuts) := fun W h => hvc.below h
  have HCB : Hid (∀ c ∈ cuts, -9223372036854775808 ≤ c ∧ c ≤ 9223372036854775807) := hcb
  have HLO : Hid (∀ o ∈ l, o.Ok) := hlo
  have HVK : Hid (∀ W, Below w.heap.size w W → RdWr W (.slice aoK l.length cpK) l) := hvkb
  clear hv hok hl hvc hcb hlo hvk hvkb
  go_enter Try.func5, Try.ntmps5
  go_wp2_with fail
  refine cM.mono ?_
  rintro e w1 ⟨A0, n, rfl, hP⟩
  have cG := HG.out w1 A0 n hP
  clear cM HG hP
  obtain ⟨q0, r0, p0, bs0, bw0, gm0, cp0, N0⟩ := A0
  go_wp2_with fail
  refine cG.mono ?_
  rintro e w2 ⟨rfl, A, hq, pl, s, M, vl, late, hP, hI⟩
  subst hq
  clear cG
  obtain ⟨c0, c1, c2, c3, c4⟩ := hP.cells
  have cU := up_any hP.dev
  cases hd : (s.up && !pl) with
  | true =>
    obtain ⟨hu, hp⟩ : s.up = true ∧ pl = false := by simpa using hd
    subst hp
    rw [hu] at cU
    clear hd
    obtain ⟨L, rfl⟩ := hI.live rfl
    clear hI
    go_wp2_with fail
    refine cU.mono ?_
    rintro e w' ⟨rfl, hw⟩
    rw [hw]
    clear hw w' cU
    have cF := fuse_ok hP.dev (-1) (by omega) (by omega)
    go_wp2_with fail
    refine cF.mono ?_
    rintro e w5 ⟨rfl, hd5, ho5⟩
    obtain ⟨s5, hs5⟩ : ∃ s5, s5 = { s with fuse := -1 } := ⟨_, rfl⟩
    have hP5 : IsPa w w5 A false false s5 s5.age M vl [] := by rw [hs5]; exact hP.stepD hd5 (ho5.mono (by simp)) rfl
    have L5 : Live A.N s5 M := by rw [hs5]; exact ⟨L.n, L.hs, L.hr, L.hd, L.sf⟩
    have hu5 : s5.up = true := by rw [hs5]; rfl
    have hf5 : s5.fuse = -1 := by rw [hs5]
    clear hs5 hd5 ho5 hP L hu c0 c1 c2 c3 c4 cF
    have hN8 : A.N ≤ 8192 := by have := hP5.dev.hi; have := hP5.n; omega
    have hN8' : (A.N : Int) ≤ 8192 := by omega
    have hcap5 := hP5.cap
    obtain ⟨c0, c1, c2, c3, c4⟩ := hP5.cells
    have cW := wrong_any A.N hN8 (HVK.out w5 hP5.b) hllM HLO.out
    go_wp2_with fail
    refine cW.mono ?_
    rintro e w6 ⟨rfl, hb6⟩
    have hP6 := hP5.below hb6
    clear hP5 hb6 cW c0 c1 c2 c3 c4
    by_cases hE : apartE A.N l = 0
    · rw [hE]
      obtain ⟨hOk, h24⟩ := apartE_zero hE
      have HOK : Hid (OkW A.N l) := hOk
      obtain ⟨c0, c1, c2, c3, c4⟩ := hP6.cells
      have cC := wcommit_any hP6.wal hP6.dev hu5 hP6.n L5.hs L5.hr (HVK.out w6 hP6.b) hllM HLO.out hE
      clear hE hOk
      go_wp2_with fail
      refine cC.mono ?_
      rintro e w7 ⟨s7, hd7, ho7, hage7, hn7, hcase⟩
      rcases hcase with ⟨rfl, hw7, hC7, hk7, hf7⟩ | ⟨hbad, _⟩
      · have hP7 : IsPa w w7 A false false s7 s5.age M vl [] := hP6.step hd7 hw7 ho7 (hn7.trans hP6.n.symm)
        obtain ⟨x, hx⟩ : ∃ x, x = put l s5.readAt := ⟨_, rfl⟩
        rw [← hx] at hC7
        have HX7 : Hid (∀ o ∈ l, mk (x o.k.toNat) = o.x) := fun o ho => by rw [hx]; exact put_mem HOK.out ho _
        clear hx cC hP6 hd7 ho7 hw7 c0 c1 c2 c3 c4 hf7 hk7 L5 hu5
        obtain ⟨c0, c1, c2, c3, c4⟩ := hP7.cells
        have cX := crash_any hP7.dev mask hm
        go_wp2_with fail
        refine cX.mono ?_
        rintro e w8 ⟨rfl, hd8, ho8⟩
        have hP8 := hP7.stepD hd8 ho8 rfl
        have hR8 := hC7.crash mask.data.toList
        have hf8 : (s7.crashed mask.data.toList).fuse = -1 := rfl
        clear cX hP7 hd8 ho8 hC7 c0 c1 c2 c3 c4
        go_wp2_with fail
        go_loopw [13] (fun i wr => ∃ (k : Nat) (t : DevS), k ≤ 2 ∧ i = .int .i64 (k : Int) ∧ IsPa w wr A false false t s5.age M vl [] ∧ Rest A.N t x ∧ t.fuse = -1) (fun i _ => 2 - (intOf i).toNat)
        case atStart => exact ⟨0, _, by omega, rfl, hP8, hR8, hf8⟩
        case round =>
          obtain ⟨k, t, hk, rfl, hPt, hRt, hft⟩ := hrel
          clear hP8 hR8 hf8
          by_cases hk2 : k < 2
          · have hk2' : (k : Int) < 2 := by omega
            obtain ⟨c0, c1, c2, c3, c4⟩ := hPt.cells
            have hlr := heap_lt hPt.wal
            have cO := wopen_any hPt.dev hRt (by have := hPt.n; have := hPt.lo; omega)
            go_wp2_with fail
            refine cO.mono ?_
            rintro e w9 ⟨s9, hd9, ho9, hO9, he9⟩
            have hP9 := hPt.stepD hd9 ho9 (hO9.n.trans hPt.n.symm)
            rcases he9 with ⟨hbad, _⟩ | ⟨r9, rfl, hx9, hxs, hcl9, _, hf9⟩
            · exact absurd hft hbad
            have hx9' : IsWal w9 r9 A.p s9.age false := by rw [hO9.age]; exact hx9
            have hu9 : s9.up = true := by rw [up_of (hf9 hft)]; rfl
            have hxl : w.heap.size ≤ r9 := Nat.le_trans hPt.b.size hxs
            have hne : A.r ≠ r9 := by omega
            have HO9 : Hid (∀ m, Rest A.N (s9.crashed m) x) := hO9.rest
            have HX9 : Hid (∀ o ∈ l, mk (s9.readAt o.k.toNat) = o.x ∧ o.k.toNat < A.N ∧ 0 ≤ o.k) := fun o ho => by
              have g := good_parts (HOK.out.1 o ho)
              have hi : o.k.toNat < A.N := by omega
              exact ⟨by rw [(hcl9.rest _ hi).2]; exact HX7.out o ho, hi, by omega⟩
            clear cO hPt hd9 ho9 hO9 hx9 hcl9 hf9 hRt hft c0 c1 c2 c3 c4 hxs hlr
            have hrr : rdy s9 s9.age false = true := rdy_true hu9
            go_wp2_with fail
            go_loopw [16] (fun i wr => ∃ (j : Nat), j ≤ l.length ∧ i = .int .i64 (j : Int) ∧ IsPa w wr A false false s9 s5.age M vl [] ∧ IsWal wr r9 A.p s9.age false) (fun i _ => l.length - (intOf i).toNat)
            case atStart => exact ⟨0, Nat.zero_le _, rfl, hP9, hx9'⟩
            case round =>
              obtain ⟨j, hj, rfl, hPj, hxj⟩ := hrel
              clear hP9 hx9'
              by_cases hjl : j < l.length
              · have hjl' : (j : Int) < (l.length : Int) := by omega
                obtain ⟨_, _, ee, _, hrd⟩ := HVK.out wr hPj.b
                obtain ⟨b, off, hbo, hbl, f0, f1⟩ := hrd j l[j] (by simp [hjl])
                cases ee
                subst hbo
                obtain ⟨hval, hiN, hk0⟩ := HX9.out l[j] (List.getElem_mem hjl)
                clear hrd
                have HRD : Hid (∀ W, Below w.heap.size w W → W.cell? ⟨b, off + j * 2 + 1, none⟩ = some (.string l[j].x)) := fun W hW => by
                  obtain ⟨_, _, ee, _, hrd⟩ := HVK.out W hW
                  obtain ⟨b, off, hbo, hbl, f0, f1⟩ := hrd j l[j] (by simp [hjl])
                  cases ee
                  cases hbo
                  exact f1
                generalize l[j] = o at *
                obtain ⟨i, hi⟩ := Int.eq_ofNat_of_zero_le hk0
                rw [hi, Int.toNat_natCast] at hval hiN
                rw [hi] at f0
                have cR := wread_ok hxj hPj.dev i hrr (by have := hPj.n; omega)
                rw [hval] at cR
                go_wp2_with fail
                refine cR.mono ?_
                rintro e w10 ⟨rfl, hw10, hd10, ho10⟩
                have hP10 := hPj.stepX hxj hxl hne hd10 ho10
                have f1' := HRD.out w10 hP10.b
                clear cR hPj hxj hd10 ho10 f0 f1 HRD
                go_wp2_with fail
                go_roundw
                case rel => exact ⟨j + 1, by omega, by go_num, hP10, hw10⟩
                case measure => simp [intOf]; omega
              · obtain rfl : j = l.length := by omega
                have hjl' : ¬ (l.length : Int) < (l.length : Int) := by omega
                obtain ⟨c0, c1, c2, c3, c4⟩ := hPj.cells
                have cX := crash_any hPj.dev ⟨#[]⟩ (by decide)
                go_wp2_with fail
                refine cX.mono ?_
                rintro e w11 ⟨rfl, hd11, ho11⟩
                have hP11 := hPj.stepD hd11 ho11 rfl
                have hR11 := HO9.out ([] : List UInt8)
                clear cX hPj hxj hd11 ho11 c0 c1 c2 c3 c4
                go_wp2_with fail
                go_roundw
                case rel => exact ⟨k + 1, _, by omega, by go_num, hP11, hR11, rfl⟩
                case measure => simp [intOf]; omega
          · obtain rfl : k = 2 := by omega
            have hb := hPt.b
            clear hPt hRt hft
            go_wp2_with fail
            go_ret
            exact ⟨rfl, hb⟩
      · exact absurd hf5 hbad
    · have hb := hP6.b
      clear hP6
      generalize apartE A.N l = ae at *
      have hE' : (ae == 0) = false := by simpa using hE
      go_wp2_with fail
      go_ret
      exact ⟨rfl, hb⟩
  | false =>
    have cX := crashes_up hP hI (by omega) hm HVC.out HCB.out
    clear hI
    cases hu : s.up with
    | true =>
      obtain rfl : pl = true := by
        rw [hu] at hd
        simpa using hd
      rw [hu] at cU
      clear hd hu
      go_wp2_with fail
      refine cU.mono ?_
      rintro e w' ⟨rfl, hw⟩
      rw [hw]
      clear hw w' cU
      go_wp2_with fail
      refine cX.mono ?_
      rintro e w3 ⟨rfl, r, s1, M1, hP1, hI1, hu1⟩
      clear cX hP c0 c1 c2 c3 c4
      have L := (hI1.live rfl).1
      clear hI1
      obtain ⟨q1, r1, p1, bs1, bw1, gm1, cp1, N1⟩ := A
      dsimp only at *
      obtain ⟨A, hA⟩ : ∃ A : PA, A = ⟨q1, r, p1, bs1, bw1, gm1, cp1, N1⟩ := ⟨_, rfl⟩
      rw [← hA] at hP1
      have hAq : A.q = q1 := by rw [hA]
      have hAN : A.N = N1 := by rw [hA]
      have L : Live A.N s1 M1 := by rw [hAN]; exact L
      clear hA
      subst hAq
      clear hAN
      have hP := hP1
      have hu := hu1
      clear hP1 hu1
      obtain ⟨c0, c1, c2, c3, c4⟩ := hP.cells
      have cF := fuse_ok hP.dev (-1) (by omega) (by omega)
      go_wp2_with fail
      refine cF.mono ?_
      rintro e w5 ⟨rfl, hd5, ho5⟩
      obtain ⟨s5, hs5⟩ : ∃ s5, s5 = { s1 with fuse := -1 } := ⟨_, rfl⟩
      have hP5 : IsPa w w5 A false false s5 s5.age M1 (.slice none 0 0) [] := by rw [hs5]; exact hP.stepD hd5 (ho5.mono (by simp)) rfl
      have L5 : Live A.N s5 M1 := by rw [hs5]; exact ⟨L.n, L.hs, L.hr, L.hd, L.sf⟩
      have hu5 : s5.up = true := by rw [hs5]; rfl
      have hf5 : s5.fuse = -1 := by rw [hs5]
      clear hs5 hd5 ho5 hP L hu c0 c1 c2 c3 c4 cF
      have hN8 : A.N ≤ 8192 := by have := hP5.dev.hi; have := hP5.n; omega
      have hN8' : (A.N : Int) ≤ 8192 := by omega
      have hcap5 := hP5.cap
      obtain ⟨c0, c1, c2, c3, c4⟩ := hP5.cells
      have cW := wrong_any A.N hN8 (HVK.out w5 hP5.b) hllM HLO.out
      go_wp2_with fail
      refine cW.mono ?_
      rintro e w6 ⟨rfl, hb6⟩
      have hP6 := hP5.below hb6
      clear hP5 hb6 cW c0 c1 c2 c3 c4
      by_cases hE : apartE A.N l = 0
      · rw [hE]
        obtain ⟨hOk, h24⟩ := apartE_zero hE
        have HOK : Hid (OkW A.N l) := hOk
        obtain ⟨c0, c1, c2, c3, c4⟩ := hP6.cells
        have cC := wcommit_any hP6.wal hP6.dev hu5 hP6.n L5.hs L5.hr (HVK.out w6 hP6.b) hllM HLO.out hE
        clear hE hOk
        go_wp2_with fail
        refine cC.mono ?_
        rintro e w7 ⟨s7, hd7, ho7, hage7, hn7, hcase⟩
        rcases hcase with ⟨rfl, hw7, hC7, hk7, hf7⟩ | ⟨hbad, _⟩
        · have hP7 : IsPa w w7 A false false s7 s5.age M1 (.slice none 0 0) [] := hP6.step hd7 hw7 ho7 (hn7.trans hP6.n.symm)
          obtain ⟨x, hx⟩ : ∃ x, x = put l s5.readAt := ⟨_, rfl⟩
          rw [← hx] at hC7
          have HX7 : Hid (∀ o ∈ l, mk (x o.k.toNat) = o.x) := fun o ho => by rw [hx]; exact put_mem HOK.out ho _
          clear hx cC hP6 hd7 ho7 hw7 c0 c1 c2 c3 c4 hf7 hk7 L5 hu5
          obtain ⟨c0, c1, c2, c3, c4⟩ := hP7.cells
          have cX := crash_any hP7.dev mask hm
          go_wp2_with fail
          refine cX.mono ?_
          rintro e w8 ⟨rfl, hd8, ho8⟩
          have hP8 := hP7.stepD hd8 ho8 rfl
          have hR8 := hC7.crash mask.data.toList
          have hf8 : (s7.crashed mask.data.toList).fuse = -1 := rfl
          clear cX hP7 hd8 ho8 hC7 c0 c1 c2 c3 c4
          go_wp2_with fail
          go_loopw [13] (fun i wr => ∃ (k : Nat) (t : DevS), k ≤ 2 ∧ i = .int .i64 (k : Int) ∧ IsPa w wr A false false t s5.age M1 (.slice none 0 0) [] ∧ Rest A.N t x ∧ t.fuse = -1) (fun i _ => 2 - (intOf i).toNat)
          case atStart => exact ⟨0, _, by omega, rfl, hP8, hR8, hf8⟩
          case round =>
            obtain ⟨k, t, hk, rfl, hPt, hRt, hft⟩ := hrel
            clear hP8 hR8 hf8
            by_cases hk2 : k < 2
            · have hk2' : (k : Int) < 2 := by omega
              obtain ⟨c0, c1, c2, c3, c4⟩ := hPt.cells
              have hlr := heap_lt hPt.wal
              have cO := wopen_any hPt.dev hRt (by have := hPt.n; have := hPt.lo; omega)
              go_wp2_with fail
              refine cO.mono ?_
              rintro e w9 ⟨s9, hd9, ho9, hO9, he9⟩
              have hP9 := hPt.stepD hd9 ho9 (hO9.n.trans hPt.n.symm)
              rcases he9 with ⟨hbad, _⟩ | ⟨r9, rfl, hx9, hxs, hcl9, _, hf9⟩
              · exact absurd hft hbad
              have hx9' : IsWal w9 r9 A.p s9.age false := by rw [hO9.age]; exact hx9
              have hu9 : s9.up = true := by rw [up_of (hf9 hft)]; rfl
              have hxl : w.heap.size ≤ r9 := Nat.le_trans hPt.b.size hxs
              have hne : A.r ≠ r9 := by omega
              have HO9 : Hid (∀ m, Rest A.N (s9.crashed m) x) := hO9.rest
              have HX9 : Hid (∀ o ∈ l, mk (s9.readAt o.k.toNat) = o.x ∧ o.k.toNat < A.N ∧ 0 ≤ o.k) := fun o ho => by
                have g := good_parts (HOK.out.1 o ho)
                have hi : o.k.toNat < A.N := by omega
                exact ⟨by rw [(hcl9.rest _ hi).2]; exact HX7.out o ho, hi, by omega⟩
              clear cO hPt hd9 ho9 hO9 hx9 hcl9 hf9 hRt hft c0 c1 c2 c3 c4 hxs hlr
              have hrr : rdy s9 s9.age false = true := rdy_true hu9
              go_wp2_with fail
              go_loopw [16] (fun i wr => ∃ (j : Nat), j ≤ l.length ∧ i = .int .i64 (j : Int) ∧ IsPa w wr A false false s9 s5.age M1 (.slice none 0 0) [] ∧ IsWal wr r9 A.p s9.age false) (fun i _ => l.length - (intOf i).toNat)
              case atStart => exact ⟨0, Nat.zero_le _, rfl, hP9, hx9'⟩
              case round =>
                obtain ⟨j, hj, rfl, hPj, hxj⟩ := hrel
                clear hP9 hx9'
                by_cases hjl : j < l.length
                · have hjl' : (j : Int) < (l.length : Int) := by omega
                  obtain ⟨_, _, ee, _, hrd⟩ := HVK.out wr hPj.b
                  obtain ⟨b, off, hbo, hbl, f0, f1⟩ := hrd j l[j] (by simp [hjl])
                  cases ee
                  subst hbo
                  obtain ⟨hval, hiN, hk0⟩ := HX9.out l[j] (List.getElem_mem hjl)
                  clear hrd
                  have HRD : Hid (∀ W, Below w.heap.size w W → W.cell? ⟨b, off + j * 2 + 1, none⟩ = some (.string l[j].x)) := fun W hW => by
                    obtain ⟨_, _, ee, _, hrd⟩ := HVK.out W hW
                    obtain ⟨b, off, hbo, hbl, f0, f1⟩ := hrd j l[j] (by simp [hjl])
                    cases ee
                    cases hbo
                    exact f1
                  generalize l[j] = o at *
                  obtain ⟨i, hi⟩ := Int.eq_ofNat_of_zero_le hk0
                  rw [hi, Int.toNat_natCast] at hval hiN
                  rw [hi] at f0
                  have cR := wread_ok hxj hPj.dev i hrr (by have := hPj.n; omega)
                  rw [hval] at cR
                  go_wp2_with fail
                  refine cR.mono ?_
                  rintro e w10 ⟨rfl, hw10, hd10, ho10⟩
                  have hP10 := hPj.stepX hxj hxl hne hd10 ho10
                  have f1' := HRD.out w10 hP10.b
                  clear cR hPj hxj hd10 ho10 f0 f1 HRD
                  go_wp2_with fail
                  go_roundw
                  case rel => exact ⟨j + 1, by omega, by go_num, hP10, hw10⟩
                  case measure => simp [intOf]; omega
                · obtain rfl : j = l.length := by omega
                  have hjl' : ¬ (l.length : Int) < (l.length : Int) := by omega
                  obtain ⟨c0, c1, c2, c3, c4⟩ := hPj.cells
                  have cX := crash_any hPj.dev ⟨#[]⟩ (by decide)
                  go_wp2_with fail
                  refine cX.mono ?_
                  rintro e w11 ⟨rfl, hd11, ho11⟩
                  have hP11 := hPj.stepD hd11 ho11 rfl
                  have hR11 := HO9.out ([] : List UInt8)
                  clear cX hPj hxj hd11 ho11 c0 c1 c2 c3 c4
                  go_wp2_with fail
                  go_roundw
                  case rel => exact ⟨k + 1, _, by omega, by go_num, hP11, hR11, rfl⟩
                  case measure => simp [intOf]; omega
            · obtain rfl : k = 2 := by omega
              have hb := hPt.b
              clear hPt hRt hft
              go_wp2_with fail
              go_ret
              exact ⟨rfl, hb⟩
        · exact absurd hf5 hbad
      · have hb := hP6.b
        clear hP6
        generalize apartE A.N l = ae at *
        have hE' : (ae == 0) = false := by simpa using hE
        go_wp2_with fail
        go_ret
        exact ⟨rfl, hb⟩
    | false =>
      rw [hu] at cU
      clear hd hu
      go_wp2_with fail
      refine cU.mono ?_
      rintro e w' ⟨rfl, hw⟩
      rw [hw]
      clear hw w' cU
      go_wp2_with fail
      refine cX.mono ?_
      rintro e w3 ⟨rfl, r, s1, M1, hP1, hI1, hu1⟩
      clear cX hP c0 c1 c2 c3 c4
      have L := (hI1.live rfl).1
      clear hI1
      obtain ⟨q1, r1, p1, bs1, bw1, gm1, cp1, N1⟩ := A
      dsimp only at *
      obtain ⟨A, hA⟩ : ∃ A : PA, A = ⟨q1, r, p1, bs1, bw1, gm1, cp1, N1⟩ := ⟨_, rfl⟩
      rw [← hA] at hP1
      have hAq : A.q = q1 := by rw [hA]
      have hAN : A.N = N1 := by rw [hA]
      have L : Live A.N s1 M1 := by rw [hAN]; exact L
      clear hA
      subst hAq
      clear hAN
      have hP := hP1
      have hu := hu1
      clear hP1 hu1
      obtain ⟨c0, c1, c2, c3, c4⟩ := hP.cells
      have cF := fuse_ok hP.dev (-1) (by omega) (by omega)
      go_wp2_with fail
      refine cF.mono ?_
      rintro e w5 ⟨rfl, hd5, ho5⟩
      obtain ⟨s5, hs5⟩ : ∃ s5, s5 = { s1 with fuse := -1 } := ⟨_, rfl⟩
      have hP5 : IsPa w w5 A false false s5 s5.age M1 (.slice none 0 0) [] := by rw [hs5]; exact hP.stepD hd5 (ho5.mono (by simp)) rfl
      have L5 : Live A.N s5 M1 := by rw [hs5]; exact ⟨L.n, L.hs, L.hr, L.hd, L.sf⟩
      have hu5 : s5.up = true := by rw [hs5]; rfl
      have hf5 : s5.fuse = -1 := by rw [hs5]
      clear hs5 hd5 ho5 hP L hu c0 c1 c2 c3 c4 cF
      have hN8 : A.N ≤ 8192 := by have := hP5.dev.hi; have := hP5.n; omega
      have hN8' : (A.N : Int) ≤ 8192 := by omega
      have hcap5 := hP5.cap
      obtain ⟨c0, c1, c2, c3, c4⟩ := hP5.cells
      have cW := wrong_any A.N hN8 (HVK.out w5 hP5.b) hllM HLO.out
      go_wp2_with fail
      refine cW.mono ?_
      rintro e w6 ⟨rfl, hb6⟩
      have hP6 := hP5.below hb6
      clear hP5 hb6 cW c0 c1 c2 c3 c4
      by_cases hE : apartE A.N l = 0
      · rw [hE]
        obtain ⟨hOk, h24⟩ := apartE_zero hE
        have HOK : Hid (OkW A.N l) := hOk
        obtain ⟨c0, c1, c2, c3, c4⟩ := hP6.cells
        have cC := wcommit_any hP6.wal hP6.dev hu5 hP6.n L5.hs L5.hr (HVK.out w6 hP6.b) hllM HLO.out hE
        clear hE hOk
        go_wp2_with fail
        refine cC.mono ?_
        rintro e w7 ⟨s7, hd7, ho7, hage7, hn7, hcase⟩
        rcases hcase with ⟨rfl, hw7, hC7, hk7, hf7⟩ | ⟨hbad, _⟩
        · have hP7 : IsPa w w7 A false false s7 s5.age M1 (.slice none 0 0) [] := hP6.step hd7 hw7 ho7 (hn7.trans hP6.n.symm)
          obtain ⟨x, hx⟩ : ∃ x, x = put l s5.readAt := ⟨_, rfl⟩
          rw [← hx] at hC7
          have HX7 : Hid (∀ o ∈ l, mk (x o.k.toNat) = o.x) := fun o ho => by rw [hx]; exact put_mem HOK.out ho _
          clear hx cC hP6 hd7 ho7 hw7 c0 c1 c2 c3 c4 hf7 hk7 L5 hu5
          obtain ⟨c0, c1, c2, c3, c4⟩ := hP7.cells
          have cX := crash_any hP7.dev mask hm
          go_wp2_with fail
          refine cX.mono ?_
          rintro e w8 ⟨rfl, hd8, ho8⟩
          have hP8 := hP7.stepD hd8 ho8 rfl
          have hR8 := hC7.crash mask.data.toList
          have hf8 : (s7.crashed mask.data.toList).fuse = -1 := rfl
          clear cX hP7 hd8 ho8 hC7 c0 c1 c2 c3 c4
          go_wp2_with fail
          go_loopw [13] (fun i wr => ∃ (k : Nat) (t : DevS), k ≤ 2 ∧ i = .int .i64 (k : Int) ∧ IsPa w wr A false false t s5.age M1 (.slice none 0 0) [] ∧ Rest A.N t x ∧ t.fuse = -1) (fun i _ => 2 - (intOf i).toNat)
          case atStart => exact ⟨0, _, by omega, rfl, hP8, hR8, hf8⟩
          case round =>
            obtain ⟨k, t, hk, rfl, hPt, hRt, hft⟩ := hrel
            clear hP8 hR8 hf8
            by_cases hk2 : k < 2
            · have hk2' : (k : Int) < 2 := by omega
              obtain ⟨c0, c1, c2, c3, c4⟩ := hPt.cells
              have hlr := heap_lt hPt.wal
              have cO := wopen_any hPt.dev hRt (by have := hPt.n; have := hPt.lo; omega)
              go_wp2_with fail
              refine cO.mono ?_
              rintro e w9 ⟨s9, hd9, ho9, hO9, he9⟩
              have hP9 := hPt.stepD hd9 ho9 (hO9.n.trans hPt.n.symm)
              rcases he9 with ⟨hbad, _⟩ | ⟨r9, rfl, hx9, hxs, hcl9, _, hf9⟩
              · exact absurd hft hbad
              have hx9' : IsWal w9 r9 A.p s9.age false := by rw [hO9.age]; exact hx9
              have hu9 : s9.up = true := by rw [up_of (hf9 hft)]; rfl
              have hxl : w.heap.size ≤ r9 := Nat.le_trans hPt.b.size hxs
              have hne : A.r ≠ r9 := by omega
              have HO9 : Hid (∀ m, Rest A.N (s9.crashed m) x) := hO9.rest
              have HX9 : Hid (∀ o ∈ l, mk (s9.readAt o.k.toNat) = o.x ∧ o.k.toNat < A.N ∧ 0 ≤ o.k) := fun o ho => by
                have g := good_parts (HOK.out.1 o ho)
                have hi : o.k.toNat < A.N := by omega
                exact ⟨by rw [(hcl9.rest _ hi).2]; exact HX7.out o ho, hi, by omega⟩
              clear cO hPt hd9 ho9 hO9 hx9 hcl9 hf9 hRt hft c0 c1 c2 c3 c4 hxs hlr
              have hrr : rdy s9 s9.age false = true := rdy_true hu9
              go_wp2_with fail
              go_loopw [16] (fun i wr => ∃ (j : Nat), j ≤ l.length ∧ i = .int .i64 (j : Int) ∧ IsPa w wr A false false s9 s5.age M1 (.slice none 0 0) [] ∧ IsWal wr r9 A.p s9.age false) (fun i _ => l.length - (intOf i).toNat)
              case atStart => exact ⟨0, Nat.zero_le _, rfl, hP9, hx9'⟩
              case round =>
                obtain ⟨j, hj, rfl, hPj, hxj⟩ := hrel
                clear hP9 hx9'
                by_cases hjl : j < l.length
                · have hjl' : (j : Int) < (l.length : Int) := by omega
                  obtain ⟨_, _, ee, _, hrd⟩ := HVK.out wr hPj.b
                  obtain ⟨b, off, hbo, hbl, f0, f1⟩ := hrd j l[j] (by simp [hjl])
                  cases ee
                  subst hbo
                  obtain ⟨hval, hiN, hk0⟩ := HX9.out l[j] (List.getElem_mem hjl)
                  clear hrd
                  have HRD : Hid (∀ W, Below w.heap.size w W → W.cell? ⟨b, off + j * 2 + 1, none⟩ = some (.string l[j].x)) := fun W hW => by
                    obtain ⟨_, _, ee, _, hrd⟩ := HVK.out W hW
                    obtain ⟨b, off, hbo, hbl, f0, f1⟩ := hrd j l[j] (by simp [hjl])
                    cases ee
                    cases hbo
                    exact f1
                  generalize l[j] = o at *
                  obtain ⟨i, hi⟩ := Int.eq_ofNat_of_zero_le hk0
                  rw [hi, Int.toNat_natCast] at hval hiN
                  rw [hi] at f0
                  have cR := wread_ok hxj hPj.dev i hrr (by have := hPj.n; omega)
                  rw [hval] at cR
                  go_wp2_with fail
                  refine cR.mono ?_
                  rintro e w10 ⟨rfl, hw10, hd10, ho10⟩
                  have hP10 := hPj.stepX hxj hxl hne hd10 ho10
                  have f1' := HRD.out w10 hP10.b
                  clear cR hPj hxj hd10 ho10 f0 f1 HRD
                  go_wp2_with fail
                  go_roundw
                  case rel => exact ⟨j + 1, by omega, by go_num, hP10, hw10⟩
                  case measure => simp [intOf]; omega
                · obtain rfl : j = l.length := by omega
                  have hjl' : ¬ (l.length : Int) < (l.length : Int) := by omega
                  obtain ⟨c0, c1, c2, c3, c4⟩ := hPj.cells
                  have cX := crash_any hPj.dev ⟨#[]⟩ (by decide)
                  go_wp2_with fail
                  refine cX.mono ?_
                  rintro e w11 ⟨rfl, hd11, ho11⟩
                  have hP11 := hPj.stepD hd11 ho11 rfl
                  have hR11 := HO9.out ([] : List UInt8)
                  clear cX hPj hxj hd11 ho11 c0 c1 c2 c3 c4
                  go_wp2_with fail
                  go_roundw
                  case rel => exact ⟨k + 1, _, by omega, by go_num, hP11, hR11, rfl⟩
                  case measure => simp [intOf]; omega
            · obtain rfl : k = 2 := by omega
              have hb := hPt.b
              clear hPt hRt hft
              go_wp2_with fail
              go_ret
              exact ⟨rfl, hb⟩
        · exact absurd hf5 hbad
      · have hb := hP6.b
        clear hP6
        generalize apartE A.N l = ae at *
        have hE' : (ae == 0) = false := by simpa using hE
        go_wp2_with fail
        go_ret
        exact ⟨rfl, hb⟩

theorem own : ownKnob Try.prog.godebug = none := by kernel_rfl
theorem laidOut : laidOutB Try.prog = true := by kernel_rfl

set_option maxRecDepth 20000 in
theorem contract (H : Type) (enc : TypeId × Value → H) (W : World) (base : Nat) (args : Array Value) (ds gs : List (DataW H)) (before : List MemPlace)
    (hval : ∀ (j : Nat) t v, Try.f5.params[j]? = some t → args[j]? = some v → Value.okWide Try.prog W .any base t v)
    (hW : DataW.Whole enc Try.prog Try.f5.params.toList Rows.walKeptSpec.vars false W args.toList ds gs before) (hsz0 : (DataW.weightsEach Try.prog (Try.f5.params.toList ++ Rows.walKeptSpec.plain.varTypes Try.prog) (ds ++ gs)).all (· ≤ reachBytes) = true) :
    Calls Try.prog 5 args W fun e W' => ∃ v, e = .returned v ∧ Rows.walKeptSpec.post enc Try.prog Try.f5 false true false false W args v W' := by
  have hW' := hW
  obtain ⟨p, q, hA0, hV, rfl, hfz, hnd⟩ := hW
  have hA : DataW.TrodAll enc Try.prog W 0 (fun _ => true) true Try.f5.params.toList args.toList ds p := hA0
  rw [Try.params5] at hA hval hsz0
  obtain ⟨v0, vs0, d0, ds0, p0, q0, hargs, rfl, rfl, h0, r0⟩ := trodAll_cons hA
  obtain ⟨v1, vs1, d1, ds1, p1, q1, rfl, rfl, rfl, h1, r1⟩ := trodAll_cons r0
  obtain ⟨v2, vs2, d2, ds2, p2, q2, rfl, rfl, rfl, h2, r2⟩ := trodAll_cons r1
  obtain ⟨v3, vs3, d3, ds3, p3, q3, rfl, rfl, rfl, h3, r3⟩ := trodAll_cons r2
  obtain ⟨v4, vs4, d4, ds4, p4, q4, rfl, rfl, rfl, h4, r4⟩ := trodAll_cons r3
  obtain ⟨rfl, rfl, rfl⟩ := trodAll_nil r4
  obtain rfl : args = #[v0, v1, v2, v3, v4] := by cases args; simp_all
  obtain ⟨rfl, rfl⟩ := trodVars_none hV
  have k0 := h0
  have lt0 : ∀ x ∈ p0, x.block < W.heap.size := by obtain ⟨m, hm⟩ := k0; exact DataW.trod_lt m _ _ _ hm
  have k1 := h1
  have lt1 : ∀ x ∈ p1, x.block < W.heap.size := by obtain ⟨m, hm⟩ := k1; exact DataW.trod_lt m _ _ _ hm
  have k2 := h2
  have lt2 : ∀ x ∈ p2, x.block < W.heap.size := by obtain ⟨m, hm⟩ := k2; exact DataW.trod_lt m _ _ _ hm
  have k3 := h3
  have lt3 : ∀ x ∈ p3, x.block < W.heap.size := by obtain ⟨m, hm⟩ := k3; exact DataW.trod_lt m _ _ _ hm
  have k4 := h4
  have lt4 : ∀ x ∈ p4, x.block < W.heap.size := by obtain ⟨m, hm⟩ := k4; exact DataW.trod_lt m _ _ _ hm
  obtain ⟨a0, rfl, rfl, rfl, w0⟩ := open_int Try.underlying3 (hval 0 3 v0 rfl rfl) h0
  obtain ⟨a1, len1, cap1, rfl⟩ := okWide_slice Try.underlying42 (hval 1 42 v1 rfl rfl)
  obtain ⟨fuel1, hf1⟩ := h1
  have z1 : ∀ n ∈ d1.weights Try.prog 42, n ≤ reachBytes := fun n hn => by simpa using List.all_eq_true.1 hsz0 n (DataW.weights_mem_each (j := 1) (t := 42) (d := d1) rfl rfl n hn)
  obtain ⟨l1, rd1, ln1, ok1⟩ := open_opxs hf1 z1
  obtain ⟨a2, len2, cap2, rfl⟩ := okWide_slice Try.underlying48 (hval 2 48 v2 rfl rfl)
  obtain ⟨fuel2, hf2⟩ := h2
  have z2 : ∀ n ∈ d2.weights Try.prog 48, n ≤ reachBytes := fun n hn => by simpa using List.all_eq_true.1 hsz0 n (DataW.weights_mem_each (j := 2) (t := 48) (d := d2) rfl rfl n hn)
  obtain ⟨l2, rd2, ln2, ok2⟩ := open_wrz (v := .slice a2 len2 cap2) hf2 z2
  obtain ⟨a3, rfl, rfl, rfl, w3⟩ := open_string Try.underlying9 (hval 3 9 v3 rfl rfl) h3
  obtain ⟨a4, len4, cap4, rfl⟩ := okWide_slice Try.underlying35 (hval 4 35 v4 rfl rfl)
  obtain ⟨fuel4, hf4⟩ := h4
  obtain ⟨l4, rd4, bd4⟩ := open_ints (v := .slice a4 len4 cap4) hf4
  clear hA0
  simp only [List.append_nil] at hW'
  refine (walk a0 (.slice a1 len1 cap1) l1 (.slice a2 len2 cap2) l2 a3 (.slice a4 len4 cap4) l4 W (wf_bd w0).1 (wf_bd w0).2 rd1 ln1 ok1 rd2 ln2 ok2 w3 rd4 bd4).mono fun e W' ⟨he, bel⟩ => ?_
  subst he
  exact ⟨_, rfl, _, _, _, [], _, [], hW', trodAll_mk1 (shut_bool Try.underlying4 _), (trodAll_cons_mk (Below.trod laidOut (by kernel_rfl) (of_decide_eq_true (by kernel_rfl)) k0 bel lt0) (trodAll_cons_mk (Below.trod laidOut (by kernel_rfl) (of_decide_eq_true (by kernel_rfl)) k1 bel lt1) (trodAll_cons_mk (Below.trod laidOut (by kernel_rfl) (of_decide_eq_true (by kernel_rfl)) k2 bel lt2) (trodAll_cons_mk (Below.trod laidOut (by kernel_rfl) (of_decide_eq_true (by kernel_rfl)) k3 bel lt3) (trodAll_cons_mk (Below.trod laidOut (by kernel_rfl) (of_decide_eq_true (by kernel_rfl)) k4 bel lt4) trodAll_mk0))))), rfl, bel.frame _, fun h => by cases h⟩

set_option maxRecDepth 100000 in
theorem lifted (os : Os) (started : os.Started) (H : Type) (enc : TypeId × Value → H) :
    ReturnsInHanded {} Try.checked os 5 .any (Rows.walKeptSpec.pre6 enc Try.prog Try.f5 Rows.walKeptRow.domain false) (Rows.walKeptSpec.post enc Try.prog Try.f5 false true false false) := by
  refine returnsInHanded_of_change_sized (C := Try.checked) own started (by kernel_rfl) Try.func5
    (ChangeSpec.witness6 (enc := enc) (C := Try.checked) false ⟨#[], #[.int .i64 0, .slice none 0 0, .slice none 0 0, .string .empty, .slice none 0 0], []⟩ 8 (by kernel_rfl) (by kernel_rfl) (by kernel_rfl) (by kernel_rfl)) ?_
  intro W base args ds gs before hval hW _ hsz _
  exact contract H enc W base args ds gs before hval hW hsz

theorem holds : Rows.WalKeptSaid :=
  OpenClaim.holds_of_wide 5 Try.f5 rfl rfl rfl rfl rfl rfl rfl ⟨rfl, rfl, rfl, rfl, rfl⟩ rfl rfl rfl rfl rfl (by kernel_rfl) Try.func5 (by kernel_rfl)
    (of_decide_eq_true (by kernel_rfl)) (by unfold Func.isWrapper; first | (rw [if_pos (by decide +kernel)]; kernel_rfl) | (rw [if_neg (by decide +kernel)]; exact ⟨rfl, rfl⟩))
    (fun os started H enc _ => lifted os started H enc)
end Go.Proofs.Ytblhmfkohbdmeaa.walKept
namespace Go.Proofs.Ytblhmfkohbdmeaa
theorem walKept_holds : Rows.WalKeptSaid := walKept.holds
#print axioms walKept_holds
end Go.Proofs.Ytblhmfkohbdmeaa
