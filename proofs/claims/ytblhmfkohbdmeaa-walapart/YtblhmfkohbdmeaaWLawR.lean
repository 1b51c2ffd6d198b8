/-
  goes.
-/
import Derived.Test.YtblhmfkohbdmeaaWLawQ
namespace Go.Proofs.Ytblhmfkohbdmeaa
open Go.RowKit Go.Maps

/-- A call of a script. -/
structure OpX where
  d : Int
  k : Int
  vl : Value
  l : List WrD
  x : ByteArray
  vc : Value
  c : List Int

/-- It may be called. -/
structure OpX.Ok (W0 : World) (o : OpX) : Prop where
  k0 : -9223372036854775808 ≤ o.k
  k1 : o.k ≤ 9223372036854775807
  x1 : o.x.size ≤ maxLen
  ll : o.l.length ≤ 5864062014800
  lo : ∀ w ∈ o.l, w.Ok
  lr : RdWr W0 o.vl o.l
  cr : RdI W0 o.vc o.c
  cb : ∀ c ∈ o.c, -9223372036854775808 ≤ c ∧ c ≤ 9223372036854775807

/-- At v lies a script. -/
def RdX (w : World) (v : Value) (l : List OpX) : Prop :=
  ∃ ao cp, v = .slice ao l.length cp ∧ ∀ (i : Nat) (o : OpX), l[i]? = some o → ∃ b off, ao = some ⟨b, off, none⟩ ∧ b < w.heap.size ∧ w.cell? ⟨b, off + i * 5, none⟩ = some (.int .i64 o.d) ∧ w.cell? ⟨b, off + i * 5 + 1, none⟩ = some (.int .i64 o.k) ∧ w.cell? ⟨b, off + i * 5 + 2, none⟩ = some o.vl ∧ w.cell? ⟨b, off + i * 5 + 3, none⟩ = some (.string o.x) ∧ w.cell? ⟨b, off + i * 5 + 4, none⟩ = some o.vc

theorem RdI.below {W W' : World} {v : Value} {l : List Int} (h : RdI W v l) (hb : Below W.heap.size W W') : RdI W' v l := by
  obtain ⟨ao, cp, h1, h2⟩ := h
  refine ⟨ao, cp, h1, fun i o ho => ?_⟩
  obtain ⟨b, off, e1, e2, e3⟩ := h2 i o ho
  exact ⟨b, off, e1, Nat.lt_of_lt_of_le e2 hb.size, (hb.cell (p := ⟨b, off + i, none⟩) e2).trans e3⟩
theorem RdX.below {W W' : World} {v : Value} {l : List OpX} (h : RdX W v l) (hb : Below W.heap.size W W') : RdX W' v l := by
  obtain ⟨ao, cp, h1, h2⟩ := h
  refine ⟨ao, cp, h1, fun i o ho => ?_⟩
  obtain ⟨b, off, e1, e2, c0, c1, c2, c3, c4⟩ := h2 i o ho
  have hc : ∀ y, W'.cell? ⟨b, y, none⟩ = W.cell? ⟨b, y, none⟩ := fun y => hb.cell (p := ⟨b, y, none⟩) e2
  exact ⟨b, off, e1, Nat.lt_of_lt_of_le e2 hb.size, (hc _).trans c0, (hc _).trans c1, (hc _).trans c2, (hc _).trans c3, (hc _).trans c4⟩

theorem After.mono {W0 W : World} {A : PA} {B B' : Nat} (h : After W0 W A B) (hB : B ≤ B') : After W0 W A B' := by
  obtain ⟨pl, s, M, vl, late, hP, hI⟩ := h
  exact ⟨pl, s, M, vl, late, hP, hI.live, hI.cr, fun i => Nat.le_trans (hI.len i) hB, Nat.le_trans hI.one hB, hI.ll⟩

theorem box_kept {W W' : World} {S : List Nat} {g : Nat} (ho : Only S W W') (hg : g < W.heap.size) (hn : g ∉ S) (y : Nat) : W'.cell? ⟨g, y, none⟩ = W.cell? ⟨g, y, none⟩ :=
  World.cell?_of_block (a := ⟨g, y, none⟩) (ho.block g hg hn)

/-- Every stages is all right. -/
def StOK (W0 : World) : Prop := ∀ (W : World) (A : PA) (B : Nat) (o : WrD), After W0 W A B → o.Ok → B ≤ 4000000000000 →
  Calls Try.prog 50 #[.pointer (some ⟨A.q, 0, none⟩), .agg #[.int .i64 o.k, .string o.x]] W fun e w' => e = .returned (.bool true) ∧ After W0 w' A (B + 1)

section
variable {W0 W : World} {A : PA} {B : Nat}

theorem commits_all {v : Value} {l : List WrD} (h : After W0 W A B) (hvb : RdWr W0 v l) (hl : l.length ≤ 5864062014800) (ho : ∀ o ∈ l, o.Ok) :
    Calls Try.prog 49 #[.pointer (some ⟨A.q, 0, none⟩), v] W fun e w' => e = .returned (.bool true) ∧ After W0 w' A B := by
  obtain ⟨pl, s, M, vl, late, hP, hI⟩ := h
  have hv : ∀ W, Below W0.heap.size W0 W → RdWr W v l := fun W h => hvb.below h rfl
  cases hd : (s.up && !pl) with
  | false => exact commits_down hP hI hv hl hd
  | true =>
    obtain ⟨hu, hp⟩ : s.up = true ∧ pl = false := by simpa using hd
    subst hp
    by_cases hE : apartE A.N l = 0
    · exact commits_go hP hI hv hl ho hu hE
    · exact commits_arg hP hI hv hl ho hu hE

set_option maxRecDepth 20000 in
set_option maxHeartbeats 4000000 in
theorem goes_any (hst : StOK W0) (h : After W0 W A B) {v : Value} {ops : List OpX} (hX : RdX W0 v ops) (hok : ∀ o ∈ ops, o.Ok W0) (hB : B + ops.length ≤ 4000000000000) :
    Calls Try.prog 24 #[.pointer (some ⟨A.q, 0, none⟩), v] W fun e w' => e = .returned (.bool true) ∧ ∃ A', (A'.q = A.q ∧ A'.K = A.K) ∧ After W0 w' A' (B + ops.length) := by
  obtain ⟨ao, cp, rfl, -⟩ := id hX
  have HX : Hid (RdX W0 (.slice ao ops.length cp) ops) := hX
  have HST : Hid (StOK W0) := hst
  have HOK : Hid (∀ o ∈ ops, o.Ok W0) := hok
  clear hX hst hok
  have hA0 : Hid (∃ A', (A'.q = A.q ∧ A'.K = A.K) ∧ After W0 W A' (B + 0)) := ⟨A, ⟨rfl, rfl⟩, h⟩
  clear h
  go_enter Try.func24, Try.ntmps24
  go_wp2_with fail
  go_loopw [5] (fun i wr => ∃ k : Nat, k ≤ ops.length ∧ i = .int .i64 (k : Int) ∧ ∃ A', (A'.q = A.q ∧ A'.K = A.K) ∧ After W0 wr A' (B + k)) (fun i _ => ops.length - (intOf i).toNat)
  case atStart => exact ⟨0, Nat.zero_le _, rfl, hA0.out⟩
  case round =>
    obtain ⟨k, hk, rfl, A', ⟨hq, hqK⟩, hAf⟩ := hrel
    clear hA0
    by_cases hlt : k < ops.length
    · have hlt' : (k : Int) < (ops.length : Int) := by omega
      obtain ⟨pl, s, M, vl, late, hP, hI⟩ := id hAf
      obtain ⟨_, _, ee, hop⟩ := HX.out.below hP.b
      obtain ⟨b, off, hbo, hbl, e0, e1, e2, e3, e4⟩ := hop k ops[k] (by simp [hlt])
      cases ee
      subst hbo
      have hOo := HOK.out ops[k] (List.getElem_mem hlt)
      clear hop HX HOK
      generalize ops[k] = o at *
      have HQ : Hid (A'.q = A.q) := hq
      have HQK : Hid (A'.K = A.K) := hqK
      have HF : Hid (∀ w7, After W0 w7 A' (B + k) → ∃ A', (A'.q = A.q ∧ A'.K = A.K) ∧ After W0 w7 A' (B + (k + 1))) := fun w7 h => ⟨A', ⟨hq, hqK⟩, h.mono (by omega)⟩
      clear hqK
      obtain ⟨aoL, cpL, hvl, ⟨hcpL, hnnL⟩, -⟩ := id hOo.lr
      obtain ⟨aoC, cpC, hvc, -⟩ := id hOo.cr
      obtain ⟨od, ok, ovl, ol, ox, ovc, oc⟩ := o
      dsimp only at *
      subst hvl hvc
      have hbA : Below wr.heap.size wr (wr.alloc (.cells #[.int .i64 od, .int .i64 ok, .slice aoL ol.length cpL, .string ox, .slice aoC oc.length cpC] 87)) := (Below.refl _ _).alloc (Nat.le_refl _) _
      have hPb := hP.below hbA
      have hAb : After W0 (wr.alloc (.cells #[.int .i64 od, .int .i64 ok, .slice aoL ol.length cpL, .string ox, .slice aoC oc.length cpC] 87)) A' (B + k) := ⟨pl, s, M, vl, late, hPb, hI⟩
      have HO : Hid _ := hOo
      have hB1 : B + k ≤ 4000000000000 := by omega
      have hlr := heap_lt hP.wal
      have hlp := hP.dev.ltp
      have hls := hP.dev.lts
      have hlw := hP.dev.ltw
      clear hP hAf hbA
      by_cases h0 : od = 0
      · subst h0
        have cC := commits_all hAb hOo.lr hOo.ll hOo.lo
        rw [hq] at cC
        clear hq hPb hI hAb hOo
        go_wp2_with fail
        refine cC.mono ?_
        rintro e w7 ⟨rfl, hA7⟩
        have hN7 := HF.out w7 hA7
        clear cC hA7
        go_wp2_with fail
        go_roundw
        case rel => exact ⟨k + 1, by omega, by go_num, hN7⟩
        case measure => simp [intOf]; omega
      by_cases h1 : od = 1
      · subst h1
        clear h0
        by_cases hne : 0 < ol.length
        · have hne' : (0 : Int) < (ol.length : Int) := by omega
          obtain ⟨_, _, ee, _, hrL⟩ := hOo.lr.below hPb.b rfl
          obtain ⟨bL, offL, hbL, hblL, f0, f1⟩ := hrL 0 ol[0] (by simp [hne])
          cases ee
          subst hbL
          simp only [Nat.zero_mul, Nat.add_zero] at f0 f1
          have cS := HST.out _ A' (B + k) ol[0] hAb (hOo.lo _ (List.getElem_mem hne)) hB1
          rw [hq] at cS
          clear hq hPb hI hAb hOo hrL
          generalize ol[0] = o at *
          go_wp2_with fail
          refine cS.mono ?_
          rintro e w7 ⟨rfl, hA7⟩
          have HN7 : Hid (∃ A', (A'.q = A.q ∧ A'.K = A.K) ∧ After W0 w7 A' (B + (k + 1))) := ⟨A', ⟨HQ.out, HQK.out⟩, hA7⟩
          clear cS hA7
          go_wp2_with fail
          go_roundw
          case rel => exact ⟨k + 1, by omega, by go_num, HN7.out⟩
          case measure => simp [intOf]; omega
        · have hne' : ¬ (0 : Int) < (ol.length : Int) := by omega
          have HN7 := HF.out _ hAb
          clear hq hPb hI hAb hOo
          go_wp2_with fail
          go_roundw
          case rel => exact ⟨k + 1, by omega, by go_num, HN7⟩
          case measure => simp [intOf]; omega
      by_cases h2 : od = 2
      · subst h2
        clear h0 h1
        have hpk := pickI_bd ok 60 (by omega)
        obtain ⟨n, hn⟩ := Int.eq_ofNat_of_zero_le hpk.1
        have hPd := hPb.below (Below.refl _ _).drew
        have cP := pick_any ok 60 (wr.alloc (.cells #[.int .i64 2, .int .i64 ok, .slice aoL ol.length cpL, .string ox, .slice aoC oc.length cpC] 87)).drew hOo.k0 hOo.k1 (by omega) (by omega)
        rw [hn] at cP hpk
        have cF := fuse_ok hPd.dev (-1 + (n : Int)) (by omega) (by omega)
        have hS0 : (wr.alloc (.cells #[.int .i64 2, .int .i64 ok, .slice aoL ol.length cpL, .string ox, .slice aoC oc.length cpC] 87)).cell? ⟨A.q, 0, none⟩ = some (.pointer (some ⟨A'.p, 0, none⟩)) ∧ (wr.alloc (.cells #[.int .i64 2, .int .i64 ok, .slice aoL ol.length cpL, .string ox, .slice aoC oc.length cpC] 87)).cell? ⟨wr.heap.size, 1, none⟩ = some (.int .i64 ok) := ⟨by rw [← hq]; exact hPb.cells.1, cell_at (heap_alloc_last wr _) 1⟩
        have hsz : wr.heap.size < (wr.alloc (.cells #[.int .i64 2, .int .i64 ok, .slice aoL ol.length cpL, .string ox, .slice aoC oc.length cpC] 87)).heap.size := by rw [World.size_alloc]; omega
        have HS5 : Hid (∀ w5, IsDev w5 A'.p A'.bs A'.bw { s with fuse := -1 + (n : Int) } → Only [A'.p] (wr.alloc (.cells #[.int .i64 2, .int .i64 ok, .slice aoL ol.length cpL, .string ox, .slice aoC oc.length cpC] 87)).drew w5 → (∃ A', (A'.q = A.q ∧ A'.K = A.K) ∧ After W0 w5 A' (B + (k + 1))) ∧ w5.cell? ⟨A.q, 0, none⟩ = some (.pointer (some ⟨A'.p, 0, none⟩)) ∧ w5.cell? ⟨wr.heap.size, 1, none⟩ = some (.int .i64 ok)) := fun w5 hd5 ho5 => by
          have hP5 := hPd.stepD hd5 (ho5.mono (by simp)) rfl
          refine ⟨HF.out _ ⟨pl, _, M, vl, late, hP5, ⟨fun h => ?_, hI.cr.fuse _, hI.len, hI.one, hI.ll⟩⟩, by rw [← hq]; exact hP5.cells.1, (box_kept ho5 hsz (by simp; omega) 1).trans hS0.2⟩
          obtain ⟨L, h2⟩ := hI.live h
          exact ⟨⟨L.n, L.hs, L.hr, L.hd, L.sf⟩, h2⟩
        have hn60 : (n : Int) < 60 := by omega
        have hadd : IntKind.i64.wrap (-1 + (n : Int)) = -1 + (n : Int) := IntWalk.i64_in _ (by omega)
        clear hq hPb hI hAb hOo hPd hn hpk hsz
        go_wp2_with fail
        go_region_held3 (fun W => W.cell? ⟨A.q, 0, none⟩ = some (.pointer (some ⟨A'.p, 0, none⟩)) ∧ W.cell? ⟨wr.heap.size, 1, none⟩ = some (.int .i64 ok)) (first | assumption | go_keep)
          (first
            | (go_at_call 9; refine cP.mono ?_; rintro e w' ⟨rfl, hw⟩; rw [hw]; clear hw w')
            | (go_at_call 15; refine cF.mono ?_; rintro e w5 ⟨rfl, hd5, ho5⟩; obtain ⟨HN7, hS5⟩ := HS5.out w5 hd5 ho5))
        clear hS0 hS5 HS5 hd5 ho5 cP cF
        go_wp2_with fail
        go_roundw
        case rel => exact ⟨k + 1, by omega, by go_num, HN7⟩
        case measure => simp [intOf]; omega
      by_cases h3 : od = 3
      · subst h3
        clear h0 h1 h2
        have hcr := hOo.cr
        have cX := crashes_any (A := A') hPb hI hB1 hOo.x1 (fun W h => hcr.below h) hOo.cb
        rw [hq] at cX
        clear hq hPb hI hAb hOo hcr
        go_wp2_with fail
        refine cX.mono ?_
        rintro e w7 ⟨rfl, r, hA7⟩
        have HN7 : Hid (∃ A', (A'.q = A.q ∧ A'.K = A.K) ∧ After W0 w7 A' (B + (k + 1))) := ⟨{ A' with q := A.q, r := r }, ⟨rfl, HQK.out⟩, hA7.mono (by omega)⟩
        clear cX hA7
        go_wp2_with fail
        go_roundw
        case rel => exact ⟨k + 1, by omega, by go_num, HN7.out⟩
        case measure => simp [intOf]; omega
      by_cases h4 : od = 4
      · subst h4
        clear h0 h1 h2 h3
        have hPd := hPb.below (Below.refl _ _).drew
        have hS0 : (wr.alloc (.cells #[.int .i64 4, .int .i64 ok, .slice aoL ol.length cpL, .string ox, .slice aoC oc.length cpC] 87)).cell? ⟨A.q, 1, none⟩ = some (.pointer (some ⟨A'.r, 0, none⟩)) ∧ (wr.alloc (.cells #[.int .i64 4, .int .i64 ok, .slice aoL ol.length cpL, .string ox, .slice aoC oc.length cpC] 87)).cell? ⟨wr.heap.size, 1, none⟩ = some (.int .i64 ok) := ⟨by rw [← hq]; exact hPb.cells.2.1, cell_at (heap_alloc_last wr _) 1⟩
        have hsz : wr.heap.size < (wr.alloc (.cells #[.int .i64 4, .int .i64 ok, .slice aoL ol.length cpL, .string ox, .slice aoC oc.length cpC] 87)).heap.size := by rw [World.size_alloc]; omega
        have ok0 := hOo.k0
        have ok1 := hOo.k1
        cases hd : (s.up && !pl) with
        | false =>
          have hrd : rdy s s.age pl = false := by
            unfold rdy
            cases hu : s.up <;> cases hp : pl <;> simp_all
          have cR := wread_down hPd.wal hPd.dev ok hrd
          have HI : Hid (PI A'.N true s M late (B + k)) := ⟨fun h => (by cases h), hI.cr, hI.len, hI.one, hI.ll⟩
          clear hI hrd
          have HS5 : Hid (∀ w5, IsWal w5 A'.r A'.p s.age true → IsDev w5 A'.p A'.bs A'.bw s → Only [A'.r, A'.p, A'.bs, A'.bw] (wr.alloc (.cells #[.int .i64 4, .int .i64 ok, .slice aoL ol.length cpL, .string ox, .slice aoC oc.length cpC] 87)).drew w5 → IsPa W0 w5 A' true pl s s.age M vl late ∧ w5.cell? ⟨A.q, 1, none⟩ = some (.pointer (some ⟨A'.r, 0, none⟩)) ∧ w5.cell? ⟨wr.heap.size, 1, none⟩ = some (.int .i64 ok)) := fun w5 hw5 hd5 ho5 => by
            have hP5 := hPd.step hd5 hw5 ho5 rfl
            exact ⟨hP5, by rw [← hq]; exact hP5.cells.2.1, (box_kept ho5 hsz (by simp; omega) 1).trans hS0.2⟩
          clear hq hPb hAb hOo hPd hsz
          go_wp2_with fail
          go_region_held3 (fun W => W.cell? ⟨A.q, 1, none⟩ = some (.pointer (some ⟨A'.r, 0, none⟩)) ∧ W.cell? ⟨wr.heap.size, 1, none⟩ = some (.int .i64 ok)) (first | assumption | go_keep)
            (first | (go_at_call 21; refine cR.mono ?_; rintro e w5 ⟨rfl, hw5, hd5, ho5⟩; obtain ⟨hP5, hS5⟩ := HS5.out w5 hw5 hd5 ho5))
          have cU := up_any hP5.dev
          obtain ⟨c0, c1, c2, c3, c4⟩ := hP5.cells
          rw [HQ.out] at c0 c1 c2 c3 c4
          have hbx := hS5.2
          clear hS0 hS5 HS5 hw5 hd5 ho5 cR
          have hz := hP5.frz 4
          rw [HQ.out] at hz
          have HN7 : Hid _ := HF.out _ ⟨true, s, M, vl, late, hP5.setLost true, HI.out⟩
          rw [HQ.out] at HN7
          clear hP5
          cases hu : s.up with
          | true =>
            rw [hu] at cU hd
            obtain rfl : pl = true := by simpa using hd
            clear hd hu
            go_wp2_with fail
            refine cU.mono ?_
            rintro e w' ⟨rfl, hw⟩
            rw [hw]
            clear hw w' cU
            go_wp2_with fail
            go_roundw
            case rel => exact ⟨k + 1, by omega, by go_num, HN7.out⟩
            case measure => simp [intOf]; omega
          | false =>
            rw [hu] at cU
            clear hd hu
            go_wp2_with fail
            refine cU.mono ?_
            rintro e w' ⟨rfl, hw⟩
            rw [hw]
            clear hw w' cU
            go_wp2_with fail
            go_roundw
            case rel => exact ⟨k + 1, by omega, by go_num, HN7.out⟩
            case measure => simp [intOf]; omega
        | true =>
          obtain ⟨hu, hp⟩ : s.up = true ∧ pl = false := by simpa using hd
          subst hp
          clear hd
          have hn := hPd.n
          have HI : Hid (PI A'.N false s M late (B + k)) := hI
          clear hI
          by_cases hneg : ok < 0
          · have cR := wread_arg hPd.wal hPd.dev ok (rdy_true hu) (by simp; omega)
            clear hn
            have HS5 : Hid (∀ w5, IsWal w5 A'.r A'.p s.age false → IsDev w5 A'.p A'.bs A'.bw s → Only [A'.r, A'.p, A'.bs, A'.bw] (wr.alloc (.cells #[.int .i64 4, .int .i64 ok, .slice aoL ol.length cpL, .string ox, .slice aoC oc.length cpC] 87)).drew w5 → IsPa W0 w5 A' false false s s.age M vl late ∧ w5.cell? ⟨A.q, 1, none⟩ = some (.pointer (some ⟨A'.r, 0, none⟩)) ∧ w5.cell? ⟨wr.heap.size, 1, none⟩ = some (.int .i64 ok)) := fun w5 hw5 hd5 ho5 => by
              have hP5 := hPd.step hd5 hw5 ho5 rfl
              exact ⟨hP5, by rw [← hq]; exact hP5.cells.2.1, (box_kept ho5 hsz (by simp; omega) 1).trans hS0.2⟩
            clear hq hPb hAb hOo hPd hsz
            go_wp2_with fail
            go_region_held3 (fun W => W.cell? ⟨A.q, 1, none⟩ = some (.pointer (some ⟨A'.r, 0, none⟩)) ∧ W.cell? ⟨wr.heap.size, 1, none⟩ = some (.int .i64 ok)) (first | assumption | go_keep)
              (first | (go_at_call 21; refine cR.mono ?_; rintro e w5 ⟨rfl, hw5, hd5, ho5⟩; obtain ⟨hP5, hS5⟩ := HS5.out w5 hw5 hd5 ho5))
            have cU := up_any hP5.dev
            obtain ⟨c0, c1, c2, c3, c4⟩ := hP5.cells
            rw [HQ.out] at c0 c1 c2 c3 c4
            have hbx := hS5.2
            clear hS0 hS5 HS5 hw5 hd5 ho5 cR
            rw [hu] at cU
            have HPq : Hid (∀ n, ∃ A', (A'.q = A.q ∧ A'.K = A.K) ∧ After W0 (w5.drewN n) A' (B + (k + 1))) := fun n => HF.out _ ⟨false, s, M, vl, late, hP5.below (Only.drewN [] w5 n).nil_below, HI.out⟩
            clear hP5 hu
            go_wp2_with fail
            refine cU.mono ?_
            rintro e w' ⟨rfl, hw⟩
            rw [hw]
            clear hw w' cU
            go_wp2_with fail
            go_quiet (fail)
            go_wp2_with fail
            go_roundw
            case rel => exact ⟨k + 1, by omega, by go_num, HPq.out _⟩
            case measure => simp [intOf]; omega
          by_cases hbig : (A'.N : Int) ≤ ok
          · have cR := wread_arg hPd.wal hPd.dev ok (rdy_true hu) (by simp; omega)
            clear hn
            have HS5 : Hid (∀ w5, IsWal w5 A'.r A'.p s.age false → IsDev w5 A'.p A'.bs A'.bw s → Only [A'.r, A'.p, A'.bs, A'.bw] (wr.alloc (.cells #[.int .i64 4, .int .i64 ok, .slice aoL ol.length cpL, .string ox, .slice aoC oc.length cpC] 87)).drew w5 → IsPa W0 w5 A' false false s s.age M vl late ∧ w5.cell? ⟨A.q, 1, none⟩ = some (.pointer (some ⟨A'.r, 0, none⟩)) ∧ w5.cell? ⟨wr.heap.size, 1, none⟩ = some (.int .i64 ok)) := fun w5 hw5 hd5 ho5 => by
              have hP5 := hPd.step hd5 hw5 ho5 rfl
              exact ⟨hP5, by rw [← hq]; exact hP5.cells.2.1, (box_kept ho5 hsz (by simp; omega) 1).trans hS0.2⟩
            clear hq hPb hAb hOo hPd hsz
            go_wp2_with fail
            go_region_held3 (fun W => W.cell? ⟨A.q, 1, none⟩ = some (.pointer (some ⟨A'.r, 0, none⟩)) ∧ W.cell? ⟨wr.heap.size, 1, none⟩ = some (.int .i64 ok)) (first | assumption | go_keep)
              (first | (go_at_call 21; refine cR.mono ?_; rintro e w5 ⟨rfl, hw5, hd5, ho5⟩; obtain ⟨hP5, hS5⟩ := HS5.out w5 hw5 hd5 ho5))
            have cU := up_any hP5.dev
            obtain ⟨c0, c1, c2, c3, c4⟩ := hP5.cells
            rw [HQ.out] at c0 c1 c2 c3 c4
            have hbx := hS5.2
            clear hS0 hS5 HS5 hw5 hd5 ho5 cR
            rw [hu] at cU
            have HPq : Hid (∀ n, ∃ A', (A'.q = A.q ∧ A'.K = A.K) ∧ After W0 (w5.drewN n) A' (B + (k + 1))) := fun n => HF.out _ ⟨false, s, M, vl, late, hP5.below (Only.drewN [] w5 n).nil_below, HI.out⟩
            clear hP5 hu
            go_wp2_with fail
            refine cU.mono ?_
            rintro e w' ⟨rfl, hw⟩
            rw [hw]
            clear hw w' cU
            go_wp2_with fail
            go_quiet (fail)
            go_wp2_with fail
            go_roundw
            case rel => exact ⟨k + 1, by omega, by go_num, HPq.out _⟩
            case measure => simp [intOf]; omega
          · obtain ⟨i, rfl⟩ := Int.eq_ofNat_of_zero_le (show 0 ≤ ok by omega)
            have cR := wread_ok hPd.wal hPd.dev i (rdy_true hu) (by omega)
            clear hn
            have HS5 : Hid (∀ w5, IsWal w5 A'.r A'.p s.age false → IsDev w5 A'.p A'.bs A'.bw s → Only [A'.r, A'.p, A'.bs, A'.bw] (wr.alloc (.cells #[.int .i64 4, .int .i64 (i : Int), .slice aoL ol.length cpL, .string ox, .slice aoC oc.length cpC] 87)).drew w5 → IsPa W0 w5 A' false false s s.age M vl late ∧ w5.cell? ⟨A.q, 1, none⟩ = some (.pointer (some ⟨A'.r, 0, none⟩)) ∧ w5.cell? ⟨wr.heap.size, 1, none⟩ = some (.int .i64 (i : Int))) := fun w5 hw5 hd5 ho5 => by
              have hP5 := hPd.step hd5 hw5 ho5 rfl
              exact ⟨hP5, by rw [← hq]; exact hP5.cells.2.1, (box_kept ho5 hsz (by simp; omega) 1).trans hS0.2⟩
            clear hq hPb hAb hOo hPd hsz
            go_wp2_with fail
            go_region_held3 (fun W => W.cell? ⟨A.q, 1, none⟩ = some (.pointer (some ⟨A'.r, 0, none⟩)) ∧ W.cell? ⟨wr.heap.size, 1, none⟩ = some (.int .i64 (i : Int))) (first | assumption | go_keep)
              (first | (go_at_call 21; refine cR.mono ?_; rintro e w5 ⟨rfl, hw5, hd5, ho5⟩; obtain ⟨hP5, hS5⟩ := HS5.out w5 hw5 hd5 ho5))
            have cU := up_any hP5.dev
            obtain ⟨c0, c1, c2, c3, c4⟩ := hP5.cells
            rw [HQ.out] at c0 c1 c2 c3 c4
            have hbx := hS5.2
            clear hS0 hS5 HS5 hw5 hd5 ho5 cR
            rw [hu] at cU
            have HPq : Hid (∀ n, ∃ A', (A'.q = A.q ∧ A'.K = A.K) ∧ After W0 (w5.drewN n) A' (B + (k + 1))) := fun n => HF.out _ ⟨false, s, M, vl, late, hP5.below (Only.drewN [] w5 n).nil_below, HI.out⟩
            clear hP5 hu
            go_wp2_with fail
            refine cU.mono ?_
            rintro e w' ⟨rfl, hw⟩
            rw [hw]
            clear hw w' cU
            go_wp2_with fail
            go_quiet (fail)
            go_wp2_with fail
            go_roundw
            case rel => exact ⟨k + 1, by omega, by go_num, HPq.out _⟩
            case measure => simp [intOf]; omega
      have HN7 := HF.out _ hAb
      have g0 : (od == 0) = false := by simpa using h0
      have g1 : (od == 1) = false := by simpa using h1
      have g2 : (od == 2) = false := by simpa using h2
      have g3 : (od == 3) = false := by simpa using h3
      have g4 : (od == 4) = false := by simpa using h4
      clear hq hPb hI hAb hOo h0 h1 h2 h3 h4
      go_wp2_with fail
      go_roundw
      case rel => exact ⟨k + 1, by omega, by go_num, HN7⟩
      case measure => simp [intOf]; omega
    · obtain rfl : k = ops.length := by omega
      have hlt' : ¬ (ops.length : Int) < (ops.length : Int) := by omega
      have HN7 : Hid (∃ A', (A'.q = A.q ∧ A'.K = A.K) ∧ After W0 wr A' (B + ops.length)) := ⟨A', ⟨hq, hqK⟩, hAf⟩
      clear hq hAf
      go_wp2_with fail
      go_ret
      exact ⟨rfl, HN7.out⟩
end
end Go.Proofs.Ytblhmfkohbdmeaa
