/-
  crashes.
-/
import Derived.Test.YtblhmfkohbdmeaaWLawO
namespace Go.Proofs.Ytblhmfkohbdmeaa
open Go.RowKit Go.Maps

/-- At v lies a list of ints. -/
def RdI (W : World) (v : Value) (l : List Int) : Prop :=
  ∃ ao cp, v = .slice ao l.length cp ∧ ∀ (i : Nat) (o : Int), l[i]? = some o → ∃ b off, ao = some ⟨b, off, none⟩ ∧ b < W.heap.size ∧ W.cell? ⟨b, off + i, none⟩ = some (.int .i64 o)

theorem wrap_ne (a : Int) : wrap64 (a + 1) ≠ a := by unfold wrap64; omega

/-- The device was used. -/
theorem IsPa.stepD {W0 W W' : World} {A : PA} {wl pl : Bool} {s s' : DevS} {ja : Int} {M : Nat → List ByteArray} {vl : Value} {late : List WrD} (h : IsPa W0 W A wl pl s ja M vl late) (hd : IsDev W' A.p A.bs A.bw s') (ho : Only [A.p, A.bs, A.bw] W W') (hn : s'.n = s.n) : IsPa W0 W' A wl pl s' ja M vl late :=
  h.step hd (h.wal.kept ho (h.wal.apart h.dev)) (ho.mono (by simp)) hn

section
variable {W0 W : World} {A : PA} {pl : Bool} {s : DevS} {M : Nat → List ByteArray} {vl vc : Value} {late : List WrD} {B : Nat} {cuts : List Int} {mask : ByteArray}

set_option maxRecDepth 20000 in
set_option maxHeartbeats 4000000 in
/-- Behind crashes the pair is up, and not lost. -/
theorem crashes_up (h : IsP W0 W A pl pl s M vl late) (hI : PI A.N pl s M late B) (hB : B ≤ 4000000000000) (hm : mask.size ≤ maxLen) (hvc : ∀ W, Below W0.heap.size W0 W → RdI W vc cuts) (hcb : ∀ c ∈ cuts, -9223372036854775808 ≤ c ∧ c ≤ 9223372036854775807) :
    Calls Try.prog 26 #[.pointer (some ⟨A.q, 0, none⟩), .string mask, vc] W fun e w' => e = .returned (.bool true) ∧ ∃ r s' M', IsP W0 w' { A with r := r } false false s' M' (.slice none 0 0) [] ∧ PI A.N false s' M' [] B ∧ s'.up = true := by
  obtain ⟨aoC, cpC, rfl, _⟩ := hvc W h.b

  obtain ⟨y, hR, hy⟩ := hI.cr mask.data.toList
  have hyy : CaseA A.N M y ∨ CaseB A.N M late y := hy
  have hlo := h.lo
  have hrl := h.lr
  have hrlt := heap_lt h.wal
  obtain ⟨c0, c1, c2, c3, c4⟩ := h.cells
  have cX := crash_any h.dev mask hm
  have HI : Hid (PI A.N pl s M late B) := hI
  clear hI hy
  go_enter Try.func26, Try.ntmps26
  go_wp2_with fail
  refine cX.mono ?_
  rintro e w1 ⟨rfl, hd1, ho1⟩
  have hw1 : IsWal w1 A.r A.p s.age pl := h.wal.kept ho1 (h.wal.apart h.dev)
  have hP1 : IsPa W0 w1 A pl pl (s.crashed mask.data.toList) s.age M vl late := h.step hd1 hw1 (ho1.mono (by simp)) rfl
  have hrd : ∀ b, rdy (s.crashed mask.data.toList) s.age b = false := fun b => by
    have : (s.crashed mask.data.toList).age ≠ s.age := wrap_ne s.age
    unfold rdy
    simp [this]
  have hf1 : (s.crashed mask.data.toList).fuse = -1 := rfl
  generalize s.crashed mask.data.toList = s1 at *
  clear cX h hd1 ho1 hw1 c0 c1 c2 c3 c4
  have cR := wread_down hP1.wal hP1.dev 0 (hrd pl)
  go_wp2_with fail
  refine cR.mono ?_
  rintro e w2 ⟨rfl, hw2, hd2, ho2⟩
  have hP2 := hP1.step hd2 hw2 ho2 rfl
  clear cR hP1 hw2 hd2 ho2
  have cC := commit_down hP2.wal hP2.dev (.slice none 0 0) (hrd true)
  go_wp2_with fail
  refine cC.mono ?_
  rintro e w3 ⟨rfl, hw3, hd3, ho3⟩
  have hP3 : IsPa W0 w3 A true pl s1 s.age M vl late := hP2.step hd3 hw3 ho3 rfl
  clear cC hP2 hw3 hd3 ho3 hrd
  have hrlt3 := heap_lt hP3.wal
  go_wp2_with fail
  go_loopw [11] (fun i wr => ∃ (k : Nat) (t : DevS), k ≤ cuts.length ∧ k ≤ 4 ∧ i = .int .i64 (k : Int) ∧ IsPa W0 wr A true pl t s.age M vl late ∧ Rest A.N t y ∧ t.fuse = -1) (fun i _ => 4 - (intOf i).toNat)
  case atStart => exact ⟨0, s1, Nat.zero_le _, by omega, rfl, hP3, hR, hf1⟩
  case round =>
    obtain ⟨k, t, hk, hk4, rfl, hP, hRt, hft⟩ := hrel
    clear hP3 hR hf1
    obtain ⟨c0, c1, c2, c3, c4⟩ := hP.cells
    by_cases hgo : k < cuts.length ∧ k < 4
    · obtain ⟨g1, g2⟩ := hgo
      have g1' : (k : Int) < (cuts.length : Int) := by omega
      have g2' : (k : Int) < 4 := by omega
      obtain ⟨_, _, ee, hop⟩ := hvc wr hP.b
      obtain ⟨b, off, hbo, hbl, e0⟩ := hop k cuts[k] (by simp [g1])
      cases ee
      subst hbo
      obtain ⟨b0, b1⟩ := hcb cuts[k] (List.getElem_mem g1)
      have hpk := pickI_bd cuts[k] 40 (by omega)
      obtain ⟨n, hn⟩ := Int.eq_ofNat_of_zero_le hpk.1
      have hPd : IsPa W0 wr.drew A true pl t s.age M vl late := hP.below (Below.refl _ _).drew
      have cP := pick_any cuts[k] 40 wr.drew b0 b1 (by omega) (by omega)
      rw [hn] at cP hpk
      have cF := fuse_ok hPd.dev (n : Int) (by omega) (by omega)
      have HPd : Hid (IsPa W0 wr.drew A true pl t s.age M vl late) := hPd
      have HVC : Hid (∀ W, Below W0.heap.size W0 W → W.cell? ⟨b, off + k, none⟩ = some (.int .i64 cuts[k])) := fun W hW => by
        obtain ⟨_, _, ee, hop⟩ := hvc W hW
        obtain ⟨b, off, hbo, hbl, e0⟩ := hop k cuts[k] (by simp [g1])
        cases ee
        cases hbo
        exact e0
      have hS0 : wr.cell? ⟨A.q, 0, none⟩ = some (.pointer (some ⟨A.p, 0, none⟩)) ∧ wr.cell? ⟨b, off + k, none⟩ = some (.int .i64 cuts[k]) := ⟨c0, e0⟩
      clear hop hP hPd b0 b1 hn
      generalize cuts[k] = ck at *
      go_wp2_with fail
      clear c0 c1 c2 c3 c4 e0
      go_region_held3 (fun W => W.cell? ⟨A.q, 0, none⟩ = some (.pointer (some ⟨A.p, 0, none⟩)) ∧ W.cell? ⟨b, off + k, none⟩ = some (.int .i64 ck)) (first | assumption | go_keep)
        (first
          | (go_at_call 9; refine cP.mono ?_; rintro e w' ⟨rfl, hw⟩; rw [hw]; clear hw w')
          | (go_at_call 15; refine cF.mono ?_; rintro e w5 ⟨rfl, hd5, ho5⟩; have hP5 := HPd.out.stepD hd5 (ho5.mono (by simp)) rfl; have hS5 : w5.cell? ⟨A.q, 0, none⟩ = some (.pointer (some ⟨A.p, 0, none⟩)) ∧ w5.cell? ⟨b, off + k, none⟩ = some (.int .i64 ck) := ⟨hP5.cells.1, HVC.out w5 hP5.b⟩))
      have c0 := hS5.1
      have cO := wopen_any hP5.dev (hRt.fuse (n : Int)) (by have := hP5.n; omega)
      clear hS0 hS5 cP cF HPd hd5 ho5
      go_wp2_with fail
      refine cO.mono ?_
      rintro e w6 ⟨s', hd6, ho6, hO6, he6⟩
      have hP6 := hP5.stepD hd6 ho6 (hO6.n.trans hP5.n.symm)
      have c0 := hP6.cells.1
      have cX := crash_any hd6 mask hm
      have HX : Hid (∀ w7, IsDev w7 A.p A.bs A.bw (s'.crashed mask.data.toList) → Only [A.p, A.bs, A.bw] w6 w7 → IsPa W0 w7 A true pl (s'.crashed mask.data.toList) s.age M vl late ∧ Rest A.N (s'.crashed mask.data.toList) y ∧ (s'.crashed mask.data.toList).fuse = -1) := fun w7 hd ho => ⟨hP6.stepD hd ho rfl, hO6.rest _, rfl⟩
      clear cO hP5 hP6 hd6 ho6 hO6 hRt hft
      rcases he6 with ⟨_, rfl⟩ | ⟨r, rfl, _⟩
      · go_wp2_with fail
        refine cX.mono ?_
        rintro e w7 ⟨rfl, hd7, ho7⟩
        obtain ⟨z1, z2, z3⟩ := HX.out w7 hd7 ho7
        go_wp2_with fail
        go_roundw
        case rel => exact ⟨k + 1, _, by omega, by omega, by go_num, z1, z2, z3⟩
        case measure => simp [intOf]; omega
      · go_wp2_with fail
        refine cX.mono ?_
        rintro e w7 ⟨rfl, hd7, ho7⟩
        obtain ⟨z1, z2, z3⟩ := HX.out w7 hd7 ho7
        go_wp2_with fail
        go_roundw
        case rel => exact ⟨k + 1, _, by omega, by omega, by go_num, z1, z2, z3⟩
        case measure => simp [intOf]; omega
    · have cO := wopen_any hP.dev hRt (by have := hP.n; omega)
      have hlr := heap_lt hP.wal
      by_cases h1 : k < cuts.length
      · have h1' : (k : Int) < (cuts.length : Int) := by omega
        have h2' : ¬ (k : Int) < 4 := by omega
        clear hgo
        go_wp2_with fail
        refine cO.mono ?_
        rintro e w6 ⟨s', hd6, ho6, hO6, he6⟩
        have hP6 := hP.stepD hd6 ho6 (hO6.n.trans hP.n.symm)
        rcases he6 with ⟨hbad, _⟩ | ⟨x, rfl, hx6, hxs, hcl6, _, hf6⟩
        · exact absurd hft hbad
        have hx6' : IsWal w6 x A.p s'.age false := by rw [hO6.age]; exact hx6
        have hu6 : s'.up = true := by rw [up_of (hf6 hft)]; rfl
        have hxl : W0.heap.size ≤ x := Nat.le_trans hP.b.size (by omega)
        have hxl' : W0.heap.size ≤ x := hxl
        have hne : A.r ≠ x := by omega
        have HXK : Hid (∀ g o, A.K g = some o → g ≠ x) := fun g o hg => by
          have := heap_lt (hP.kp g o hg).1
          omega
        have cS := size_any (hx6'.kept (Only.drew [] w6) (by simp)) (hP6.below (Below.refl _ _).drew).dev
        rw [rdy_true hu6] at cS
        have hPd := hP6.below (Below.refl _ _).drew
        have hnn : ((s'.n : Int) - 25) = (A.N : Int) := by have := hP6.n; omega
        rw [hnn] at cS
        have HF : Hid (∀ w7, IsWal w7 x A.p s'.age false → IsDev w7 A.p A.bs A.bw s' → Only [x] w6.drew w7 → IsPa W0 w7 A true pl s' s.age M vl late) := fun w7 hw hd ho => hPd.stepX (hx6'.kept (Only.drew [] w6) (by simp)) hxl hne HXK.out hd (ho.mono (by simp))
        have HG : Hid (∀ w7, IsPa W0 w7 A true pl s' s.age M vl late → IsWal w7 x A.p s'.age false → Calls Try.prog 51 #[.pointer (some ⟨A.q, 0, none⟩), .pointer (some ⟨x, 0, none⟩)] w7 fun e w' => e = .returned (.bool true) ∧ IsP W0 w' { A with r := x } false false s' (fun i => [mk (y i)]) (.slice none 0 0) []) := fun w7 h7 hx7 => found_any h7 hx7 hxl hne HXK.out hu6 hcl6 hyy (fun i => Nat.le_trans (HI.out.len i) (by omega)) HI.out.ll
        have hS6 : w6.cell? ⟨A.q, 2, none⟩ = some (.slice (some ⟨A.gm, 0, none⟩) A.N A.cp) := hP6.cells.2.2.1
        have hSd : w6.drew.cell? ⟨A.q, 2, none⟩ = some (.slice (some ⟨A.gm, 0, none⟩) A.N A.cp) := hPd.cells.2.2.1
        have HL : Hid (Live A.N s' (fun i => [mk (y i)])) := ⟨hcl6.n, hcl6.hs, hcl6.hr, fun i hi => ⟨[], by rw [(hcl6.rest i hi).2]⟩, fun i hi => by rw [(hcl6.rest i hi).1]; simp⟩
        have HU : Hid (s'.up = true) := hu6
        clear cO hP hP6 hPd hd6 ho6 hO6 hx6 hx6' hcl6 hf6 hRt hft hnn hu6 c0 c1 c2 c3 c4
        go_wp2_with fail
        go_region_held3 (fun W => W.cell? ⟨A.q, 2, none⟩ = some (.slice (some ⟨A.gm, 0, none⟩) A.N A.cp)) (first | assumption | go_keep)
          (first
            | (go_at_call 18; refine cS.mono ?_; rintro e w7 ⟨rfl, hw7, hd7, ho7⟩; have hP7 := HF.out w7 hw7 hd7 ho7; have hS7 := hP7.cells.2.2.1)
            | (go_at_call 51; refine (HG.out w7 hP7 hw7).mono ?_; rintro e w8 ⟨rfl, hP8⟩; have hS8 := hP8.cells.2.2.1))
        clear hS6 hSd
        go_wp2_with fail
        go_ret
        exact ⟨rfl, x, s', _, hP8, ⟨fun _ => ⟨HL.out, rfl⟩, HL.out.cr _, fun _ => HI.out.one, HI.out.one, Nat.zero_le _⟩, HU.out⟩
      · have h1' : ¬ (k : Int) < (cuts.length : Int) := by omega
        clear hgo
        go_wp2_with fail
        refine cO.mono ?_
        rintro e w6 ⟨s', hd6, ho6, hO6, he6⟩
        have hP6 := hP.stepD hd6 ho6 (hO6.n.trans hP.n.symm)
        rcases he6 with ⟨hbad, _⟩ | ⟨x, rfl, hx6, hxs, hcl6, _, hf6⟩
        · exact absurd hft hbad
        have hx6' : IsWal w6 x A.p s'.age false := by rw [hO6.age]; exact hx6
        have hu6 : s'.up = true := by rw [up_of (hf6 hft)]; rfl
        have hxl : W0.heap.size ≤ x := Nat.le_trans hP.b.size (by omega)
        have hxl' : W0.heap.size ≤ x := hxl
        have hne : A.r ≠ x := by omega
        have HXK : Hid (∀ g o, A.K g = some o → g ≠ x) := fun g o hg => by
          have := heap_lt (hP.kp g o hg).1
          omega
        have cS := size_any (hx6'.kept (Only.drew [] w6) (by simp)) (hP6.below (Below.refl _ _).drew).dev
        rw [rdy_true hu6] at cS
        have hPd := hP6.below (Below.refl _ _).drew
        have hnn : ((s'.n : Int) - 25) = (A.N : Int) := by have := hP6.n; omega
        rw [hnn] at cS
        have HF : Hid (∀ w7, IsWal w7 x A.p s'.age false → IsDev w7 A.p A.bs A.bw s' → Only [x] w6.drew w7 → IsPa W0 w7 A true pl s' s.age M vl late) := fun w7 hw hd ho => hPd.stepX (hx6'.kept (Only.drew [] w6) (by simp)) hxl hne HXK.out hd (ho.mono (by simp))
        have HG : Hid (∀ w7, IsPa W0 w7 A true pl s' s.age M vl late → IsWal w7 x A.p s'.age false → Calls Try.prog 51 #[.pointer (some ⟨A.q, 0, none⟩), .pointer (some ⟨x, 0, none⟩)] w7 fun e w' => e = .returned (.bool true) ∧ IsP W0 w' { A with r := x } false false s' (fun i => [mk (y i)]) (.slice none 0 0) []) := fun w7 h7 hx7 => found_any h7 hx7 hxl hne HXK.out hu6 hcl6 hyy (fun i => Nat.le_trans (HI.out.len i) (by omega)) HI.out.ll
        have hS6 : w6.cell? ⟨A.q, 2, none⟩ = some (.slice (some ⟨A.gm, 0, none⟩) A.N A.cp) := hP6.cells.2.2.1
        have hSd : w6.drew.cell? ⟨A.q, 2, none⟩ = some (.slice (some ⟨A.gm, 0, none⟩) A.N A.cp) := hPd.cells.2.2.1
        have HL : Hid (Live A.N s' (fun i => [mk (y i)])) := ⟨hcl6.n, hcl6.hs, hcl6.hr, fun i hi => ⟨[], by rw [(hcl6.rest i hi).2]⟩, fun i hi => by rw [(hcl6.rest i hi).1]; simp⟩
        have HU : Hid (s'.up = true) := hu6
        clear cO hP hP6 hPd hd6 ho6 hO6 hx6 hx6' hcl6 hf6 hRt hft hnn hu6 c0 c1 c2 c3 c4
        go_wp2_with fail
        go_region_held3 (fun W => W.cell? ⟨A.q, 2, none⟩ = some (.slice (some ⟨A.gm, 0, none⟩) A.N A.cp)) (first | assumption | go_keep)
          (first
            | (go_at_call 18; refine cS.mono ?_; rintro e w7 ⟨rfl, hw7, hd7, ho7⟩; have hP7 := HF.out w7 hw7 hd7 ho7; have hS7 := hP7.cells.2.2.1)
            | (go_at_call 51; refine (HG.out w7 hP7 hw7).mono ?_; rintro e w8 ⟨rfl, hP8⟩; have hS8 := hP8.cells.2.2.1))
        clear hS6 hSd
        go_wp2_with fail
        go_ret
        exact ⟨rfl, x, s', _, hP8, ⟨fun _ => ⟨HL.out, rfl⟩, HL.out.cr _, fun _ => HI.out.one, HI.out.one, Nat.zero_le _⟩, HU.out⟩

theorem crashes_any (h : IsP W0 W A pl pl s M vl late) (hI : PI A.N pl s M late B) (hB : B ≤ 4000000000000) (hm : mask.size ≤ maxLen) (hvc : ∀ W, Below W0.heap.size W0 W → RdI W vc cuts) (hcb : ∀ c ∈ cuts, -9223372036854775808 ≤ c ∧ c ≤ 9223372036854775807) :
    Calls Try.prog 26 #[.pointer (some ⟨A.q, 0, none⟩), .string mask, vc] W fun e w' => e = .returned (.bool true) ∧ ∃ r, After W0 w' { A with r := r } B :=
  (crashes_up h hI hB hm hvc hcb).mono fun _ _ ⟨h1, r, s', M', h2, h3, _⟩ => ⟨h1, r, false, s', M', _, [], h2, h3⟩
end
end Go.Proofs.Ytblhmfkohbdmeaa
