/-
  A text takes another one's place: replace.
-/
import Derived.Test.YtkmdjhdininimaaShG
namespace Go.Proofs.Ytkmdjhdininimaa
open Go.RowKit Go.Maps

/-- Where a place begins. -/
def DevS.pat (s : DevS) (i : Nat) : Nat := if i = 0 then 1 else 1 + s.each
/-- Steps, as far as they go. -/
def thn (r : Int × DevS) (f : DevS → Int × DevS) : Int × DevS := if r.1 = 0 then f r.2 else r
def repS (s : DevS) (l : List UInt8) : Int × DevS :=
  thn (wrS s.settle (s.settle.pat (1 - hPl (s.readAt 0))) (secs l)) fun s2 => thn s2.sync fun s3 => thn (s3.write 0 (mk (hdS (1 - hPl (s.readAt 0)) l.length))) fun s4 => s4.sync
theorem thn_ok {r : Int × DevS} {f : DevS → Int × DevS} (h : r.1 = 0) : thn r f = f r.2 := if_pos h
theorem thn_no {r : Int × DevS} {f : DevS → Int × DevS} (h : r.1 ≠ 0) : thn r f = r := if_neg h
theorem rt_ok {x : Int} (h : x = 0) : rt x = .returned (.tuple #[]) := if_pos h
theorem rt_no {x : Int} (h : x ≠ 0) : rt x = thr x := if_neg h
theorem must_any (x : Int) (w : World) : Calls Try.prog 54 #[.int .i64 x] w fun e w' => e = rt x ∧ w' = w := by
  by_cases h : x = 0
  · subst h; rw [rt_ok rfl]; exact must_ok w
  · rw [rt_no h]; exact must_bad x h w

theorem fldH (a b : Value) (W : World) : (Instr.field 68 (.agg #[a, b]) 0).run Try.prog W = .ok a W := by
  simp [Instr.field, go_sem, asAgg]
theorem idxP0 (a b : Value) (W : World) : (Instr.index 87 (.agg #[a, b]) (.int .i64 0)).run Try.prog W = .ok a W := by
  simp [Instr.index, go_sem, asIntOf]
theorem idxP1 (a b : Value) (W : World) : (Instr.index 87 (.agg #[a, b]) (.int .i64 1)).run Try.prog W = .ok b W := by
  simp [Instr.index, go_sem, asIntOf]
set_option maxRecDepth 20000 in
set_option maxHeartbeats 1000000 in
theorem replace_any {w : World} {q p bs bw : Nat} {s : DevS} {age : Int} {lost : Bool} (h : IsDev w p bs bw s) (hs : SB w q p age lost) (hu : s.up = true) (hk : HdOk s (s.readAt 0)) (l : List UInt8) (hl : l.length ≤ 40000) :
    Calls Try.prog 49 #[.pointer (some ⟨q, 0, none⟩), .string (mk l)] w fun e w' => e = rt (repS s l).1 ∧ IsDev w' p bs bw (repS s l).2 ∧ Only [p, bs, bw] w w' := by
  have hap := hs.apart h
  have hfd := fldH
  have hi0 := idxP0
  have hi1 := idxP1
  have cT := settled_ok h hs hu hk
  have HR : Hid (repS s l = thn (wrS s.settle (s.settle.pat (1 - hPl (s.readAt 0))) (secs l)) fun s2 => thn s2.sync fun s3 => thn (s3.write 0 (mk (hdS (1 - hPl (s.readAt 0)) l.length))) fun s4 => s4.sync) := rfl
  have hpl := hk.pl
  have hsl := mks l
  generalize repS s l = R at *
  clear hu hk
  generalize hPl (s.readAt 0) = pl at *
  generalize hLn (s.readAt 0) = ln at *
  generalize s.settle = s1 at *
  obtain rfl | rfl : pl = 0 ∨ pl = 1 := by omega
  · have hpe : s1.pat 1 = 1 + s1.each := rfl
    rw [show 1 - 0 = 1 from rfl, hpe] at HR
    go_enter Try.func49, Try.ntmps49
    go_wp2_with fail
    refine cT.mono ?_
    rintro e w1 ⟨rfl, hd1, ho1⟩
    have hs1 := hs.only ho1 hap
    have hec := each_le hd1
    have cP := places_any hd1 hs1
    clear cT
    go_wp2_with fail
    refine cP.mono ?_
    rintro e w2 ⟨rfl, hb2⟩
    have hd2 := hd1.below hb2
    have hs2 := hs1.below hb2
    have ho2 : Only [p, bs, bw] w w2 := ho1.trans (Only.of_below hb2)
    have cF := fill_any hd2 hs2 (1 + s1.each) (by omega) l hl
    rw [show ((1 + s1.each : Nat) : Int) = 1 + (s1.each : Int) by omega] at cF
    generalize s1.each = ec at *
    generalize wrS s1 (1 + ec) (secs l) = r2 at *
    obtain ⟨x2, d2⟩ := r2
    simp only at cF
    clear cP
    by_cases hx2 : x2 = 0
    · subst hx2
      rw [rt_ok rfl] at cF
      rw [thn_ok rfl] at HR
      simp only at HR
      go_wp2_with fail
      refine cF.mono ?_
      rintro e w3 ⟨rfl, hd3, ho3⟩
      have hs3 := hs2.only ho3 hap
      have ho3' := ho2.trans ho3
      have cS := sync_all hd3
      obtain ⟨c3, -, -, -⟩ := hs3.cells
      generalize d2.sync = r3 at *
      obtain ⟨x3, d3⟩ := r3
      simp only at cS
      clear cF
      by_cases hx3 : x3 = 0
      · subst hx3
        rw [thn_ok rfl] at HR
        simp only at HR
        go_wp2_with fail
        refine cS.mono ?_
        rintro e w4 ⟨rfl, hd4, ho4⟩
        have hs4 := hs3.only ho4 hap
        have ho4' := ho3'.trans ho4
        clear cS c3
        go_wp2_with fail
        refine (must_ok _).mono ?_
        rintro e w5 ⟨rfl, rfl⟩
        have cB := bytes_any 1 l.length (by decide) (by omega) w5
        go_wp2_with fail
        refine cB.mono ?_
        rintro e w6 ⟨rfl, hb6⟩
        have hd6 := hd4.below hb6
        have hs6 := hs4.below hb6
        have ho6 : Only [p, bs, bw] w w6 := ho4'.trans (Only.of_below hb6)
        have cW := swrite_any hd6 hs6 0 (hdS 1 l.length) rfl
        generalize d3.write 0 (mk (hdS 1 l.length)) = r4 at *
        obtain ⟨x4, d4⟩ := r4
        simp only at cW
        clear cB
        by_cases hx4 : x4 = 0
        · subst hx4
          rw [if_pos rfl] at cW
          rw [thn_ok rfl] at HR
          simp only at HR
          go_wp2_with fail
          refine cW.mono ?_
          rintro e w7 ⟨rfl, hd7, ho7⟩
          have hs7 := hs6.only ho7 hap
          have ho7' := ho6.trans ho7
          have cS := sync_all hd7
          obtain ⟨c7, -, -, -⟩ := hs7.cells
          generalize d4.sync = r5 at *
          obtain ⟨x5, d5⟩ := r5
          simp only at cS
          clear cW
          go_wp2_with fail
          refine cS.mono ?_
          rintro e w8 ⟨rfl, hd8, ho8⟩
          have ho8' := ho7'.trans ho8
          by_cases hx5 : x5 = 0
          · subst hx5
            go_wp2_with fail
            refine (must_ok _).mono ?_
            rintro e w9 ⟨rfl, rfl⟩
            go_wp2_with fail
            go_end0
            rw [HR.out]
            exact ⟨rfl, hd8, ho8'⟩
          · have cM := must_bad x5 hx5 w8
            have HE : Hid (thr x5 = rt x5) := (rt_no hx5).symm
            unfold thr at cM
            go_wp2_with (go_at_call 54; refine cM.mono ?_; rintro e w9 ⟨rfl, rfl⟩)
            refine ⟨rfl, ?_⟩
            show _ = rt _ ∧ _
            rw [HR.out]
            exact ⟨HE.out, hd8, ho8'⟩
        · rw [if_neg hx4] at cW
          rw [thn_no hx4] at HR
          have HE : Hid (thr x4 = rt x4) := (rt_no hx4).symm
          unfold thr at cW
          go_wp2_with (go_at_call 66; refine cW.mono ?_; rintro e w7 ⟨rfl, hd7, ho7⟩)
          refine ⟨rfl, ?_⟩
          show _ = rt _ ∧ _
          rw [HR.out]
          exact ⟨HE.out, hd7, ho6.trans ho7⟩
      · rw [thn_no hx3] at HR
        go_wp2_with fail
        refine cS.mono ?_
        rintro e w4 ⟨rfl, hd4, ho4⟩
        have cM := must_bad x3 hx3 w4
        have HE : Hid (thr x3 = rt x3) := (rt_no hx3).symm
        unfold thr at cM
        go_wp2_with (go_at_call 54; refine cM.mono ?_; rintro e w9 ⟨rfl, rfl⟩)
        refine ⟨rfl, ?_⟩
        show _ = rt _ ∧ _
        rw [HR.out]
        exact ⟨HE.out, hd4, ho3'.trans ho4⟩
    · rw [thn_no hx2] at HR
      have HE : Hid (thr x2 = rt x2) := (rt_no hx2).symm
      rw [rt_no hx2] at cF
      unfold thr at cF
      go_wp2_with (go_at_call 65; refine cF.mono ?_; rintro e w3 ⟨rfl, hd3, ho3⟩)
      refine ⟨rfl, ?_⟩
      show _ = rt _ ∧ _
      rw [HR.out]
      exact ⟨HE.out, hd3, ho2.trans ho3⟩
  · have hpe : s1.pat 0 = 1 := rfl
    rw [show 1 - 1 = 0 from rfl, hpe] at HR
    go_enter Try.func49, Try.ntmps49
    go_wp2_with fail
    refine cT.mono ?_
    rintro e w1 ⟨rfl, hd1, ho1⟩
    have hs1 := hs.only ho1 hap
    have hec := each_le hd1
    have cP := places_any hd1 hs1
    clear cT
    go_wp2_with fail
    refine cP.mono ?_
    rintro e w2 ⟨rfl, hb2⟩
    have hd2 := hd1.below hb2
    have hs2 := hs1.below hb2
    have ho2 : Only [p, bs, bw] w w2 := ho1.trans (Only.of_below hb2)
    have cF := fill_any hd2 hs2 (1) (by omega) l hl
    rw [show ((1 : Nat) : Int) = 1 by rfl] at cF
    generalize s1.each = ec at *
    generalize wrS s1 (1) (secs l) = r2 at *
    obtain ⟨x2, d2⟩ := r2
    simp only at cF
    clear cP
    by_cases hx2 : x2 = 0
    · subst hx2
      rw [rt_ok rfl] at cF
      rw [thn_ok rfl] at HR
      simp only at HR
      go_wp2_with fail
      refine cF.mono ?_
      rintro e w3 ⟨rfl, hd3, ho3⟩
      have hs3 := hs2.only ho3 hap
      have ho3' := ho2.trans ho3
      have cS := sync_all hd3
      obtain ⟨c3, -, -, -⟩ := hs3.cells
      generalize d2.sync = r3 at *
      obtain ⟨x3, d3⟩ := r3
      simp only at cS
      clear cF
      by_cases hx3 : x3 = 0
      · subst hx3
        rw [thn_ok rfl] at HR
        simp only at HR
        go_wp2_with fail
        refine cS.mono ?_
        rintro e w4 ⟨rfl, hd4, ho4⟩
        have hs4 := hs3.only ho4 hap
        have ho4' := ho3'.trans ho4
        clear cS c3
        go_wp2_with fail
        refine (must_ok _).mono ?_
        rintro e w5 ⟨rfl, rfl⟩
        have cB := bytes_any 0 l.length (by decide) (by omega) w5
        go_wp2_with fail
        refine cB.mono ?_
        rintro e w6 ⟨rfl, hb6⟩
        have hd6 := hd4.below hb6
        have hs6 := hs4.below hb6
        have ho6 : Only [p, bs, bw] w w6 := ho4'.trans (Only.of_below hb6)
        have cW := swrite_any hd6 hs6 0 (hdS 0 l.length) rfl
        generalize d3.write 0 (mk (hdS 0 l.length)) = r4 at *
        obtain ⟨x4, d4⟩ := r4
        simp only at cW
        clear cB
        by_cases hx4 : x4 = 0
        · subst hx4
          rw [if_pos rfl] at cW
          rw [thn_ok rfl] at HR
          simp only at HR
          go_wp2_with fail
          refine cW.mono ?_
          rintro e w7 ⟨rfl, hd7, ho7⟩
          have hs7 := hs6.only ho7 hap
          have ho7' := ho6.trans ho7
          have cS := sync_all hd7
          obtain ⟨c7, -, -, -⟩ := hs7.cells
          generalize d4.sync = r5 at *
          obtain ⟨x5, d5⟩ := r5
          simp only at cS
          clear cW
          go_wp2_with fail
          refine cS.mono ?_
          rintro e w8 ⟨rfl, hd8, ho8⟩
          have ho8' := ho7'.trans ho8
          by_cases hx5 : x5 = 0
          · subst hx5
            go_wp2_with fail
            refine (must_ok _).mono ?_
            rintro e w9 ⟨rfl, rfl⟩
            go_wp2_with fail
            go_end0
            rw [HR.out]
            exact ⟨rfl, hd8, ho8'⟩
          · have cM := must_bad x5 hx5 w8
            have HE : Hid (thr x5 = rt x5) := (rt_no hx5).symm
            unfold thr at cM
            go_wp2_with (go_at_call 54; refine cM.mono ?_; rintro e w9 ⟨rfl, rfl⟩)
            refine ⟨rfl, ?_⟩
            show _ = rt _ ∧ _
            rw [HR.out]
            exact ⟨HE.out, hd8, ho8'⟩
        · rw [if_neg hx4] at cW
          rw [thn_no hx4] at HR
          have HE : Hid (thr x4 = rt x4) := (rt_no hx4).symm
          unfold thr at cW
          go_wp2_with (go_at_call 66; refine cW.mono ?_; rintro e w7 ⟨rfl, hd7, ho7⟩)
          refine ⟨rfl, ?_⟩
          show _ = rt _ ∧ _
          rw [HR.out]
          exact ⟨HE.out, hd7, ho6.trans ho7⟩
      · rw [thn_no hx3] at HR
        go_wp2_with fail
        refine cS.mono ?_
        rintro e w4 ⟨rfl, hd4, ho4⟩
        have cM := must_bad x3 hx3 w4
        have HE : Hid (thr x3 = rt x3) := (rt_no hx3).symm
        unfold thr at cM
        go_wp2_with (go_at_call 54; refine cM.mono ?_; rintro e w9 ⟨rfl, rfl⟩)
        refine ⟨rfl, ?_⟩
        show _ = rt _ ∧ _
        rw [HR.out]
        exact ⟨HE.out, hd4, ho3'.trans ho4⟩
    · rw [thn_no hx2] at HR
      have HE : Hid (thr x2 = rt x2) := (rt_no hx2).symm
      rw [rt_no hx2] at cF
      unfold thr at cF
      go_wp2_with (go_at_call 65; refine cF.mono ?_; rintro e w3 ⟨rfl, hd3, ho3⟩)
      refine ⟨rfl, ?_⟩
      show _ = rt _ ∧ _
      rw [HR.out]
      exact ⟨HE.out, hd3, ho2.trans ho3⟩
end Go.Proofs.Ytkmdjhdininimaa
