/-
  record: take, of a commit's pair.
-/
import Derived.Test.YtdheddgdlindmaaRcP
import Derived.Deep.RegionLaw
namespace Go.Proofs.Ytdheddgdlindmaa
open Go.ChangeShapes Go.WideShapes Go.ChangeAt Go.RowKit Go.PlainAid

theorem Try.infoCm : (Try.prog.info? 48).map (fun i => (i.zero, i.size, i.bytes)) = some (some (.agg #[.int .i64 0, .slice none 0 0, .slice none 0 0, .slice none 0 0, .int .i64 0, .int .i64 0]), 6, 96) := by kernel_rfl
theorem six_co (i j k : Int) (a1 a2 a3 : Option Addr) (n1 n2 n3 k1 k2 k3 : Nat) : ∀ u ∈ [Value.int .i64 i, .slice a1 n1 k1, .slice a2 n2 k2, .slice a3 n3 k3, .int .i64 j, .int .i64 k], u.oneCell' = true := by
  intro u hu
  simp at hu
  rcases hu with rfl | rfl | rfl | rfl | rfl | rfl <;> rfl
set_option maxRecDepth 20000 in
set_option maxHeartbeats 9000000 in
theorem take_co (g : Nat) (S : StD) (v1 v2 v3 : Value) (us : List (Value × Value × Value)) (ls : List Value) (x : PaD) (w : World) (hS : SB w g S v1 v2 v3) (hO : OwSt w (g + 1) v1 v2 v3 S us ls) (hv : x.v.size ≤ 1099511627776) (hl : S.cs.length ≤ 2000000) (h0 : x.k.size ≠ 0) (hk : bt x.k 0 = 99) :
    Calls Try.prog 32 #[.pointer (some ⟨g, 0, none⟩), .agg #[.string x.k, .string x.v]] w fun e w' => ∃ v1 v2 v3 us ls, e = .returned (.bool (tkC S x.v).2) ∧ SB w' g (tkC S x.v).1 v1 v2 v3 ∧ OwSt w' (g + 1) v1 v2 v3 (tkC S x.v).1 us ls ∧ Below g w w' := by
  obtain ⟨i0, hin, hz0, hz1, hz2⟩ := info_parts Try.infoCm
  have hvm : x.v.size ≤ maxLen := by unfold maxLen; omega
  have T0 := tk_new (x := x) hS hO
  have hb := get_bt x.k
  have c1 := fun W (h : Tk w g S v1 v2 v3 us ls x 0 false W) => rnumQ_any _ x.v 0 false W h.rq hvm
  rcases hx1 : rnF x.v 0 false with ⟨n, a1, f1⟩
  rw [hx1] at c1
  have c2 := fun W (h : Tk w g S v1 v2 v3 us ls x a1 f1 W) => rcountQ_any _ x.v a1 f1 W h.rq hv
  rcases hx2 : rcF x.v a1 f1 with ⟨ps, a2, f2⟩
  rw [hx2] at c2
  have c3 := fun W (h : Tk w g S v1 v2 v3 us ls x a2 f2 W) => rdeltaQ_any _ x.v a2 f2 W h.rq hvm
  rcases hx3 : rdF x.v a2 f2 with ⟨d, a3, f3⟩
  rw [hx3] at c3
  have c4 := fun W (h : Tk w g S v1 v2 v3 us ls x a3 f3 W) => rdeltaQ_any _ x.v a3 f3 W h.rq hvm
  rcases hx4 : rdF x.v a3 f3 with ⟨o, a4, f4⟩
  rw [hx4] at c4
  have c5 := fun W (h : Tk w g S v1 v2 v3 us ls x a4 f4 W) => rnumQ_any _ x.v a4 f4 W h.rq hvm
  rcases hx5 : rnF x.v a4 f4 with ⟨c, a5, f5⟩
  rw [hx5] at c5
  have c6 := fun W (h : Tk w g S v1 v2 v3 us ls x a5 f5 W) => rnumQ_any _ x.v a5 f5 W h.rq hvm
  rcases hx6 : rnF x.v a5 f5 with ⟨q, a6, f6⟩
  rw [hx6] at c6
  have HC : tkC S x.v = (⟨S.nc, S.nb, S.cs ++ [⟨n, ps, d, o, c, q⟩], S.bs, S.us⟩, !f6 && decide (a6 = x.v.size)) := by unfold tkC; simp only [hx1, hx2, hx3, hx4, hx5, hx6]
  rw [HC]
  simp only at c1 c2 c3 c4 c5 c6 ⊢
  clear hx1 hx2 hx3 hx4 hx5 hx6 HC
  have hpos : (0 : Int) < (x.k.size : Int) := by omega
  have hne : x.k.toList.isEmpty = false := by
    rw [Go.ByteArray.toList_eq]
    cases h : x.k.data.toList with
    | nil => exact absurd (by rw [← data_len, h]; rfl) h0
    | cons => rfl
  have hpb := heap_alloc_new w (.cells #[.string x.k, .string x.v] 44)
  have p0 : (w.alloc (.cells #[.string x.k, .string x.v] 44)).cell? ⟨w.heap.size, 0, none⟩ = some (.string x.k) := cell_of_row _ _ 0 _ _ (0, 0) hpb
  have p1 : (w.alloc (.cells #[.string x.k, .string x.v] 44)).cell? ⟨w.heap.size, 1, none⟩ = some (.string x.v) := cell_of_row _ _ 1 _ _ (0, 0) hpb
  have p2 := cell_of_row _ _ 0 _ _ (0, 0) T0.pb
  clear hpb
  go_enter Try.func32, Try.ntmps32
  go_upto_region 9 with fail
  generalize hW0 : (w.alloc (.cells #[.string x.k, .string x.v] 44)).alloc (.cells #[.string x.v, .int .i64 0, .bool false] 98) = W0 at *
  have TD := T0.below (Below.drew (Below.refl _ W0))
  obtain ⟨av, kv, rfl⟩ := own_form hO.c.row
  obtain ⟨y0, y1, y2, y3, y4⟩ := cellsSB TD.sb
  clear T0 p2 hS hO hb p0 p1 hW0
  go_region_law (first
    | (have hh := T5; go_simp; go_at_call 59; refine (c6 _ T5).mono ?_; rintro e w6 ⟨rfl, hr6, hg6⟩; have T6 := T5.call hr6 hg6; obtain ⟨xf0, xf1, xf2, xf3, xf4⟩ := cellsSB T6.sb; have hU1 := rk_box T5.rq hg6 _ _ _ _ _ _ (by decide) hT1; have hU2 := rk_box T5.rq hg6 _ _ _ _ _ _ (by decide) hT2; have hU3 := rk_box T5.rq hg6 _ _ _ _ _ _ (by decide) hT3; have hal := alloc_bR w6 (.cells #[.int .i64 n, .slice u1a ps.length u1k, .slice u2a d.length u2k, .slice u3a o.length u3k, .int .i64 c, .int .i64 q] 48); have T7 := T6.below hal; obtain ⟨t0, t1, t2, t3, t4⟩ := cellsSB T7.sb; have hV1 := own_belowG hU1 hal; have hV2 := own_belowG hU2 hal; have hV3 := own_belowG hU3 hal)
    | (have hh := T4; go_simp; go_at_call 59; refine (c5 _ T4).mono ?_; rintro e w5 ⟨rfl, hr5, hg5⟩; have T5 := T4.call hr5 hg5; obtain ⟨xe0, xe1, xe2, xe3, xe4⟩ := cellsSB T5.sb; have hT1 := rk_box T4.rq hg5 _ _ _ _ _ _ (by decide) hS1; have hT2 := rk_box T4.rq hg5 _ _ _ _ _ _ (by decide) hS2; have hT3 := rk_box T4.rq hg5 _ _ _ _ _ _ (by decide) hS3)
    | (have hh := T3; go_simp; go_at_call 62; refine (c4 _ T3).mono ?_; rintro e w4 ⟨u3, rfl, hou3, hr4, hg4⟩; have T4 := T3.call hr4 hg4; obtain ⟨xd0, xd1, xd2, xd3, xd4⟩ := cellsSB T4.sb; have hS1 := rk_box T3.rq hg4 _ _ _ _ _ _ (by decide) hR1; have hS2 := rk_box T3.rq hg4 _ _ _ _ _ _ (by decide) hR2; have hS3 := own_lower hou3 (b' := g + 1) (by have := T3.lt; have := T3.hg; omega); obtain ⟨u3a, u3k, rfl⟩ := own_form hou3)
    | (have hh := T2; go_simp; go_at_call 62; refine (c3 _ T2).mono ?_; rintro e w3 ⟨u2, rfl, hou2, hr3, hg3⟩; have T3 := T2.call hr3 hg3; obtain ⟨xc0, xc1, xc2, xc3, xc4⟩ := cellsSB T3.sb; have hR1 := rk_box T2.rq hg3 _ _ _ _ _ _ (by decide) hQ1; have hR2 := own_lower hou2 (b' := g + 1) (by have := T2.lt; have := T2.hg; omega); obtain ⟨u2a, u2k, rfl⟩ := own_form hou2)
    | (have hh := T1; go_simp; go_at_call 61; refine (c2 _ T1).mono ?_; rintro e w2 ⟨u1, rfl, hou1, hr2, hg2⟩; have T2 := T1.call hr2 hg2; obtain ⟨xb0, xb1, xb2, xb3, xb4⟩ := cellsSB T2.sb; have hQ1 := own_lower hou1 (b' := g + 1) (by have := T1.lt; have := T1.hg; omega); obtain ⟨u1a, u1k, rfl⟩ := own_form hou1)
    | (go_simp; go_at_call 59; refine (c1 _ TD).mono ?_; rintro e w1 ⟨rfl, hr1, hg1⟩; have T1 := TD.call hr1 hg1; obtain ⟨xa0, xa1, xa2, xa3, xa4⟩ := cellsSB T1.sb)
    | (refine step_append_lies _ (by rfl) (.tmp 36) (.tmp 44) 22 (by rfl) (g + 1) 48 i0 (.agg #[.int .i64 0, .slice none 0 0, .slice none 0 0, .slice none 0 0, .int .i64 0, .int .i64 0]) 6 96 Try.underlying22 hin hz0 hz1 hz2 rfl (by decide) _ S.cs.length _ (by rfl) T7.ow.c.row ⟨_, 0, none⟩ 1 1 [.int .i64 n, .slice u1a ps.length u1k, .slice u2a d.length u2k, .slice u3a o.length u3k, .int .i64 c, .int .i64 q] (by rfl) rfl (many_new _ _ _) (six_co _ _ _ _ _ _ _ _ _ _ _ _) (by decide) (by unfold maxLen; omega) (by omega) (by have := T7.lt; have := T7.hg; omega) _ rfl ?_; intro g9 cap9 w9 ho9 hg9 hgg hgl; have T9 := tk_co T7 hV1 hV2 hV3 ho9 hg9; obtain ⟨hE9, -⟩ := T7.grow (j := 2) (v9 := .slice none 0 0) T7.ow.c.row (.inl rfl) hg9; obtain ⟨p0, p1, p2, p3, p4⟩ := cellsSB hE9; have p6 := frz hE9 2))
  all_goals
    obtain ⟨q0, q1, q2⟩ := cellsRQ T9.rq
    have q3 := cell_of_row _ _ 1 _ _ (0, 0) T9.pb
    have hfin : ∀ b, f6 = b → Hid (f6 = b) := fun _ h => h
    clear TD T1 T2 T3 T4 T5 T6 T7 y0 y1 y2 y3 y4 p0 p1 p2 p3 p4 p6 hE9 ho9 hg9 hal c1 c2 c3 c4 c5 c6 hfin
    cases f6
    · go_wp2_with fail
      go_ret
      exact ⟨_, _, _, _, _, by rw [Bool.not_false, Bool.true_and, ← eqbI]; rfl, T9.sb, T9.ow, T9.bl⟩
    · go_wp2_with fail
      go_ret
      exact ⟨_, _, _, _, _, by simp, T9.sb, T9.ow, T9.bl⟩
end Go.Proofs.Ytdheddgdlindmaa
