/-
  record: take, of a client's pair.
-/
import Derived.Test.YtdheddgdlindmaaRcP
import Derived.Deep.RegionLaw
namespace Go.Proofs.Ytdheddgdlindmaa
open Go.ChangeShapes Go.WideShapes Go.ChangeAt Go.RowKit Go.PlainAid

theorem Try.infoCu : (Try.prog.info? 61).map (fun i => (i.zero, i.size, i.bytes)) = some (some (.agg #[.int .i64 0, .int .i64 0, .int .i64 0]), 3, 24) := by kernel_rfl
theorem three_cu (i j k : Int) : ∀ u ∈ [Value.int .i64 i, .int .i64 j, .int .i64 k], u.oneCell' = true := by
  intro u hu
  simp at hu
  rcases hu with rfl | rfl | rfl <;> rfl
set_option maxRecDepth 20000 in
set_option maxHeartbeats 3000000 in
theorem take_cu (g : Nat) (S : StD) (v1 v2 v3 : Value) (us : List (Value × Value × Value)) (ls : List Value) (x : PaD) (w : World) (hS : SB w g S v1 v2 v3) (hO : OwSt w (g + 1) v1 v2 v3 S us ls) (hv : x.v.size ≤ 1099511627776) (hl : S.us.length ≤ 2000000) (h0 : x.k.size ≠ 0) (hk : bt x.k 0 = 117) :
    Calls Try.prog 32 #[.pointer (some ⟨g, 0, none⟩), .agg #[.string x.k, .string x.v]] w fun e w' => ∃ v1 v2 v3 us ls, e = .returned (.bool (tkU S x.v).2) ∧ SB w' g (tkU S x.v).1 v1 v2 v3 ∧ OwSt w' (g + 1) v1 v2 v3 (tkU S x.v).1 us ls ∧ Below g w w' := by
  obtain ⟨i0, hin, hz0, hz1, hz2⟩ := info_parts Try.infoCu
  have hvm : x.v.size ≤ maxLen := by unfold maxLen; omega
  have T0 := tk_new (x := x) hS hO
  have hb := get_bt x.k
  have c1 := fun W (h : Tk w g S v1 v2 v3 us ls x 0 false W) => rnumQ_any _ x.v 0 false W h.rq hvm
  rcases hx1 : rnF x.v 0 false with ⟨i, a1, f1⟩
  rw [hx1] at c1
  have c2 := fun W (h : Tk w g S v1 v2 v3 us ls x a1 f1 W) => rnumQ_any _ x.v a1 f1 W h.rq hvm
  rcases hx2 : rnF x.v a1 f1 with ⟨nm, a2, f2⟩
  rw [hx2] at c2
  have c3 := fun W (h : Tk w g S v1 v2 v3 us ls x a2 f2 W) => rnumQ_any _ x.v a2 f2 W h.rq hvm
  rcases hx3 : rnF x.v a2 f2 with ⟨lg, a3, f3⟩
  rw [hx3] at c3
  have HC : tkU S x.v = (⟨S.nc, S.nb, S.cs, S.bs, S.us ++ [⟨i, nm, lg⟩]⟩, !f3 && decide (a3 = x.v.size)) := by unfold tkU; simp only [hx1, hx2, hx3]
  rw [HC]
  simp only at c1 c2 c3 ⊢
  clear hx1 hx2 hx3 HC
  have hpos : (0 : Int) < (x.k.size : Int) := by omega
  have hne : x.k.toList.isEmpty = false := by
    rw [Go.ByteArray.toList_eq]
    cases h : x.k.data.toList with
    | nil => exact absurd (by rw [← data_len, h]; rfl) h0
    | cons => rfl
  have hpb := heap_alloc_new w (.cells #[.string x.k, .string x.v] 44)
  have p0 : (w.alloc (.cells #[.string x.k, .string x.v] 44)).cell? ⟨w.heap.size, 0, none⟩ = some (.string x.k) := cell_of_row _ _ 0 _ _ (0, 0) hpb
  have p1 : (w.alloc (.cells #[.string x.k, .string x.v] 44)).cell? ⟨w.heap.size, 1, none⟩ = some (.string x.v) := cell_of_row _ _ 1 _ _ (0, 0) hpb
  have p2 := cell_of_row _ _ 0 _ _ (0, 0) T0.pb
  clear hpb
  go_enter Try.func32, Try.ntmps32
  go_upto_region 13 with fail
  generalize hW0 : (w.alloc (.cells #[.string x.k, .string x.v] 44)).alloc (.cells #[.string x.v, .int .i64 0, .bool false] 98) = W0 at *
  have TD := T0.below (Below.drew (Below.refl _ W0))
  obtain ⟨a2, k2, rfl⟩ := own_form hO.u
  obtain ⟨y0, y1, y2, y3, y4⟩ := cellsSB TD.sb
  clear T0 p2 hS hO hb p0 p1 hW0
  go_region_law (first
    | (have hh := T2; go_simp; go_at_call 59; refine (c3 _ T2).mono ?_; rintro e w3 ⟨rfl, hr3, hg3⟩; have T3 := T2.call hr3 hg3; obtain ⟨s0, s1, s2, s3, s4⟩ := cellsSB T3.sb; have hal := alloc_bR w3 (.cells #[.int .i64 i, .int .i64 nm, .int .i64 lg] 61); have T4 := T3.below hal; obtain ⟨t0, t1, t2, t3, t4⟩ := cellsSB T4.sb)
    | (have hh := T1; go_simp; go_at_call 59; refine (c2 _ T1).mono ?_; rintro e w2 ⟨rfl, hr2, hg2⟩; have T2 := T1.call hr2 hg2; obtain ⟨r0, r1, r2, r3, r4⟩ := cellsSB T2.sb)
    | (go_simp; go_at_call 59; refine (c1 _ TD).mono ?_; rintro e w1 ⟨rfl, hr1, hg1⟩; have T1 := TD.call hr1 hg1; obtain ⟨z0, z1, z2, z3, z4⟩ := cellsSB T1.sb)
    | (refine step_append_lies _ (by rfl) (.tmp 64) (.tmp 69) 24 (by rfl) (g + 1) 61 i0 (.agg #[.int .i64 0, .int .i64 0, .int .i64 0]) 3 24 Try.underlying24 hin hz0 hz1 hz2 rfl (by decide) _ S.us.length _ (by rfl) T4.ow.u ⟨_, 0, none⟩ 1 1 [.int .i64 i, .int .i64 nm, .int .i64 lg] (by rfl) rfl (many_new _ _ _) (three_cu _ _ _) (by decide) (by unfold maxLen; omega) (by omega) (by have := T4.lt; have := T4.hg; omega) _ rfl ?_; intro g9 cap9 w9 ho9 hg9 hgg hgl; have T9 := tk_cu T4 ho9 hg9; obtain ⟨hE9, -⟩ := T4.grow (j := 4) (v9 := .slice none 0 0) T4.ow.u (.inr (.inr rfl)) hg9; obtain ⟨p0, p1, p2, p3, p4⟩ := cellsSB hE9; have p6 := frz hE9 4))
  all_goals
    obtain ⟨q0, q1, q2⟩ := cellsRQ T9.rq
    have q3 := cell_of_row _ _ 1 _ _ (0, 0) T9.pb
    clear TD T1 T2 T3 T4 y0 y1 y2 y3 y4 z0 z1 z2 z3 z4 r0 r1 r2 r3 r4 s0 s1 s2 s3 s4 t0 t1 t2 t3 t4 p0 p1 p2 p3 p4 p6 hE9 ho9 hg9 hal c1 c2 c3
    cases f3
    · go_wp2_with fail
      go_ret
      exact ⟨_, _, _, _, _, by rw [Bool.not_false, Bool.true_and, ← eqbI]; rfl, T9.sb, T9.ow, T9.bl⟩
    · go_wp2_with fail
      go_ret
      exact ⟨_, _, _, _, _, by simp, T9.sb, T9.ow, T9.bl⟩
end Go.Proofs.Ytdheddgdlindmaa
