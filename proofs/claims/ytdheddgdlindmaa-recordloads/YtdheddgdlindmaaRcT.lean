/-
  record: take, whole.
-/
import Derived.Test.YtdheddgdlindmaaRcQ
import Derived.Test.YtdheddgdlindmaaRcR
namespace Go.Proofs.Ytdheddgdlindmaa
open Go.ChangeShapes Go.WideShapes Go.ChangeAt Go.RowKit Go.PlainAid

set_option maxRecDepth 20000 in
set_option maxHeartbeats 3000000 in
theorem take_nx (g : Nat) (S : StD) (v1 v2 v3 : Value) (us : List (Value × Value × Value)) (ls : List Value) (x : PaD) (w : World) (hS : SB w g S v1 v2 v3) (hO : OwSt w (g + 1) v1 v2 v3 S us ls) (hv : x.v.size ≤ 1099511627776) (h0 : x.k.size ≠ 0) (hk : bt x.k 0 = 110) :
    Calls Try.prog 32 #[.pointer (some ⟨g, 0, none⟩), .agg #[.string x.k, .string x.v]] w fun e w' => ∃ v1 v2 v3 us ls, e = .returned (.bool (tkN S x.v).2) ∧ SB w' g (tkN S x.v).1 v1 v2 v3 ∧ OwSt w' (g + 1) v1 v2 v3 (tkN S x.v).1 us ls ∧ Below g w w' := by
  have hvm : x.v.size ≤ maxLen := by unfold maxLen; omega
  have T0 := tk_new (x := x) hS hO
  have hb := get_bt x.k
  have c1 := fun W (h : Tk w g S v1 v2 v3 us ls x 0 false W) => rnumQ_any _ x.v 0 false W h.rq hvm
  rcases hx1 : rnF x.v 0 false with ⟨n, a1, f1⟩
  rw [hx1] at c1
  have c2 := fun W (h : Tk w g S v1 v2 v3 us ls x a1 f1 W) => rnumQ_any _ x.v a1 f1 W h.rq hvm
  rcases hx2 : rnF x.v a1 f1 with ⟨m, a2, f2⟩
  rw [hx2] at c2
  have HC : tkN S x.v = (⟨n, m, S.cs, S.bs, S.us⟩, !f2 && decide (a2 = x.v.size)) := by unfold tkN; simp only [hx1, hx2]
  rw [HC]
  simp only at c1 c2 ⊢
  clear hx1 hx2 HC
  have hpos : (0 : Int) < (x.k.size : Int) := by omega
  have hne : x.k.toList.isEmpty = false := by
    rw [Go.ByteArray.toList_eq]
    cases h : x.k.data.toList with
    | nil => exact absurd (by rw [← data_len, h]; rfl) h0
    | cons => rfl
  have hpb := heap_alloc_new w (.cells #[.string x.k, .string x.v] 44)
  have p0 : (w.alloc (.cells #[.string x.k, .string x.v] 44)).cell? ⟨w.heap.size, 0, none⟩ = some (.string x.k) := cell_of_row _ _ 0 _ _ (0, 0) hpb
  have p1 : (w.alloc (.cells #[.string x.k, .string x.v] 44)).cell? ⟨w.heap.size, 1, none⟩ = some (.string x.v) := cell_of_row _ _ 1 _ _ (0, 0) hpb
  have p2 := cell_of_row _ _ 0 _ _ (0, 0) T0.pb
  clear hpb
  go_enter Try.func32, Try.ntmps32
  go_wp2_with fail
  refine (c1 _ T0).mono ?_
  rintro e w1 ⟨rfl, hr1, hg1⟩
  have T1 := T0.call hr1 hg1
  clear T0 c1 p0 p1 p2
  go_wp2_with fail
  refine (c2 _ T1).mono ?_
  rintro e w2 ⟨rfl, hr2, hg2⟩
  have T2 := T1.call hr2 hg2
  have T9 := tk_nx (n := n) (m := m) T2
  obtain ⟨y0, y1, y2, y3, y4⟩ := cellsSB T2.sb
  have z0 := frz T2.sb 0
  have z1 := frz T2.sb 1
  obtain ⟨q0, q1, q2⟩ := cellsRQ T2.rq
  obtain ⟨s0, s1, s2⟩ := cellsRQ T9.rq
  have q3 := cell_of_row _ _ 1 _ _ (0, 0) T2.pb
  have s3 := cell_of_row _ _ 1 _ _ (0, 0) T9.pb
  clear T1 c2 hS hO
  cases f2
  · go_wp2_with fail
    go_ret
    exact ⟨_, _, _, _, _, by rw [Bool.not_false, Bool.true_and, ← eqbI]; rfl, T9.sb, T9.ow, T9.bl⟩
  · go_wp2_with fail
    go_ret
    exact ⟨_, _, _, _, _, by simp, T9.sb, T9.ow, T9.bl⟩
set_option maxRecDepth 20000 in
set_option maxHeartbeats 3000000 in
theorem take_no (g : Nat) (x : PaD) (w : World) (h0 : x.k.size ≠ 0) (h1 : bt x.k 0 ≠ 98) (h2 : bt x.k 0 ≠ 99) (h3 : bt x.k 0 ≠ 110) (h4 : bt x.k 0 ≠ 117) :
    Calls Try.prog 32 #[.pointer (some ⟨g, 0, none⟩), .agg #[.string x.k, .string x.v]] w fun e w' => e = .returned (.bool false) ∧ Below w.heap.size w w' := by
  have hb := get_bt x.k
  have hpos : (0 : Int) < (x.k.size : Int) := by omega
  have hne : x.k.toList.isEmpty = false := by
    rw [Go.ByteArray.toList_eq]
    cases h : x.k.data.toList with
    | nil => exact absurd (by rw [← data_len, h]; rfl) h0
    | cons => rfl
  have hal := alloc_bR w (.cells #[.string x.k, .string x.v] 44)
  have hal2 := hal.trans ((alloc_bR (w.alloc (.cells #[.string x.k, .string x.v] 44)) (.cells #[.string x.v, .int .i64 0, .bool false] 98)).mono hal.size)
  have hpb := heap_alloc_new w (.cells #[.string x.k, .string x.v] 44)
  have p0 : (w.alloc (.cells #[.string x.k, .string x.v] 44)).cell? ⟨w.heap.size, 0, none⟩ = some (.string x.k) := cell_of_row _ _ 0 _ _ (0, 0) hpb
  have p1 : (w.alloc (.cells #[.string x.k, .string x.v] 44)).cell? ⟨w.heap.size, 1, none⟩ = some (.string x.v) := cell_of_row _ _ 1 _ _ (0, 0) hpb
  have p2 : ((w.alloc (.cells #[.string x.k, .string x.v] 44)).alloc (.cells #[.string x.v, .int .i64 0, .bool false] 98)).cell? ⟨w.heap.size, 0, none⟩ = some (.string x.k) := ((alloc_bR _ _).cell (p := ⟨w.heap.size, 0, none⟩) (by simp)).trans p0
  clear hpb
  go_enter Try.func32, Try.ntmps32
  go_wp2_with fail
  go_ret
  exact ⟨rfl, hal2⟩
set_option maxRecDepth 20000 in
set_option maxHeartbeats 3000000 in
theorem take_nil (g : Nat) (x : PaD) (w : World) (h0 : x.k.size = 0) :
    Calls Try.prog 32 #[.pointer (some ⟨g, 0, none⟩), .agg #[.string x.k, .string x.v]] w fun e w' => e = .returned (.bool false) ∧ Below w.heap.size w w' := by
  have hal := alloc_bR w (.cells #[.string x.k, .string x.v] 44)
  have hpb := heap_alloc_new w (.cells #[.string x.k, .string x.v] 44)
  have p0 : (w.alloc (.cells #[.string x.k, .string x.v] 44)).cell? ⟨w.heap.size, 0, none⟩ = some (.string x.k) := cell_of_row _ _ 0 _ _ (0, 0) hpb
  have hne : x.k.toList.isEmpty = true := by
    rw [Go.ByteArray.toList_eq]
    cases h : x.k.data.toList with
    | nil => rfl
    | cons a l => exfalso; have := data_len x.k; rw [h, h0] at this; simp at this
  clear hpb
  go_enter Try.func32, Try.ntmps32
  go_wp2_with fail
  go_ret
  exact ⟨rfl, hal⟩
theorem take_any (g : Nat) (S : StD) (v1 v2 v3 : Value) (us : List (Value × Value × Value)) (ls : List Value) (x : PaD) (w : World) (hS : SB w g S v1 v2 v3) (hO : OwSt w (g + 1) v1 v2 v3 S us ls) (hv : x.v.size ≤ 1099511627776) (hl : S.bs.length ≤ 2000000 ∧ S.cs.length ≤ 2000000 ∧ S.us.length ≤ 2000000) :
    Calls Try.prog 32 #[.pointer (some ⟨g, 0, none⟩), .agg #[.string x.k, .string x.v]] w fun e w' => ∃ v1 v2 v3 us ls, e = .returned (.bool (tkF S x).2) ∧ SB w' g (tkF S x).1 v1 v2 v3 ∧ OwSt w' (g + 1) v1 v2 v3 (tkF S x).1 us ls ∧ Below g w w' := by
  have hg := heap_lt hS
  unfold tkF
  by_cases h0 : x.k.size = 0
  · rw [if_pos h0]
    refine (take_nil g x w h0).mono ?_
    rintro e w' ⟨rfl, hb⟩
    exact ⟨_, _, _, _, _, rfl, hS.below hb, hO.below hb, hb.mono (by omega)⟩
  · rw [if_neg h0]
    by_cases h1 : bt x.k 0 = 98
    · rw [if_pos h1]
      exact take_br g S v1 v2 v3 us ls x w hS hO hv hl.1 h0 h1
    · rw [if_neg h1]
      by_cases h2 : bt x.k 0 = 99
      · rw [if_pos h2]
        exact take_co g S v1 v2 v3 us ls x w hS hO hv hl.2.1 h0 h2
      · rw [if_neg h2]
        by_cases h3 : bt x.k 0 = 110
        · rw [if_pos h3]
          exact take_nx g S v1 v2 v3 us ls x w hS hO hv h0 h3
        · rw [if_neg h3]
          by_cases h4 : bt x.k 0 = 117
          · rw [if_pos h4]
            exact take_cu g S v1 v2 v3 us ls x w hS hO hv hl.2.2 h0 h4
          · rw [if_neg h4]
            refine (take_no g x w h0 h1 h2 h3 h4).mono ?_
            rintro e w' ⟨rfl, hb⟩
            exact ⟨_, _, _, _, _, rfl, hS.below hb, hO.below hb, hb.mono (by omega)⟩
end Go.Proofs.Ytdheddgdlindmaa
