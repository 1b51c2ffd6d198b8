/-
  The reference: Same of any two deltas.
-/
import Derived.Test.YtcdnlkhjlgaaoaaDoorClP
import Derived.BigRegion
namespace Go.Proofs.YtcdnlkhjlgaaoaaDoor
open Go.ChangeShapes Go.WideShapes Go.ChangeAt Go.RowKit Go.PlainAid

set_option maxRecDepth 20000 in
set_option maxHeartbeats 1000000 in
theorem same_any (va vb : Value) (A B : List OpD) (w : World) (hA : RdD w va A) (hB : RdD w vb B) (hm : A.length ≤ maxLen) :
    Calls Tryd.prog 25 #[va, vb] w fun e w' => e = .returned (.bool (decide (A = B))) ∧ Below w.heap.size w w' := by
  obtain ⟨ao, ac, rfl, _, hac⟩ := hA
  obtain ⟨bo, bc, rfl, _, hbc⟩ := hB
  unfold maxLen at hm
  by_cases hl : A.length = B.length
  · obtain ⟨res, Hres⟩ : ∃ res, Hid (decide (A = B) = res) := ⟨_, rfl⟩
    have hl' : ((A.length : Int) != (B.length : Int)) = false := by simp [hl]
    rw [Hres.out]
    go_enter Tryd.func25, Tryd.ntmps25
    go_wp2_with fail
    go_loopw [5] (fun i wr => ∃ k : Nat, k ≤ A.length ∧ i = .int .i64 (k : Int) ∧ Hid (A.take k = B.take k) ∧ Below w.heap.size w wr) (fun i _ => A.length - (Go.RowKit.intOf i).toNat)
    case atStart => exact ⟨0, by omega, rfl, rfl, Below.refl _ _⟩
    case round =>
      obtain ⟨k, hk, rfl, HT, hbl⟩ := hrel
      by_cases hlt : k < A.length
      · have hlt' : (k : Int) < (A.length : Int) := by omega
        have hltB : k < B.length := by omega
        have hltB' : (k : Int) < (B.length : Int) := by omega
        obtain ⟨b1, o1, rfl, hb1, c0, c1, c2⟩ := hac k A[k] (by simp [hlt])
        obtain ⟨b2, o2, rfl, hb2, d0, d1, d2⟩ := hbc k B[k] (by simp [hltB])
        have hB1 : ∀ o, wr.cell? ⟨b1, o, none⟩ = w.cell? ⟨b1, o, none⟩ := fun o => hbl.cell (p := ⟨b1, o, none⟩) hb1
        have hB2 : ∀ o, wr.cell? ⟨b2, o, none⟩ = w.cell? ⟨b2, o, none⟩ := fun o => hbl.cell (p := ⟨b2, o, none⟩) hb2
        rw [← hB1] at c0 c1 c2
        rw [← hB2] at d0 d1 d2
        clear hB1 hB2 hac hbc
        by_cases he : A[k] = B[k]
        · have HT2 : Hid (A.take (k + 1) = B.take (k + 1)) := by
            show _ = _
            rw [List.take_succ_eq_append_getElem hlt, List.take_succ_eq_append_getElem hltB, HT.out, he]
          rw [he] at c0 c1 c2
          clear he HT
          generalize B[k] = y at *
          go_wp2_with fail
          go_region
          go_wp2_with fail
          exact ⟨⟨k + 1, by omega, by go_num, HT2, Below.drew hbl⟩, by simp [Go.RowKit.intOf]; omega⟩
        · have Hr : Hid (res = false) := by
            show _ = _
            rw [← Hres.out]
            exact decide_eq_false (take_ne hlt hltB he)
          have hne := opd_ne he
          clear he HT
          generalize A[k] = x at *
          generalize B[k] = y at *
          rcases hne with h1 | ⟨h1, h2⟩ | ⟨h1, h2, h3⟩
          · have h1' : (x.k == y.k) = false := by simpa using h1
            clear h1
            go_wp2_with fail
            go_region
            go_wp2_with fail
            go_ret
            exact ⟨by rw [Hr.out]; rfl, Below.drew hbl⟩
          · have h1' : (x.k == y.k) = true := by simpa using h1
            have h2' : (x.n == y.n) = false := by simpa using h2
            clear h1 h2
            go_wp2_with fail
            go_region
            go_wp2_with fail
            go_ret
            exact ⟨by rw [Hr.out]; rfl, Below.drew hbl⟩
          · have h1' : (x.k == y.k) = true := by simpa using h1
            have h2' : (x.n == y.n) = true := by simpa using h2
            have h3' : ¬ x.t.toList = y.t.toList := str_neC h3
            clear h1 h2 h3
            go_wp2_with fail
            go_region
            go_wp2_with fail
            go_ret
            exact ⟨by rw [Hr.out]; rfl, Below.drew hbl⟩
      · have hlt' : ¬ (k : Int) < (A.length : Int) := by omega
        have Hr : Hid (res = true) := by
          show _ = _
          rw [← Hres.out]
          refine decide_eq_true ?_
          have := HT.out
          rwa [List.take_of_length_le (by omega), List.take_of_length_le (by omega)] at this
        go_wp2_with fail
        go_ret
        exact ⟨by rw [Hr.out]; rfl, hbl⟩
  · have e : decide (A = B) = false := decide_eq_false (fun h => hl (by rw [h]))
    rw [e]
    have hl' : ((A.length : Int) != (B.length : Int)) = true := by simp; omega
    clear e hac hbc
    go_enter Tryd.func25, Tryd.ntmps25
    go_wp2_with fail
    go_ret
    exact ⟨rfl, Below.refl _ _⟩
end Go.Proofs.YtcdnlkhjlgaaoaaDoor

/-
  The reference: Same of equal editors.
-/
namespace Go.Proofs.YtcdnlkhjlgaaoaaDoor
open Go.ChangeShapes Go.WideShapes Go.ChangeAt Go.RowKit Go.PlainAid

def phSa (x ga oa ca gb ob cb n k m ku kb : Nat) (q : Int) (au bu : Option Addr) : Nat → Value → World → Prop
  | 0, v, _ => v = (.pointer (some ⟨x, 5, none⟩))
  | 1, v, _ => v = (.slice (some ⟨ga, oa, none⟩) n ca)
  | 2, v, _ => v = (.int .i64 (k : Int))
  | 3, v, _ => v = (.pointer (some ⟨ga, oa + k * 2, none⟩))
  | 4, v, _ => v = (.pointer (some ⟨ga, oa + k * 2, none⟩))
  | 5, v, _ => v = (.int .i64 q)
  | 6, v, _ => v = (.pointer (some ⟨(x + 1), 5, none⟩))
  | 7, v, _ => v = (.slice (some ⟨gb, ob, none⟩) n cb)
  | 8, v, _ => v = (.int .i64 (k : Int))
  | 9, v, _ => v = (.pointer (some ⟨gb, ob + k * 2, none⟩))
  | 10, v, _ => v = (.pointer (some ⟨gb, ob + k * 2, none⟩))
  | 11, v, _ => v = (.int .i64 q)
  | 12, v, _ => v = (.bool false)
  | 13, v, _ => v = (.bool false)
  | 14, v, _ => v = (.pointer (some ⟨x, 5, none⟩))
  | 15, v, _ => v = (.slice (some ⟨ga, oa, none⟩) n ca)
  | 16, v, _ => v = (.int .i64 (k : Int))
  | 17, v, _ => v = (.pointer (some ⟨ga, oa + k * 2, none⟩))
  | 18, v, _ => v = (.pointer (some ⟨ga, oa + k * 2 + 1, none⟩))
  | 19, v, _ => v = (.slice au m ku)
  | 20, v, _ => v = (.pointer (some ⟨(x + 1), 5, none⟩))
  | 21, v, _ => v = (.slice (some ⟨gb, ob, none⟩) n cb)
  | 22, v, _ => v = (.int .i64 (k : Int))
  | 23, v, _ => v = (.pointer (some ⟨gb, ob + k * 2, none⟩))
  | 24, v, _ => v = (.pointer (some ⟨gb, ob + k * 2 + 1, none⟩))
  | 25, v, _ => v = (.slice bu m kb)
  | 26, v, _ => v = (.bool true)
  | 27, v, _ => v = (.bool false)
  | 28, v, _ => v = (.bool false)
  | _, _, _ => True
theorem phSa_stays {x ga oa ca gb ob cb n k m ku kb : Nat} {q : Int} {au bu : Option Addr} (i : Nat) (v : Value) (w w' : World) (h : phSa x ga oa ca gb ob cb n k m ku kb q au bu i v w) (_hg : Below w.heap.size w w') : phSa x ga oa ca gb ob cb n k m ku kb q au bu i v w' := by
  unfold phSa at h ⊢
  split at h
  all_goals first
    | exact h
    | trivial
set_option maxRecDepth 20000 in
set_option maxHeartbeats 3000000 in
theorem rsame20_true (E : EdD) (va vb : Value) (w : World) (ha : RdEd w va E.p) (hb : RdEd w vb E.p) (hpl : E.p.length ≤ 1000000) (hF : ∀ e ∈ E.p, e.d.length ≤ maxLen) :
    Calls Tryd.prog 10 #[.agg (E.fs va), .agg (E.fs vb)] w fun e w' => e = .returned (.bool true) ∧ Below w.heap.size w w' := by
  have hx0 := eb_new w E va
  have hx := hx0.below (alloc_b _ (.cells (E.fs vb) 26))
  have hy := eb_new (w.alloc (.cells (E.fs va) 26)) E vb
  have hA := chain (alloc_b w (.cells (E.fs va) 26)) (alloc_b (w.alloc (.cells (E.fs va) 26)) (.cells (E.fs vb) 26))
  rw [World.size_alloc] at hy
  obtain ⟨aa, ca, rfl, -, hca⟩ := ha
  obtain ⟨ab, cb, rfl, -, hcb⟩ := hb
  simp only [EdD.fs] at *
  clear hx0
  obtain ⟨x0, x1, x2, x3, x4, x5⟩ := cellsEB hx
  obtain ⟨y0, y1, y2, y3, y4, y5⟩ := cellsEB hy
  go_enter Tryd.func10, Tryd.ntmps10
  go_wp2_with fail
  clear x0 x1 x2 x3 x4 x5 y0 y1 y2 y3 y4 y5
  generalize (w.alloc (.cells #[.int .i64 E.c, .int .i64 E.b, .int .i64 E.r, .string E.t, .int .i64 E.s, .slice aa E.p.length ca] 26)).alloc (.cells #[.int .i64 E.c, .int .i64 E.b, .int .i64 E.r, .string E.t, .int .i64 E.s, .slice ab E.p.length cb] 26) = w2 at *
  go_loopw [5] (fun i wr => ∃ (k : Nat), k ≤ E.p.length ∧ i = .int .i64 (k : Int) ∧ Below w2.heap.size w2 wr) (fun i _ => E.p.length - (Go.RowKit.intOf i).toNat)
  case atStart => exact ⟨0, by omega, rfl, Below.refl _ _⟩
  case round =>
    obtain ⟨k, hk, rfl, hbl⟩ := hrel
    have hB := chain hA hbl
    have hxr := hx.below hbl
    have hyr := hy.below hbl
    have x5 := (cellsEB hxr).2.2.2.2.2
    by_cases hlt : k < E.p.length
    · have hlt' : (k : Int) < (E.p.length : Int) := by omega
      obtain ⟨ga, oa, ua, rfl, hga, a0, a1, a2⟩ := hca k E.p[k] (by simp [hlt])
      obtain ⟨gb, ob, ub, rfl, hgb, b0, b1, b2⟩ := hcb k E.p[k] (by simp [hlt])
      have hlm := hF E.p[k] (List.getElem_mem hlt)
      obtain ⟨au, ku, rfl⟩ := rdd_len a2
      obtain ⟨bu, kb, rfl⟩ := rdd_len b2
      have cS := fun W (h : Below wr.drew.heap.size wr.drew W) => same_true _ _ E.p[k].d W hlm ((a2.below hB.drew).below h) ((b2.below hB.drew).below h)
      replace a0 := (hB.drew.cell (p := ⟨ga, oa + k * 2, none⟩) hga).trans a0
      replace a1 := (hB.drew.cell (p := ⟨ga, oa + k * 2 + 1, none⟩) hga).trans a1
      replace b0 := (hB.drew.cell (p := ⟨gb, ob + k * 2, none⟩) hgb).trans b0
      replace b1 := (hB.drew.cell (p := ⟨gb, ob + k * 2 + 1, none⟩) hgb).trans b1
      replace hga : ga < wr.drew.heap.size := Nat.lt_of_lt_of_le hga hB.size
      replace hgb : gb < wr.drew.heap.size := Nat.lt_of_lt_of_le hgb hB.size
      clear hca hcb hF a2 b2 hlm
      generalize E.p[k] = e at *
      go_upto_region 6 with fail
      clear x5
      refine mono.region_monoS (fun W W' => Below W.heap.size W W') (fun _ => Below.refl _ _) (fun _ _ _ => chain) (phSa w.heap.size ga oa ca gb ob cb E.p.length k e.d.length ku kb e.q au bu) ((fun _ _ => True) ) 84 [] [0, 1, 2, 3, 4, 5, 6, 7, 8, 9, 10, 11, 12, 13, 14, 15, 16, 17, 18, 19, 20, 21, 22, 23, 24, 25, 26, 27, 28] (by kernel_rfl) rfl rfl (by kernel_rfl) [(13, false)] (by kernel_rfl) (fun j b hj v w h => by simp only [List.mem_cons, Prod.mk.injEq, List.not_mem_nil, or_false] at hj; obtain ⟨rfl, rfl⟩ := hj; exact h) (phSa_stays) (trivial) (.cons ?_ (.cons ?_ (.cons ?_ (.cons ?_ (.cons ?_ (.cons ?_ (.cons ?_ (.cons ?_ (.cons ?_ (.cons ?_ (.cons ?_ (.cons ?_ (.cons ?_ (.cons ?_ (.cons ?_ (.cons ?_ (.cons ?_ (.cons ?_ (.cons ?_ (.cons ?_ (.cons ?_ (.cons ?_ (.cons ?_ (.cons ?_ (.cons ?_ (.cons ?_ (.cons ?_ (.cons ?_ (.cons ?_ (.nil)))))))))))))))))))))))))))))) ?_
      · refine mono.dutyS_of rfl ?_
        intro f W L hR hO hD hL hi hX K hK
        have eL : mono.lit 84 f [] = ⟨#[f 0, f 1, f 2, f 3, f 4, f 5, f 6, f 7, f 8, f 9, f 10, f 11, f 12, f 13, f 14, f 15, f 16, f 17, f 18, f 19, f 20, f 21, f 22, f 23, f 24, f 25, f 26, f 27, f 28, f 29, f 30, f 31, f 32, f 33, f 34, f 35, f 36, f 37, f 38, f 39, f 40, f 41, f 42, f 43, f 44, f 45, f 46, f 47, f 48, f 49, f 50, f 51, f 52, f 53, f 54, f 55, f 56, f 57, f 58, f 59, f 60, f 61, f 62, f 63, f 64, f 65, f 66, f 67, f 68, f 69, f 70, f 71, f 72, f 73, f 74, f 75, f 76, f 77, f 78, f 79, f 80, f 81, f 82, f 83], []⟩ := rfl
        replace hK : ∀ v W', (fun W W' => Below W.heap.size W W') W W' → phSa w.heap.size ga oa ca gb ob cb E.p.length k e.d.length ku kb e.q au bu 0 v W' → (fun _ _ => True) (fun j => if j = 0 then true else L j) W' → K ((mono.lit 84 f []).put (some 55) v) W' := hK
        rw [eL] at hK ⊢
        simp only [Act.put, List.setIfInBounds_toArray, List.set_cons_succ, List.set_cons_zero] at hK
        have o2 : f 2 = (.pointer (some ⟨w.heap.size, 0, none⟩)) := hO 2 (by kernel_rfl)
        rw [o2] at hK ⊢
        go_simp
        exact hK _ _ (Below.refl _ _) rfl trivial
      · refine mono.dutyS_of rfl ?_
        intro f W L hR hO hD hL hi hX K hK
        have eL : mono.lit 84 f [] = ⟨#[f 0, f 1, f 2, f 3, f 4, f 5, f 6, f 7, f 8, f 9, f 10, f 11, f 12, f 13, f 14, f 15, f 16, f 17, f 18, f 19, f 20, f 21, f 22, f 23, f 24, f 25, f 26, f 27, f 28, f 29, f 30, f 31, f 32, f 33, f 34, f 35, f 36, f 37, f 38, f 39, f 40, f 41, f 42, f 43, f 44, f 45, f 46, f 47, f 48, f 49, f 50, f 51, f 52, f 53, f 54, f 55, f 56, f 57, f 58, f 59, f 60, f 61, f 62, f 63, f 64, f 65, f 66, f 67, f 68, f 69, f 70, f 71, f 72, f 73, f 74, f 75, f 76, f 77, f 78, f 79, f 80, f 81, f 82, f 83], []⟩ := rfl
        replace hK : ∀ v W', (fun W W' => Below W.heap.size W W') W W' → phSa w.heap.size ga oa ca gb ob cb E.p.length k e.d.length ku kb e.q au bu 1 v W' → (fun _ _ => True) (fun j => if j = 1 then true else L j) W' → K ((mono.lit 84 f []).put (some 56) v) W' := hK
        rw [eL] at hK ⊢
        simp only [Act.put, List.setIfInBounds_toArray, List.set_cons_succ, List.set_cons_zero] at hK
        have q0 := hD 0 55 (by kernel_rfl) (by kernel_rfl)
        replace q0 : f 55 = (.pointer (some ⟨w.heap.size, 5, none⟩)) := q0
        rw [q0] at hK ⊢
        have x5 := (cellsEB (EB.below (W := wr.drew) hxr hR)).2.2.2.2.2
        go_simp
        exact hK _ _ (Below.refl _ _) rfl trivial
      · refine mono.dutyS_of rfl ?_
        intro f W L hR hO hD hL hi hX K hK
        have eL : mono.lit 84 f [] = ⟨#[f 0, f 1, f 2, f 3, f 4, f 5, f 6, f 7, f 8, f 9, f 10, f 11, f 12, f 13, f 14, f 15, f 16, f 17, f 18, f 19, f 20, f 21, f 22, f 23, f 24, f 25, f 26, f 27, f 28, f 29, f 30, f 31, f 32, f 33, f 34, f 35, f 36, f 37, f 38, f 39, f 40, f 41, f 42, f 43, f 44, f 45, f 46, f 47, f 48, f 49, f 50, f 51, f 52, f 53, f 54, f 55, f 56, f 57, f 58, f 59, f 60, f 61, f 62, f 63, f 64, f 65, f 66, f 67, f 68, f 69, f 70, f 71, f 72, f 73, f 74, f 75, f 76, f 77, f 78, f 79, f 80, f 81, f 82, f 83], []⟩ := rfl
        replace hK : ∀ v W', (fun W W' => Below W.heap.size W W') W W' → phSa w.heap.size ga oa ca gb ob cb E.p.length k e.d.length ku kb e.q au bu 2 v W' → (fun _ _ => True) (fun j => if j = 2 then true else L j) W' → K ((mono.lit 84 f []).put (some 57) v) W' := hK
        rw [eL] at hK ⊢
        simp only [Act.put, List.setIfInBounds_toArray, List.set_cons_succ, List.set_cons_zero] at hK
        have o5 : f 5 = (.int .i64 (k : Int)) := hO 5 (by kernel_rfl)
        rw [o5] at hK ⊢
        go_simp
        exact hK _ _ (Below.refl _ _) rfl trivial
      · refine mono.dutyS_of rfl ?_
        intro f W L hR hO hD hL hi hX K hK
        have eL : mono.lit 84 f [] = ⟨#[f 0, f 1, f 2, f 3, f 4, f 5, f 6, f 7, f 8, f 9, f 10, f 11, f 12, f 13, f 14, f 15, f 16, f 17, f 18, f 19, f 20, f 21, f 22, f 23, f 24, f 25, f 26, f 27, f 28, f 29, f 30, f 31, f 32, f 33, f 34, f 35, f 36, f 37, f 38, f 39, f 40, f 41, f 42, f 43, f 44, f 45, f 46, f 47, f 48, f 49, f 50, f 51, f 52, f 53, f 54, f 55, f 56, f 57, f 58, f 59, f 60, f 61, f 62, f 63, f 64, f 65, f 66, f 67, f 68, f 69, f 70, f 71, f 72, f 73, f 74, f 75, f 76, f 77, f 78, f 79, f 80, f 81, f 82, f 83], []⟩ := rfl
        replace hK : ∀ v W', (fun W W' => Below W.heap.size W W') W W' → phSa w.heap.size ga oa ca gb ob cb E.p.length k e.d.length ku kb e.q au bu 3 v W' → (fun _ _ => True) (fun j => if j = 3 then true else L j) W' → K ((mono.lit 84 f []).put (some 58) v) W' := hK
        rw [eL] at hK ⊢
        simp only [Act.put, List.setIfInBounds_toArray, List.set_cons_succ, List.set_cons_zero] at hK
        have q1 := hD 1 56 (by kernel_rfl) (by kernel_rfl)
        replace q1 : f 56 = (.slice (some ⟨ga, oa, none⟩) E.p.length ca) := q1
        have q2 := hD 2 57 (by kernel_rfl) (by kernel_rfl)
        replace q2 : f 57 = (.int .i64 (k : Int)) := q2
        rw [q1, q2] at hK ⊢
        go_simp
        exact hK _ _ (Below.refl _ _) rfl trivial
      · refine mono.dutyS_of rfl ?_
        intro f W L hR hO hD hL hi hX K hK
        have eL : mono.lit 84 f [] = ⟨#[f 0, f 1, f 2, f 3, f 4, f 5, f 6, f 7, f 8, f 9, f 10, f 11, f 12, f 13, f 14, f 15, f 16, f 17, f 18, f 19, f 20, f 21, f 22, f 23, f 24, f 25, f 26, f 27, f 28, f 29, f 30, f 31, f 32, f 33, f 34, f 35, f 36, f 37, f 38, f 39, f 40, f 41, f 42, f 43, f 44, f 45, f 46, f 47, f 48, f 49, f 50, f 51, f 52, f 53, f 54, f 55, f 56, f 57, f 58, f 59, f 60, f 61, f 62, f 63, f 64, f 65, f 66, f 67, f 68, f 69, f 70, f 71, f 72, f 73, f 74, f 75, f 76, f 77, f 78, f 79, f 80, f 81, f 82, f 83], []⟩ := rfl
        replace hK : ∀ v W', (fun W W' => Below W.heap.size W W') W W' → phSa w.heap.size ga oa ca gb ob cb E.p.length k e.d.length ku kb e.q au bu 4 v W' → (fun _ _ => True) (fun j => if j = 4 then true else L j) W' → K ((mono.lit 84 f []).put (some 59) v) W' := hK
        rw [eL] at hK ⊢
        simp only [Act.put, List.setIfInBounds_toArray, List.set_cons_succ, List.set_cons_zero] at hK
        have q3 := hD 3 58 (by kernel_rfl) (by kernel_rfl)
        replace q3 : f 58 = (.pointer (some ⟨ga, oa + k * 2, none⟩)) := q3
        rw [q3] at hK ⊢
        go_simp
        exact hK _ _ (Below.refl _ _) rfl trivial
      · refine mono.dutyS_of rfl ?_
        intro f W L hR hO hD hL hi hX K hK
        have eL : mono.lit 84 f [] = ⟨#[f 0, f 1, f 2, f 3, f 4, f 5, f 6, f 7, f 8, f 9, f 10, f 11, f 12, f 13, f 14, f 15, f 16, f 17, f 18, f 19, f 20, f 21, f 22, f 23, f 24, f 25, f 26, f 27, f 28, f 29, f 30, f 31, f 32, f 33, f 34, f 35, f 36, f 37, f 38, f 39, f 40, f 41, f 42, f 43, f 44, f 45, f 46, f 47, f 48, f 49, f 50, f 51, f 52, f 53, f 54, f 55, f 56, f 57, f 58, f 59, f 60, f 61, f 62, f 63, f 64, f 65, f 66, f 67, f 68, f 69, f 70, f 71, f 72, f 73, f 74, f 75, f 76, f 77, f 78, f 79, f 80, f 81, f 82, f 83], []⟩ := rfl
        replace hK : ∀ v W', (fun W W' => Below W.heap.size W W') W W' → phSa w.heap.size ga oa ca gb ob cb E.p.length k e.d.length ku kb e.q au bu 5 v W' → (fun _ _ => True) (fun j => if j = 5 then true else L j) W' → K ((mono.lit 84 f []).put (some 60) v) W' := hK
        rw [eL] at hK ⊢
        simp only [Act.put, List.setIfInBounds_toArray, List.set_cons_succ, List.set_cons_zero] at hK
        have q4 := hD 4 59 (by kernel_rfl) (by kernel_rfl)
        replace q4 : f 59 = (.pointer (some ⟨ga, oa + k * 2, none⟩)) := q4
        rw [q4] at hK ⊢
        have c0 := (hR.cell (p := ⟨ga, oa + k * 2, none⟩) hga).trans a0
        go_simp
        exact hK _ _ (Below.refl _ _) rfl trivial
      · refine mono.dutyS_of rfl ?_
        intro f W L hR hO hD hL hi hX K hK
        have eL : mono.lit 84 f [] = ⟨#[f 0, f 1, f 2, f 3, f 4, f 5, f 6, f 7, f 8, f 9, f 10, f 11, f 12, f 13, f 14, f 15, f 16, f 17, f 18, f 19, f 20, f 21, f 22, f 23, f 24, f 25, f 26, f 27, f 28, f 29, f 30, f 31, f 32, f 33, f 34, f 35, f 36, f 37, f 38, f 39, f 40, f 41, f 42, f 43, f 44, f 45, f 46, f 47, f 48, f 49, f 50, f 51, f 52, f 53, f 54, f 55, f 56, f 57, f 58, f 59, f 60, f 61, f 62, f 63, f 64, f 65, f 66, f 67, f 68, f 69, f 70, f 71, f 72, f 73, f 74, f 75, f 76, f 77, f 78, f 79, f 80, f 81, f 82, f 83], []⟩ := rfl
        replace hK : ∀ v W', (fun W W' => Below W.heap.size W W') W W' → phSa w.heap.size ga oa ca gb ob cb E.p.length k e.d.length ku kb e.q au bu 6 v W' → (fun _ _ => True) (fun j => if j = 6 then true else L j) W' → K ((mono.lit 84 f []).put (some 61) v) W' := hK
        rw [eL] at hK ⊢
        simp only [Act.put, List.setIfInBounds_toArray, List.set_cons_succ, List.set_cons_zero] at hK
        have o3 : f 3 = (.pointer (some ⟨w.heap.size + 1, 0, none⟩)) := hO 3 (by kernel_rfl)
        rw [o3] at hK ⊢
        go_simp
        exact hK _ _ (Below.refl _ _) rfl trivial
      · refine mono.dutyS_of rfl ?_
        intro f W L hR hO hD hL hi hX K hK
        have eL : mono.lit 84 f [] = ⟨#[f 0, f 1, f 2, f 3, f 4, f 5, f 6, f 7, f 8, f 9, f 10, f 11, f 12, f 13, f 14, f 15, f 16, f 17, f 18, f 19, f 20, f 21, f 22, f 23, f 24, f 25, f 26, f 27, f 28, f 29, f 30, f 31, f 32, f 33, f 34, f 35, f 36, f 37, f 38, f 39, f 40, f 41, f 42, f 43, f 44, f 45, f 46, f 47, f 48, f 49, f 50, f 51, f 52, f 53, f 54, f 55, f 56, f 57, f 58, f 59, f 60, f 61, f 62, f 63, f 64, f 65, f 66, f 67, f 68, f 69, f 70, f 71, f 72, f 73, f 74, f 75, f 76, f 77, f 78, f 79, f 80, f 81, f 82, f 83], []⟩ := rfl
        replace hK : ∀ v W', (fun W W' => Below W.heap.size W W') W W' → phSa w.heap.size ga oa ca gb ob cb E.p.length k e.d.length ku kb e.q au bu 7 v W' → (fun _ _ => True) (fun j => if j = 7 then true else L j) W' → K ((mono.lit 84 f []).put (some 62) v) W' := hK
        rw [eL] at hK ⊢
        simp only [Act.put, List.setIfInBounds_toArray, List.set_cons_succ, List.set_cons_zero] at hK
        have q6 := hD 6 61 (by kernel_rfl) (by kernel_rfl)
        replace q6 : f 61 = (.pointer (some ⟨w.heap.size + 1, 5, none⟩)) := q6
        rw [q6] at hK ⊢
        have y5 := (cellsEB (EB.below (W := wr.drew) hyr hR)).2.2.2.2.2
        go_simp
        exact hK _ _ (Below.refl _ _) rfl trivial
      · refine mono.dutyS_of rfl ?_
        intro f W L hR hO hD hL hi hX K hK
        have eL : mono.lit 84 f [] = ⟨#[f 0, f 1, f 2, f 3, f 4, f 5, f 6, f 7, f 8, f 9, f 10, f 11, f 12, f 13, f 14, f 15, f 16, f 17, f 18, f 19, f 20, f 21, f 22, f 23, f 24, f 25, f 26, f 27, f 28, f 29, f 30, f 31, f 32, f 33, f 34, f 35, f 36, f 37, f 38, f 39, f 40, f 41, f 42, f 43, f 44, f 45, f 46, f 47, f 48, f 49, f 50, f 51, f 52, f 53, f 54, f 55, f 56, f 57, f 58, f 59, f 60, f 61, f 62, f 63, f 64, f 65, f 66, f 67, f 68, f 69, f 70, f 71, f 72, f 73, f 74, f 75, f 76, f 77, f 78, f 79, f 80, f 81, f 82, f 83], []⟩ := rfl
        replace hK : ∀ v W', (fun W W' => Below W.heap.size W W') W W' → phSa w.heap.size ga oa ca gb ob cb E.p.length k e.d.length ku kb e.q au bu 8 v W' → (fun _ _ => True) (fun j => if j = 8 then true else L j) W' → K ((mono.lit 84 f []).put (some 63) v) W' := hK
        rw [eL] at hK ⊢
        simp only [Act.put, List.setIfInBounds_toArray, List.set_cons_succ, List.set_cons_zero] at hK
        have o5 : f 5 = (.int .i64 (k : Int)) := hO 5 (by kernel_rfl)
        rw [o5] at hK ⊢
        go_simp
        exact hK _ _ (Below.refl _ _) rfl trivial
      · refine mono.dutyS_of rfl ?_
        intro f W L hR hO hD hL hi hX K hK
        have eL : mono.lit 84 f [] = ⟨#[f 0, f 1, f 2, f 3, f 4, f 5, f 6, f 7, f 8, f 9, f 10, f 11, f 12, f 13, f 14, f 15, f 16, f 17, f 18, f 19, f 20, f 21, f 22, f 23, f 24, f 25, f 26, f 27, f 28, f 29, f 30, f 31, f 32, f 33, f 34, f 35, f 36, f 37, f 38, f 39, f 40, f 41, f 42, f 43, f 44, f 45, f 46, f 47, f 48, f 49, f 50, f 51, f 52, f 53, f 54, f 55, f 56, f 57, f 58, f 59, f 60, f 61, f 62, f 63, f 64, f 65, f 66, f 67, f 68, f 69, f 70, f 71, f 72, f 73, f 74, f 75, f 76, f 77, f 78, f 79, f 80, f 81, f 82, f 83], []⟩ := rfl
        replace hK : ∀ v W', (fun W W' => Below W.heap.size W W') W W' → phSa w.heap.size ga oa ca gb ob cb E.p.length k e.d.length ku kb e.q au bu 9 v W' → (fun _ _ => True) (fun j => if j = 9 then true else L j) W' → K ((mono.lit 84 f []).put (some 64) v) W' := hK
        rw [eL] at hK ⊢
        simp only [Act.put, List.setIfInBounds_toArray, List.set_cons_succ, List.set_cons_zero] at hK
        have q7 := hD 7 62 (by kernel_rfl) (by kernel_rfl)
        replace q7 : f 62 = (.slice (some ⟨gb, ob, none⟩) E.p.length cb) := q7
        have q8 := hD 8 63 (by kernel_rfl) (by kernel_rfl)
        replace q8 : f 63 = (.int .i64 (k : Int)) := q8
        rw [q7, q8] at hK ⊢
        go_simp
        exact hK _ _ (Below.refl _ _) rfl trivial
      · refine mono.dutyS_of rfl ?_
        intro f W L hR hO hD hL hi hX K hK
        have eL : mono.lit 84 f [] = ⟨#[f 0, f 1, f 2, f 3, f 4, f 5, f 6, f 7, f 8, f 9, f 10, f 11, f 12, f 13, f 14, f 15, f 16, f 17, f 18, f 19, f 20, f 21, f 22, f 23, f 24, f 25, f 26, f 27, f 28, f 29, f 30, f 31, f 32, f 33, f 34, f 35, f 36, f 37, f 38, f 39, f 40, f 41, f 42, f 43, f 44, f 45, f 46, f 47, f 48, f 49, f 50, f 51, f 52, f 53, f 54, f 55, f 56, f 57, f 58, f 59, f 60, f 61, f 62, f 63, f 64, f 65, f 66, f 67, f 68, f 69, f 70, f 71, f 72, f 73, f 74, f 75, f 76, f 77, f 78, f 79, f 80, f 81, f 82, f 83], []⟩ := rfl
        replace hK : ∀ v W', (fun W W' => Below W.heap.size W W') W W' → phSa w.heap.size ga oa ca gb ob cb E.p.length k e.d.length ku kb e.q au bu 10 v W' → (fun _ _ => True) (fun j => if j = 10 then true else L j) W' → K ((mono.lit 84 f []).put (some 65) v) W' := hK
        rw [eL] at hK ⊢
        simp only [Act.put, List.setIfInBounds_toArray, List.set_cons_succ, List.set_cons_zero] at hK
        have q9 := hD 9 64 (by kernel_rfl) (by kernel_rfl)
        replace q9 : f 64 = (.pointer (some ⟨gb, ob + k * 2, none⟩)) := q9
        rw [q9] at hK ⊢
        go_simp
        exact hK _ _ (Below.refl _ _) rfl trivial
      · refine mono.dutyS_of rfl ?_
        intro f W L hR hO hD hL hi hX K hK
        have eL : mono.lit 84 f [] = ⟨#[f 0, f 1, f 2, f 3, f 4, f 5, f 6, f 7, f 8, f 9, f 10, f 11, f 12, f 13, f 14, f 15, f 16, f 17, f 18, f 19, f 20, f 21, f 22, f 23, f 24, f 25, f 26, f 27, f 28, f 29, f 30, f 31, f 32, f 33, f 34, f 35, f 36, f 37, f 38, f 39, f 40, f 41, f 42, f 43, f 44, f 45, f 46, f 47, f 48, f 49, f 50, f 51, f 52, f 53, f 54, f 55, f 56, f 57, f 58, f 59, f 60, f 61, f 62, f 63, f 64, f 65, f 66, f 67, f 68, f 69, f 70, f 71, f 72, f 73, f 74, f 75, f 76, f 77, f 78, f 79, f 80, f 81, f 82, f 83], []⟩ := rfl
        replace hK : ∀ v W', (fun W W' => Below W.heap.size W W') W W' → phSa w.heap.size ga oa ca gb ob cb E.p.length k e.d.length ku kb e.q au bu 11 v W' → (fun _ _ => True) (fun j => if j = 11 then true else L j) W' → K ((mono.lit 84 f []).put (some 66) v) W' := hK
        rw [eL] at hK ⊢
        simp only [Act.put, List.setIfInBounds_toArray, List.set_cons_succ, List.set_cons_zero] at hK
        have q10 := hD 10 65 (by kernel_rfl) (by kernel_rfl)
        replace q10 : f 65 = (.pointer (some ⟨gb, ob + k * 2, none⟩)) := q10
        rw [q10] at hK ⊢
        have c0 := (hR.cell (p := ⟨gb, ob + k * 2, none⟩) hgb).trans b0
        go_simp
        exact hK _ _ (Below.refl _ _) rfl trivial
      · refine mono.dutyS_of rfl ?_
        intro f W L hR hO hD hL hi hX K hK
        have eL : mono.lit 84 f [] = ⟨#[f 0, f 1, f 2, f 3, f 4, f 5, f 6, f 7, f 8, f 9, f 10, f 11, f 12, f 13, f 14, f 15, f 16, f 17, f 18, f 19, f 20, f 21, f 22, f 23, f 24, f 25, f 26, f 27, f 28, f 29, f 30, f 31, f 32, f 33, f 34, f 35, f 36, f 37, f 38, f 39, f 40, f 41, f 42, f 43, f 44, f 45, f 46, f 47, f 48, f 49, f 50, f 51, f 52, f 53, f 54, f 55, f 56, f 57, f 58, f 59, f 60, f 61, f 62, f 63, f 64, f 65, f 66, f 67, f 68, f 69, f 70, f 71, f 72, f 73, f 74, f 75, f 76, f 77, f 78, f 79, f 80, f 81, f 82, f 83], []⟩ := rfl
        replace hK : ∀ v W', (fun W W' => Below W.heap.size W W') W W' → phSa w.heap.size ga oa ca gb ob cb E.p.length k e.d.length ku kb e.q au bu 12 v W' → (fun _ _ => True) (fun j => if j = 12 then true else L j) W' → K ((mono.lit 84 f []).put (some 67) v) W' := hK
        rw [eL] at hK ⊢
        simp only [Act.put, List.setIfInBounds_toArray, List.set_cons_succ, List.set_cons_zero] at hK
        have q5 := hD 5 60 (by kernel_rfl) (by kernel_rfl)
        replace q5 : f 60 = (.int .i64 e.q) := q5
        have q11 := hD 11 66 (by kernel_rfl) (by kernel_rfl)
        replace q11 : f 66 = (.int .i64 e.q) := q11
        rw [q5, q11] at hK ⊢
        go_simp
        exact hK _ _ (Below.refl _ _) rfl trivial
      · refine mono.dutyS_of rfl ?_
        intro f W L hR hO hD hL hi hX K hK
        have eL : mono.lit 84 f [] = ⟨#[f 0, f 1, f 2, f 3, f 4, f 5, f 6, f 7, f 8, f 9, f 10, f 11, f 12, f 13, f 14, f 15, f 16, f 17, f 18, f 19, f 20, f 21, f 22, f 23, f 24, f 25, f 26, f 27, f 28, f 29, f 30, f 31, f 32, f 33, f 34, f 35, f 36, f 37, f 38, f 39, f 40, f 41, f 42, f 43, f 44, f 45, f 46, f 47, f 48, f 49, f 50, f 51, f 52, f 53, f 54, f 55, f 56, f 57, f 58, f 59, f 60, f 61, f 62, f 63, f 64, f 65, f 66, f 67, f 68, f 69, f 70, f 71, f 72, f 73, f 74, f 75, f 76, f 77, f 78, f 79, f 80, f 81, f 82, f 83], []⟩ := rfl
        replace hK : ∀ v W', (fun W W' => Below W.heap.size W W') W W' → phSa w.heap.size ga oa ca gb ob cb E.p.length k e.d.length ku kb e.q au bu 13 v W' → (fun _ _ => True) (fun j => if j = 13 then true else L j) W' → K ((mono.lit 84 f []).put (some 68) v) W' := hK
        rw [eL] at hK ⊢
        simp only [Act.put, List.setIfInBounds_toArray, List.set_cons_succ, List.set_cons_zero] at hK
        have q12 := hD 12 67 (by kernel_rfl) (by kernel_rfl)
        replace q12 : f 67 = (.bool false) := q12
        rw [q12] at hK ⊢
        go_simp
        exact hK _ _ (Below.refl _ _) rfl trivial
      · refine mono.dutyS_of rfl ?_
        intro f W L hR hO hD hL hi hX K hK
        have eL : mono.lit 84 f [] = ⟨#[f 0, f 1, f 2, f 3, f 4, f 5, f 6, f 7, f 8, f 9, f 10, f 11, f 12, f 13, f 14, f 15, f 16, f 17, f 18, f 19, f 20, f 21, f 22, f 23, f 24, f 25, f 26, f 27, f 28, f 29, f 30, f 31, f 32, f 33, f 34, f 35, f 36, f 37, f 38, f 39, f 40, f 41, f 42, f 43, f 44, f 45, f 46, f 47, f 48, f 49, f 50, f 51, f 52, f 53, f 54, f 55, f 56, f 57, f 58, f 59, f 60, f 61, f 62, f 63, f 64, f 65, f 66, f 67, f 68, f 69, f 70, f 71, f 72, f 73, f 74, f 75, f 76, f 77, f 78, f 79, f 80, f 81, f 82, f 83], []⟩ := rfl
        replace hK : ∀ v W', (fun W W' => Below W.heap.size W W') W W' → phSa w.heap.size ga oa ca gb ob cb E.p.length k e.d.length ku kb e.q au bu 14 v W' → (fun _ _ => True) (fun j => if j = 14 then true else L j) W' → K ((mono.lit 84 f []).put (some 69) v) W' := hK
        rw [eL] at hK ⊢
        simp only [Act.put, List.setIfInBounds_toArray, List.set_cons_succ, List.set_cons_zero] at hK
        have o2 : f 2 = (.pointer (some ⟨w.heap.size, 0, none⟩)) := hO 2 (by kernel_rfl)
        rw [o2] at hK ⊢
        go_simp
        exact hK _ _ (Below.refl _ _) rfl trivial
      · refine mono.dutyS_of rfl ?_
        intro f W L hR hO hD hL hi hX K hK
        have eL : mono.lit 84 f [] = ⟨#[f 0, f 1, f 2, f 3, f 4, f 5, f 6, f 7, f 8, f 9, f 10, f 11, f 12, f 13, f 14, f 15, f 16, f 17, f 18, f 19, f 20, f 21, f 22, f 23, f 24, f 25, f 26, f 27, f 28, f 29, f 30, f 31, f 32, f 33, f 34, f 35, f 36, f 37, f 38, f 39, f 40, f 41, f 42, f 43, f 44, f 45, f 46, f 47, f 48, f 49, f 50, f 51, f 52, f 53, f 54, f 55, f 56, f 57, f 58, f 59, f 60, f 61, f 62, f 63, f 64, f 65, f 66, f 67, f 68, f 69, f 70, f 71, f 72, f 73, f 74, f 75, f 76, f 77, f 78, f 79, f 80, f 81, f 82, f 83], []⟩ := rfl
        replace hK : ∀ v W', (fun W W' => Below W.heap.size W W') W W' → phSa w.heap.size ga oa ca gb ob cb E.p.length k e.d.length ku kb e.q au bu 15 v W' → (fun _ _ => True) (fun j => if j = 15 then true else L j) W' → K ((mono.lit 84 f []).put (some 70) v) W' := hK
        rw [eL] at hK ⊢
        simp only [Act.put, List.setIfInBounds_toArray, List.set_cons_succ, List.set_cons_zero] at hK
        have q14 := hD 14 69 (by kernel_rfl) (by kernel_rfl)
        replace q14 : f 69 = (.pointer (some ⟨w.heap.size, 5, none⟩)) := q14
        rw [q14] at hK ⊢
        have x5 := (cellsEB (EB.below (W := wr.drew) hxr hR)).2.2.2.2.2
        go_simp
        exact hK _ _ (Below.refl _ _) rfl trivial
      · refine mono.dutyS_of rfl ?_
        intro f W L hR hO hD hL hi hX K hK
        have eL : mono.lit 84 f [] = ⟨#[f 0, f 1, f 2, f 3, f 4, f 5, f 6, f 7, f 8, f 9, f 10, f 11, f 12, f 13, f 14, f 15, f 16, f 17, f 18, f 19, f 20, f 21, f 22, f 23, f 24, f 25, f 26, f 27, f 28, f 29, f 30, f 31, f 32, f 33, f 34, f 35, f 36, f 37, f 38, f 39, f 40, f 41, f 42, f 43, f 44, f 45, f 46, f 47, f 48, f 49, f 50, f 51, f 52, f 53, f 54, f 55, f 56, f 57, f 58, f 59, f 60, f 61, f 62, f 63, f 64, f 65, f 66, f 67, f 68, f 69, f 70, f 71, f 72, f 73, f 74, f 75, f 76, f 77, f 78, f 79, f 80, f 81, f 82, f 83], []⟩ := rfl
        replace hK : ∀ v W', (fun W W' => Below W.heap.size W W') W W' → phSa w.heap.size ga oa ca gb ob cb E.p.length k e.d.length ku kb e.q au bu 16 v W' → (fun _ _ => True) (fun j => if j = 16 then true else L j) W' → K ((mono.lit 84 f []).put (some 71) v) W' := hK
        rw [eL] at hK ⊢
        simp only [Act.put, List.setIfInBounds_toArray, List.set_cons_succ, List.set_cons_zero] at hK
        have o5 : f 5 = (.int .i64 (k : Int)) := hO 5 (by kernel_rfl)
        rw [o5] at hK ⊢
        go_simp
        exact hK _ _ (Below.refl _ _) rfl trivial
      · refine mono.dutyS_of rfl ?_
        intro f W L hR hO hD hL hi hX K hK
        have eL : mono.lit 84 f [] = ⟨#[f 0, f 1, f 2, f 3, f 4, f 5, f 6, f 7, f 8, f 9, f 10, f 11, f 12, f 13, f 14, f 15, f 16, f 17, f 18, f 19, f 20, f 21, f 22, f 23, f 24, f 25, f 26, f 27, f 28, f 29, f 30, f 31, f 32, f 33, f 34, f 35, f 36, f 37, f 38, f 39, f 40, f 41, f 42, f 43, f 44, f 45, f 46, f 47, f 48, f 49, f 50, f 51, f 52, f 53, f 54, f 55, f 56, f 57, f 58, f 59, f 60, f 61, f 62, f 63, f 64, f 65, f 66, f 67, f 68, f 69, f 70, f 71, f 72, f 73, f 74, f 75, f 76, f 77, f 78, f 79, f 80, f 81, f 82, f 83], []⟩ := rfl
        replace hK : ∀ v W', (fun W W' => Below W.heap.size W W') W W' → phSa w.heap.size ga oa ca gb ob cb E.p.length k e.d.length ku kb e.q au bu 17 v W' → (fun _ _ => True) (fun j => if j = 17 then true else L j) W' → K ((mono.lit 84 f []).put (some 72) v) W' := hK
        rw [eL] at hK ⊢
        simp only [Act.put, List.setIfInBounds_toArray, List.set_cons_succ, List.set_cons_zero] at hK
        have q15 := hD 15 70 (by kernel_rfl) (by kernel_rfl)
        replace q15 : f 70 = (.slice (some ⟨ga, oa, none⟩) E.p.length ca) := q15
        have q16 := hD 16 71 (by kernel_rfl) (by kernel_rfl)
        replace q16 : f 71 = (.int .i64 (k : Int)) := q16
        rw [q15, q16] at hK ⊢
        go_simp
        exact hK _ _ (Below.refl _ _) rfl trivial
      · refine mono.dutyS_of rfl ?_
        intro f W L hR hO hD hL hi hX K hK
        have eL : mono.lit 84 f [] = ⟨#[f 0, f 1, f 2, f 3, f 4, f 5, f 6, f 7, f 8, f 9, f 10, f 11, f 12, f 13, f 14, f 15, f 16, f 17, f 18, f 19, f 20, f 21, f 22, f 23, f 24, f 25, f 26, f 27, f 28, f 29, f 30, f 31, f 32, f 33, f 34, f 35, f 36, f 37, f 38, f 39, f 40, f 41, f 42, f 43, f 44, f 45, f 46, f 47, f 48, f 49, f 50, f 51, f 52, f 53, f 54, f 55, f 56, f 57, f 58, f 59, f 60, f 61, f 62, f 63, f 64, f 65, f 66, f 67, f 68, f 69, f 70, f 71, f 72, f 73, f 74, f 75, f 76, f 77, f 78, f 79, f 80, f 81, f 82, f 83], []⟩ := rfl
        replace hK : ∀ v W', (fun W W' => Below W.heap.size W W') W W' → phSa w.heap.size ga oa ca gb ob cb E.p.length k e.d.length ku kb e.q au bu 18 v W' → (fun _ _ => True) (fun j => if j = 18 then true else L j) W' → K ((mono.lit 84 f []).put (some 73) v) W' := hK
        rw [eL] at hK ⊢
        simp only [Act.put, List.setIfInBounds_toArray, List.set_cons_succ, List.set_cons_zero] at hK
        have q17 := hD 17 72 (by kernel_rfl) (by kernel_rfl)
        replace q17 : f 72 = (.pointer (some ⟨ga, oa + k * 2, none⟩)) := q17
        rw [q17] at hK ⊢
        go_simp
        exact hK _ _ (Below.refl _ _) rfl trivial
      · refine mono.dutyS_of rfl ?_
        intro f W L hR hO hD hL hi hX K hK
        have eL : mono.lit 84 f [] = ⟨#[f 0, f 1, f 2, f 3, f 4, f 5, f 6, f 7, f 8, f 9, f 10, f 11, f 12, f 13, f 14, f 15, f 16, f 17, f 18, f 19, f 20, f 21, f 22, f 23, f 24, f 25, f 26, f 27, f 28, f 29, f 30, f 31, f 32, f 33, f 34, f 35, f 36, f 37, f 38, f 39, f 40, f 41, f 42, f 43, f 44, f 45, f 46, f 47, f 48, f 49, f 50, f 51, f 52, f 53, f 54, f 55, f 56, f 57, f 58, f 59, f 60, f 61, f 62, f 63, f 64, f 65, f 66, f 67, f 68, f 69, f 70, f 71, f 72, f 73, f 74, f 75, f 76, f 77, f 78, f 79, f 80, f 81, f 82, f 83], []⟩ := rfl
        replace hK : ∀ v W', (fun W W' => Below W.heap.size W W') W W' → phSa w.heap.size ga oa ca gb ob cb E.p.length k e.d.length ku kb e.q au bu 19 v W' → (fun _ _ => True) (fun j => if j = 19 then true else L j) W' → K ((mono.lit 84 f []).put (some 74) v) W' := hK
        rw [eL] at hK ⊢
        simp only [Act.put, List.setIfInBounds_toArray, List.set_cons_succ, List.set_cons_zero] at hK
        have q18 := hD 18 73 (by kernel_rfl) (by kernel_rfl)
        replace q18 : f 73 = (.pointer (some ⟨ga, oa + k * 2 + 1, none⟩)) := q18
        rw [q18] at hK ⊢
        have c0 := (hR.cell (p := ⟨ga, oa + k * 2 + 1, none⟩) hga).trans a1
        go_simp
        exact hK _ _ (Below.refl _ _) rfl trivial
      · refine mono.dutyS_of rfl ?_
        intro f W L hR hO hD hL hi hX K hK
        have eL : mono.lit 84 f [] = ⟨#[f 0, f 1, f 2, f 3, f 4, f 5, f 6, f 7, f 8, f 9, f 10, f 11, f 12, f 13, f 14, f 15, f 16, f 17, f 18, f 19, f 20, f 21, f 22, f 23, f 24, f 25, f 26, f 27, f 28, f 29, f 30, f 31, f 32, f 33, f 34, f 35, f 36, f 37, f 38, f 39, f 40, f 41, f 42, f 43, f 44, f 45, f 46, f 47, f 48, f 49, f 50, f 51, f 52, f 53, f 54, f 55, f 56, f 57, f 58, f 59, f 60, f 61, f 62, f 63, f 64, f 65, f 66, f 67, f 68, f 69, f 70, f 71, f 72, f 73, f 74, f 75, f 76, f 77, f 78, f 79, f 80, f 81, f 82, f 83], []⟩ := rfl
        replace hK : ∀ v W', (fun W W' => Below W.heap.size W W') W W' → phSa w.heap.size ga oa ca gb ob cb E.p.length k e.d.length ku kb e.q au bu 20 v W' → (fun _ _ => True) (fun j => if j = 20 then true else L j) W' → K ((mono.lit 84 f []).put (some 75) v) W' := hK
        rw [eL] at hK ⊢
        simp only [Act.put, List.setIfInBounds_toArray, List.set_cons_succ, List.set_cons_zero] at hK
        have o3 : f 3 = (.pointer (some ⟨w.heap.size + 1, 0, none⟩)) := hO 3 (by kernel_rfl)
        rw [o3] at hK ⊢
        go_simp
        exact hK _ _ (Below.refl _ _) rfl trivial
      · refine mono.dutyS_of rfl ?_
        intro f W L hR hO hD hL hi hX K hK
        have eL : mono.lit 84 f [] = ⟨#[f 0, f 1, f 2, f 3, f 4, f 5, f 6, f 7, f 8, f 9, f 10, f 11, f 12, f 13, f 14, f 15, f 16, f 17, f 18, f 19, f 20, f 21, f 22, f 23, f 24, f 25, f 26, f 27, f 28, f 29, f 30, f 31, f 32, f 33, f 34, f 35, f 36, f 37, f 38, f 39, f 40, f 41, f 42, f 43, f 44, f 45, f 46, f 47, f 48, f 49, f 50, f 51, f 52, f 53, f 54, f 55, f 56, f 57, f 58, f 59, f 60, f 61, f 62, f 63, f 64, f 65, f 66, f 67, f 68, f 69, f 70, f 71, f 72, f 73, f 74, f 75, f 76, f 77, f 78, f 79, f 80, f 81, f 82, f 83], []⟩ := rfl
        replace hK : ∀ v W', (fun W W' => Below W.heap.size W W') W W' → phSa w.heap.size ga oa ca gb ob cb E.p.length k e.d.length ku kb e.q au bu 21 v W' → (fun _ _ => True) (fun j => if j = 21 then true else L j) W' → K ((mono.lit 84 f []).put (some 76) v) W' := hK
        rw [eL] at hK ⊢
        simp only [Act.put, List.setIfInBounds_toArray, List.set_cons_succ, List.set_cons_zero] at hK
        have q20 := hD 20 75 (by kernel_rfl) (by kernel_rfl)
        replace q20 : f 75 = (.pointer (some ⟨w.heap.size + 1, 5, none⟩)) := q20
        rw [q20] at hK ⊢
        have y5 := (cellsEB (EB.below (W := wr.drew) hyr hR)).2.2.2.2.2
        go_simp
        exact hK _ _ (Below.refl _ _) rfl trivial
      · refine mono.dutyS_of rfl ?_
        intro f W L hR hO hD hL hi hX K hK
        have eL : mono.lit 84 f [] = ⟨#[f 0, f 1, f 2, f 3, f 4, f 5, f 6, f 7, f 8, f 9, f 10, f 11, f 12, f 13, f 14, f 15, f 16, f 17, f 18, f 19, f 20, f 21, f 22, f 23, f 24, f 25, f 26, f 27, f 28, f 29, f 30, f 31, f 32, f 33, f 34, f 35, f 36, f 37, f 38, f 39, f 40, f 41, f 42, f 43, f 44, f 45, f 46, f 47, f 48, f 49, f 50, f 51, f 52, f 53, f 54, f 55, f 56, f 57, f 58, f 59, f 60, f 61, f 62, f 63, f 64, f 65, f 66, f 67, f 68, f 69, f 70, f 71, f 72, f 73, f 74, f 75, f 76, f 77, f 78, f 79, f 80, f 81, f 82, f 83], []⟩ := rfl
        replace hK : ∀ v W', (fun W W' => Below W.heap.size W W') W W' → phSa w.heap.size ga oa ca gb ob cb E.p.length k e.d.length ku kb e.q au bu 22 v W' → (fun _ _ => True) (fun j => if j = 22 then true else L j) W' → K ((mono.lit 84 f []).put (some 77) v) W' := hK
        rw [eL] at hK ⊢
        simp only [Act.put, List.setIfInBounds_toArray, List.set_cons_succ, List.set_cons_zero] at hK
        have o5 : f 5 = (.int .i64 (k : Int)) := hO 5 (by kernel_rfl)
        rw [o5] at hK ⊢
        go_simp
        exact hK _ _ (Below.refl _ _) rfl trivial
      · refine mono.dutyS_of rfl ?_
        intro f W L hR hO hD hL hi hX K hK
        have eL : mono.lit 84 f [] = ⟨#[f 0, f 1, f 2, f 3, f 4, f 5, f 6, f 7, f 8, f 9, f 10, f 11, f 12, f 13, f 14, f 15, f 16, f 17, f 18, f 19, f 20, f 21, f 22, f 23, f 24, f 25, f 26, f 27, f 28, f 29, f 30, f 31, f 32, f 33, f 34, f 35, f 36, f 37, f 38, f 39, f 40, f 41, f 42, f 43, f 44, f 45, f 46, f 47, f 48, f 49, f 50, f 51, f 52, f 53, f 54, f 55, f 56, f 57, f 58, f 59, f 60, f 61, f 62, f 63, f 64, f 65, f 66, f 67, f 68, f 69, f 70, f 71, f 72, f 73, f 74, f 75, f 76, f 77, f 78, f 79, f 80, f 81, f 82, f 83], []⟩ := rfl
        replace hK : ∀ v W', (fun W W' => Below W.heap.size W W') W W' → phSa w.heap.size ga oa ca gb ob cb E.p.length k e.d.length ku kb e.q au bu 23 v W' → (fun _ _ => True) (fun j => if j = 23 then true else L j) W' → K ((mono.lit 84 f []).put (some 78) v) W' := hK
        rw [eL] at hK ⊢
        simp only [Act.put, List.setIfInBounds_toArray, List.set_cons_succ, List.set_cons_zero] at hK
        have q21 := hD 21 76 (by kernel_rfl) (by kernel_rfl)
        replace q21 : f 76 = (.slice (some ⟨gb, ob, none⟩) E.p.length cb) := q21
        have q22 := hD 22 77 (by kernel_rfl) (by kernel_rfl)
        replace q22 : f 77 = (.int .i64 (k : Int)) := q22
        rw [q21, q22] at hK ⊢
        go_simp
        exact hK _ _ (Below.refl _ _) rfl trivial
      · refine mono.dutyS_of rfl ?_
        intro f W L hR hO hD hL hi hX K hK
        have eL : mono.lit 84 f [] = ⟨#[f 0, f 1, f 2, f 3, f 4, f 5, f 6, f 7, f 8, f 9, f 10, f 11, f 12, f 13, f 14, f 15, f 16, f 17, f 18, f 19, f 20, f 21, f 22, f 23, f 24, f 25, f 26, f 27, f 28, f 29, f 30, f 31, f 32, f 33, f 34, f 35, f 36, f 37, f 38, f 39, f 40, f 41, f 42, f 43, f 44, f 45, f 46, f 47, f 48, f 49, f 50, f 51, f 52, f 53, f 54, f 55, f 56, f 57, f 58, f 59, f 60, f 61, f 62, f 63, f 64, f 65, f 66, f 67, f 68, f 69, f 70, f 71, f 72, f 73, f 74, f 75, f 76, f 77, f 78, f 79, f 80, f 81, f 82, f 83], []⟩ := rfl
        replace hK : ∀ v W', (fun W W' => Below W.heap.size W W') W W' → phSa w.heap.size ga oa ca gb ob cb E.p.length k e.d.length ku kb e.q au bu 24 v W' → (fun _ _ => True) (fun j => if j = 24 then true else L j) W' → K ((mono.lit 84 f []).put (some 79) v) W' := hK
        rw [eL] at hK ⊢
        simp only [Act.put, List.setIfInBounds_toArray, List.set_cons_succ, List.set_cons_zero] at hK
        have q23 := hD 23 78 (by kernel_rfl) (by kernel_rfl)
        replace q23 : f 78 = (.pointer (some ⟨gb, ob + k * 2, none⟩)) := q23
        rw [q23] at hK ⊢
        go_simp
        exact hK _ _ (Below.refl _ _) rfl trivial
      · refine mono.dutyS_of rfl ?_
        intro f W L hR hO hD hL hi hX K hK
        have eL : mono.lit 84 f [] = ⟨#[f 0, f 1, f 2, f 3, f 4, f 5, f 6, f 7, f 8, f 9, f 10, f 11, f 12, f 13, f 14, f 15, f 16, f 17, f 18, f 19, f 20, f 21, f 22, f 23, f 24, f 25, f 26, f 27, f 28, f 29, f 30, f 31, f 32, f 33, f 34, f 35, f 36, f 37, f 38, f 39, f 40, f 41, f 42, f 43, f 44, f 45, f 46, f 47, f 48, f 49, f 50, f 51, f 52, f 53, f 54, f 55, f 56, f 57, f 58, f 59, f 60, f 61, f 62, f 63, f 64, f 65, f 66, f 67, f 68, f 69, f 70, f 71, f 72, f 73, f 74, f 75, f 76, f 77, f 78, f 79, f 80, f 81, f 82, f 83], []⟩ := rfl
        replace hK : ∀ v W', (fun W W' => Below W.heap.size W W') W W' → phSa w.heap.size ga oa ca gb ob cb E.p.length k e.d.length ku kb e.q au bu 25 v W' → (fun _ _ => True) (fun j => if j = 25 then true else L j) W' → K ((mono.lit 84 f []).put (some 80) v) W' := hK
        rw [eL] at hK ⊢
        simp only [Act.put, List.setIfInBounds_toArray, List.set_cons_succ, List.set_cons_zero] at hK
        have q24 := hD 24 79 (by kernel_rfl) (by kernel_rfl)
        replace q24 : f 79 = (.pointer (some ⟨gb, ob + k * 2 + 1, none⟩)) := q24
        rw [q24] at hK ⊢
        have c0 := (hR.cell (p := ⟨gb, ob + k * 2 + 1, none⟩) hgb).trans b1
        go_simp
        exact hK _ _ (Below.refl _ _) rfl trivial
      · refine mono.dutyS_of rfl ?_
        intro f W L hR hO hD hL hi hX K hK
        have eL : mono.lit 84 f [] = ⟨#[f 0, f 1, f 2, f 3, f 4, f 5, f 6, f 7, f 8, f 9, f 10, f 11, f 12, f 13, f 14, f 15, f 16, f 17, f 18, f 19, f 20, f 21, f 22, f 23, f 24, f 25, f 26, f 27, f 28, f 29, f 30, f 31, f 32, f 33, f 34, f 35, f 36, f 37, f 38, f 39, f 40, f 41, f 42, f 43, f 44, f 45, f 46, f 47, f 48, f 49, f 50, f 51, f 52, f 53, f 54, f 55, f 56, f 57, f 58, f 59, f 60, f 61, f 62, f 63, f 64, f 65, f 66, f 67, f 68, f 69, f 70, f 71, f 72, f 73, f 74, f 75, f 76, f 77, f 78, f 79, f 80, f 81, f 82, f 83], []⟩ := rfl
        replace hK : ∀ v W', (fun W W' => Below W.heap.size W W') W W' → phSa w.heap.size ga oa ca gb ob cb E.p.length k e.d.length ku kb e.q au bu 26 v W' → (fun _ _ => True) (fun j => if j = 26 then true else L j) W' → K ((mono.lit 84 f []).put (some 81) v) W' := hK
        rw [eL] at hK ⊢
        simp only [Act.put, List.setIfInBounds_toArray, List.set_cons_succ, List.set_cons_zero] at hK
        have q19 := hD 19 74 (by kernel_rfl) (by kernel_rfl)
        replace q19 : f 74 = (.slice au e.d.length ku) := q19
        have q25 := hD 25 80 (by kernel_rfl) (by kernel_rfl)
        replace q25 : f 80 = (.slice bu e.d.length kb) := q25
        rw [q19, q25] at hK ⊢
        have cX := cS W hR
        go_simp
        refine cX.mono ?_
        rintro e w9 ⟨rfl, hb⟩
        exact hK _ _ hb rfl trivial
      · refine mono.dutyS_of rfl ?_
        intro f W L hR hO hD hL hi hX K hK
        have eL : mono.lit 84 f [] = ⟨#[f 0, f 1, f 2, f 3, f 4, f 5, f 6, f 7, f 8, f 9, f 10, f 11, f 12, f 13, f 14, f 15, f 16, f 17, f 18, f 19, f 20, f 21, f 22, f 23, f 24, f 25, f 26, f 27, f 28, f 29, f 30, f 31, f 32, f 33, f 34, f 35, f 36, f 37, f 38, f 39, f 40, f 41, f 42, f 43, f 44, f 45, f 46, f 47, f 48, f 49, f 50, f 51, f 52, f 53, f 54, f 55, f 56, f 57, f 58, f 59, f 60, f 61, f 62, f 63, f 64, f 65, f 66, f 67, f 68, f 69, f 70, f 71, f 72, f 73, f 74, f 75, f 76, f 77, f 78, f 79, f 80, f 81, f 82, f 83], []⟩ := rfl
        replace hK : ∀ v W', (fun W W' => Below W.heap.size W W') W W' → phSa w.heap.size ga oa ca gb ob cb E.p.length k e.d.length ku kb e.q au bu 27 v W' → (fun _ _ => True) (fun j => if j = 27 then true else L j) W' → K ((mono.lit 84 f []).put (some 82) v) W' := hK
        rw [eL] at hK ⊢
        simp only [Act.put, List.setIfInBounds_toArray, List.set_cons_succ, List.set_cons_zero] at hK
        have q26 := hD 26 81 (by kernel_rfl) (by kernel_rfl)
        replace q26 : f 81 = (.bool true) := q26
        rw [q26] at hK ⊢
        go_simp
        exact hK _ _ (Below.refl _ _) rfl trivial
      · refine mono.dutyS_of rfl ?_
        intro f W L hR hO hD hL hi hX K hK
        have eL : mono.lit 84 f [] = ⟨#[f 0, f 1, f 2, f 3, f 4, f 5, f 6, f 7, f 8, f 9, f 10, f 11, f 12, f 13, f 14, f 15, f 16, f 17, f 18, f 19, f 20, f 21, f 22, f 23, f 24, f 25, f 26, f 27, f 28, f 29, f 30, f 31, f 32, f 33, f 34, f 35, f 36, f 37, f 38, f 39, f 40, f 41, f 42, f 43, f 44, f 45, f 46, f 47, f 48, f 49, f 50, f 51, f 52, f 53, f 54, f 55, f 56, f 57, f 58, f 59, f 60, f 61, f 62, f 63, f 64, f 65, f 66, f 67, f 68, f 69, f 70, f 71, f 72, f 73, f 74, f 75, f 76, f 77, f 78, f 79, f 80, f 81, f 82, f 83], []⟩ := rfl
        replace hK : ∀ v W', (fun W W' => Below W.heap.size W W') W W' → phSa w.heap.size ga oa ca gb ob cb E.p.length k e.d.length ku kb e.q au bu 28 v W' → (fun _ _ => True) (fun j => if j = 28 then true else L j) W' → K ((mono.lit 84 f []).put (some 83) v) W' := hK
        rw [eL] at hK ⊢
        simp only [Act.put, List.setIfInBounds_toArray, List.set_cons_succ, List.set_cons_zero] at hK
        have q13 := hD 13 68 (by kernel_rfl) (by kernel_rfl)
        replace q13 : f 68 = (.bool false) := q13
        have q27 := hD 27 82 (by kernel_rfl) (by kernel_rfl)
        replace q27 : f 82 = (.bool false) := q27
        rw [q13, q27] at hK ⊢
        go_simp
        exact hK _ _ (Below.refl _ _) rfl trivial
      · intro f W L hR hO hD hL hX
        have r0 := hO 0 (by kernel_rfl)
        have r1 := hO 1 (by kernel_rfl)
        have r2 := hO 2 (by kernel_rfl)
        have r3 := hO 3 (by kernel_rfl)
        have r4 := hO 4 (by kernel_rfl)
        have r5 := hO 5 (by kernel_rfl)
        have r6 := hO 6 (by kernel_rfl)
        have r7 := hO 7 (by kernel_rfl)
        have r8 := hO 8 (by kernel_rfl)
        have r9 := hO 9 (by kernel_rfl)
        have r10 := hO 10 (by kernel_rfl)
        have r11 := hO 11 (by kernel_rfl)
        have r12 := hO 12 (by kernel_rfl)
        have r13 := hO 13 (by kernel_rfl)
        have r14 := hO 14 (by kernel_rfl)
        have r15 := hO 15 (by kernel_rfl)
        have r16 := hO 16 (by kernel_rfl)
        have r17 := hO 17 (by kernel_rfl)
        have r18 := hO 18 (by kernel_rfl)
        have r19 := hO 19 (by kernel_rfl)
        have r20 := hO 20 (by kernel_rfl)
        have r21 := hO 21 (by kernel_rfl)
        have r22 := hO 22 (by kernel_rfl)
        have r23 := hO 23 (by kernel_rfl)
        have r24 := hO 24 (by kernel_rfl)
        have r25 := hO 25 (by kernel_rfl)
        have r26 := hO 26 (by kernel_rfl)
        have r27 := hO 27 (by kernel_rfl)
        have r28 := hO 28 (by kernel_rfl)
        have r29 := hO 29 (by kernel_rfl)
        have r30 := hO 30 (by kernel_rfl)
        have r31 := hO 31 (by kernel_rfl)
        have r32 := hO 32 (by kernel_rfl)
        have r33 := hO 33 (by kernel_rfl)
        have r34 := hO 34 (by kernel_rfl)
        have r35 := hO 35 (by kernel_rfl)
        have r36 := hO 36 (by kernel_rfl)
        have r37 := hO 37 (by kernel_rfl)
        have r38 := hO 38 (by kernel_rfl)
        have r39 := hO 39 (by kernel_rfl)
        have r40 := hO 40 (by kernel_rfl)
        have r41 := hO 41 (by kernel_rfl)
        have r42 := hO 42 (by kernel_rfl)
        have r43 := hO 43 (by kernel_rfl)
        have r44 := hO 44 (by kernel_rfl)
        have r45 := hO 45 (by kernel_rfl)
        have r46 := hO 46 (by kernel_rfl)
        have r47 := hO 47 (by kernel_rfl)
        have r48 := hO 48 (by kernel_rfl)
        have r49 := hO 49 (by kernel_rfl)
        have r50 := hO 50 (by kernel_rfl)
        have r51 := hO 51 (by kernel_rfl)
        have r52 := hO 52 (by kernel_rfl)
        have r53 := hO 53 (by kernel_rfl)
        have r54 := hO 54 (by kernel_rfl)
        have r83 := hD 28 83 (by kernel_rfl)
        replace r83 : f 83 = .bool false := r83
        have eL : mono.lit 84 f [] = ⟨#[f 0, f 1, f 2, f 3, f 4, f 5, f 6, f 7, f 8, f 9, f 10, f 11, f 12, f 13, f 14, f 15, f 16, f 17, f 18, f 19, f 20, f 21, f 22, f 23, f 24, f 25, f 26, f 27, f 28, f 29, f 30, f 31, f 32, f 33, f 34, f 35, f 36, f 37, f 38, f 39, f 40, f 41, f 42, f 43, f 44, f 45, f 46, f 47, f 48, f 49, f 50, f 51, f 52, f 53, f 54, f 55, f 56, f 57, f 58, f 59, f 60, f 61, f 62, f 63, f 64, f 65, f 66, f 67, f 68, f 69, f 70, f 71, f 72, f 73, f 74, f 75, f 76, f 77, f 78, f 79, f 80, f 81, f 82, f 83], []⟩ := rfl
        rw [eL, r0, r1, r2, r3, r4, r5, r6, r7, r8, r9, r10, r11, r12, r13, r14, r15, r16, r17, r18, r19, r20, r21, r22, r23, r24, r25, r26, r27, r28, r29, r30, r31, r32, r33, r34, r35, r36, r37, r38, r39, r40, r41, r42, r43, r44, r45, r46, r47, r48, r49, r50, r51, r52, r53, r54, r83]
        go_wp2_with fail
        exact ⟨⟨k + 1, by omega, by go_num, chain hbl ((Below.refl _ _).drew.trans hR)⟩, by simp [Go.RowKit.intOf]; omega⟩
    · have hlt' : ¬ (k : Int) < (E.p.length : Int) := by omega
      go_wp2_with fail
      go_ret
      exact ⟨rfl, hB⟩
end Go.Proofs.YtcdnlkhjlgaaoaaDoor
