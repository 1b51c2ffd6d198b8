/-
  The reference: Same of any two deltas.
-/
import Derived.Test.YtcdnlkhjlgaaoaaGreatDoorClP
import Derived.BigRegion
import Derived.Test.YtcdnlkhjlgaaoaaGreatDoorDrJ
import Derived.Test.YtcdnlkhjlgaaoaaGreatDoorDlL
import Derived.Test.YtcdnlkhjlgaaoaaGreatDoorDArU
import Derived.Laws.AppendOwnNone
namespace Go.Proofs.YtcdnlkhjlgaaoaaGreatDoor
open Go.ChangeShapes Go.WideShapes Go.ChangeAt Go.RowKit Go.PlainAid

set_option maxRecDepth 20000 in
set_option maxHeartbeats 1000000 in
theorem same_any (va vb : Value) (A B : List OpD) (w : World) (hA : RdD w va A) (hB : RdD w vb B) (hm : A.length ≤ maxLen) :
    Calls Tryz.prog 25 #[va, vb] w fun e w' => e = .returned (.bool (decide (A = B))) ∧ Below w.heap.size w w' := by
  obtain ⟨ao, ac, rfl, _, hac⟩ := hA
  obtain ⟨bo, bc, rfl, _, hbc⟩ := hB
  unfold maxLen at hm
  by_cases hl : A.length = B.length
  · obtain ⟨res, Hres⟩ : ∃ res, Hid (decide (A = B) = res) := ⟨_, rfl⟩
    have hl' : ((A.length : Int) != (B.length : Int)) = false := by simp [hl]
    rw [Hres.out]
    go_enter Tryz.func25, Tryz.ntmps25
    go_wp2_with fail
    go_loopw [5] (fun i wr => ∃ k : Nat, k ≤ A.length ∧ i = .int .i64 (k : Int) ∧ Hid (A.take k = B.take k) ∧ Below w.heap.size w wr) (fun i _ => A.length - (Go.RowKit.intOf i).toNat)
    case atStart => exact ⟨0, by omega, rfl, rfl, Below.refl _ _⟩
    case round =>
      obtain ⟨k, hk, rfl, HT, hbl⟩ := hrel
      by_cases hlt : k < A.length
      · have hlt' : (k : Int) < (A.length : Int) := by omega
        have hltB : k < B.length := by omega
        have hltB' : (k : Int) < (B.length : Int) := by omega
        obtain ⟨b1, o1, rfl, hb1, c0, c1, c2⟩ := hac k A[k] (by simp [hlt])
        obtain ⟨b2, o2, rfl, hb2, d0, d1, d2⟩ := hbc k B[k] (by simp [hltB])
        have hB1 : ∀ o, wr.cell? ⟨b1, o, none⟩ = w.cell? ⟨b1, o, none⟩ := fun o => hbl.cell (p := ⟨b1, o, none⟩) hb1
        have hB2 : ∀ o, wr.cell? ⟨b2, o, none⟩ = w.cell? ⟨b2, o, none⟩ := fun o => hbl.cell (p := ⟨b2, o, none⟩) hb2
        rw [← hB1] at c0 c1 c2
        rw [← hB2] at d0 d1 d2
        clear hB1 hB2 hac hbc
        by_cases he : A[k] = B[k]
        · have HT2 : Hid (A.take (k + 1) = B.take (k + 1)) := by
            show _ = _
            rw [List.take_succ_eq_append_getElem hlt, List.take_succ_eq_append_getElem hltB, HT.out, he]
          rw [he] at c0 c1 c2
          clear he HT
          generalize B[k] = y at *
          go_wp2_with fail
          go_region
          go_wp2_with fail
          exact ⟨⟨k + 1, by omega, by go_num, HT2, Below.drew hbl⟩, by simp [Go.RowKit.intOf]; omega⟩
        · have Hr : Hid (res = false) := by
            show _ = _
            rw [← Hres.out]
            exact decide_eq_false (take_ne hlt hltB he)
          have hne := opd_ne he
          clear he HT
          generalize A[k] = x at *
          generalize B[k] = y at *
          rcases hne with h1 | ⟨h1, h2⟩ | ⟨h1, h2, h3⟩
          · have h1' : (x.k == y.k) = false := by simpa using h1
            clear h1
            go_wp2_with fail
            go_region
            go_wp2_with fail
            go_ret
            exact ⟨by rw [Hr.out]; rfl, Below.drew hbl⟩
          · have h1' : (x.k == y.k) = true := by simpa using h1
            have h2' : (x.n == y.n) = false := by simpa using h2
            clear h1 h2
            go_wp2_with fail
            go_region
            go_wp2_with fail
            go_ret
            exact ⟨by rw [Hr.out]; rfl, Below.drew hbl⟩
          · have h1' : (x.k == y.k) = true := by simpa using h1
            have h2' : (x.n == y.n) = true := by simpa using h2
            have h3' : ¬ x.t.toList = y.t.toList := str_neC h3
            clear h1 h2 h3
            go_wp2_with fail
            go_region
            go_wp2_with fail
            go_ret
            exact ⟨by rw [Hr.out]; rfl, Below.drew hbl⟩
      · have hlt' : ¬ (k : Int) < (A.length : Int) := by omega
        have Hr : Hid (res = true) := by
          show _ = _
          rw [← Hres.out]
          refine decide_eq_true ?_
          have := HT.out
          rwa [List.take_of_length_le (by omega), List.take_of_length_le (by omega)] at this
        go_wp2_with fail
        go_ret
        exact ⟨by rw [Hr.out]; rfl, hbl⟩
  · have e : decide (A = B) = false := decide_eq_false (fun h => hl (by rw [h]))
    rw [e]
    have hl' : ((A.length : Int) != (B.length : Int)) = true := by simp; omega
    clear e hac hbc
    go_enter Tryz.func25, Tryz.ntmps25
    go_wp2_with fail
    go_ret
    exact ⟨rfl, Below.refl _ _⟩
end Go.Proofs.YtcdnlkhjlgaaoaaGreatDoor

/-
  The reference: Same of equal editors.
-/
namespace Go.Proofs.YtcdnlkhjlgaaoaaGreatDoor
open Go.ChangeShapes Go.WideShapes Go.ChangeAt Go.RowKit Go.PlainAid

def phSa (x ga oa ca gb ob cb n k m ku kb : Nat) (q : Int) (au bu : Option Addr) : Nat → Value → World → Prop
  | 0, v, _ => v = (.pointer (some ⟨x, 5, none⟩))
  | 1, v, _ => v = (.slice (some ⟨ga, oa, none⟩) n ca)
  | 2, v, _ => v = (.int .i64 (k : Int))
  | 3, v, _ => v = (.pointer (some ⟨ga, oa + k * 2, none⟩))
  | 4, v, _ => v = (.pointer (some ⟨ga, oa + k * 2, none⟩))
  | 5, v, _ => v = (.int .i64 q)
  | 6, v, _ => v = (.pointer (some ⟨(x + 1), 5, none⟩))
  | 7, v, _ => v = (.slice (some ⟨gb, ob, none⟩) n cb)
  | 8, v, _ => v = (.int .i64 (k : Int))
  | 9, v, _ => v = (.pointer (some ⟨gb, ob + k * 2, none⟩))
  | 10, v, _ => v = (.pointer (some ⟨gb, ob + k * 2, none⟩))
  | 11, v, _ => v = (.int .i64 q)
  | 12, v, _ => v = (.bool false)
  | 13, v, _ => v = (.bool false)
  | 14, v, _ => v = (.pointer (some ⟨x, 5, none⟩))
  | 15, v, _ => v = (.slice (some ⟨ga, oa, none⟩) n ca)
  | 16, v, _ => v = (.int .i64 (k : Int))
  | 17, v, _ => v = (.pointer (some ⟨ga, oa + k * 2, none⟩))
  | 18, v, _ => v = (.pointer (some ⟨ga, oa + k * 2 + 1, none⟩))
  | 19, v, _ => v = (.slice au m ku)
  | 20, v, _ => v = (.pointer (some ⟨(x + 1), 5, none⟩))
  | 21, v, _ => v = (.slice (some ⟨gb, ob, none⟩) n cb)
  | 22, v, _ => v = (.int .i64 (k : Int))
  | 23, v, _ => v = (.pointer (some ⟨gb, ob + k * 2, none⟩))
  | 24, v, _ => v = (.pointer (some ⟨gb, ob + k * 2 + 1, none⟩))
  | 25, v, _ => v = (.slice bu m kb)
  | 26, v, _ => v = (.bool true)
  | 27, v, _ => v = (.bool false)
  | 28, v, _ => v = (.bool false)
  | _, _, _ => True
theorem phSa_stays {x ga oa ca gb ob cb n k m ku kb : Nat} {q : Int} {au bu : Option Addr} (i : Nat) (v : Value) (w w' : World) (h : phSa x ga oa ca gb ob cb n k m ku kb q au bu i v w) (_hg : Below w.heap.size w w') : phSa x ga oa ca gb ob cb n k m ku kb q au bu i v w' := by
  unfold phSa at h ⊢
  split at h
  all_goals first
    | exact h
    | trivial
set_option maxRecDepth 20000 in
set_option maxHeartbeats 3000000 in
theorem rsame20_true (E : EdD) (va vb : Value) (w : World) (ha : RdEd w va E.p) (hb : RdEd w vb E.p) (hpl : E.p.length ≤ 1000000) (hF : ∀ e ∈ E.p, e.d.length ≤ maxLen) :
    Calls Tryz.prog 9 #[.agg (E.fs va), .agg (E.fs vb)] w fun e w' => e = .returned (.bool true) ∧ Below w.heap.size w w' := by
  have hx0 := eb_new w E va
  have hx := hx0.below (alloc_b _ (.cells (E.fs vb) 24))
  have hy := eb_new (w.alloc (.cells (E.fs va) 24)) E vb
  have hA := chain (alloc_b w (.cells (E.fs va) 24)) (alloc_b (w.alloc (.cells (E.fs va) 24)) (.cells (E.fs vb) 24))
  rw [World.size_alloc] at hy
  obtain ⟨aa, ca, rfl, -, hca⟩ := ha
  obtain ⟨ab, cb, rfl, -, hcb⟩ := hb
  simp only [EdD.fs] at *
  clear hx0
  obtain ⟨x0, x1, x2, x3, x4, x5⟩ := cellsEB hx
  obtain ⟨y0, y1, y2, y3, y4, y5⟩ := cellsEB hy
  go_enter Tryz.func9, Tryz.ntmps9
  go_wp2_with fail
  clear x0 x1 x2 x3 x4 x5 y0 y1 y2 y3 y4 y5
  generalize (w.alloc (.cells #[.int .i64 E.c, .int .i64 E.b, .int .i64 E.r, .string E.t, .int .i64 E.s, .slice aa E.p.length ca] 24)).alloc (.cells #[.int .i64 E.c, .int .i64 E.b, .int .i64 E.r, .string E.t, .int .i64 E.s, .slice ab E.p.length cb] 24) = w2 at *
  go_loopw [5] (fun i wr => ∃ (k : Nat), k ≤ E.p.length ∧ i = .int .i64 (k : Int) ∧ Below w2.heap.size w2 wr) (fun i _ => E.p.length - (Go.RowKit.intOf i).toNat)
  case atStart => exact ⟨0, by omega, rfl, Below.refl _ _⟩
  case round =>
    obtain ⟨k, hk, rfl, hbl⟩ := hrel
    have hB := chain hA hbl
    have hxr := hx.below hbl
    have hyr := hy.below hbl
    have x5 := (cellsEB hxr).2.2.2.2.2
    by_cases hlt : k < E.p.length
    · have hlt' : (k : Int) < (E.p.length : Int) := by omega
      obtain ⟨ga, oa, ua, rfl, hga, a0, a1, a2⟩ := hca k E.p[k] (by simp [hlt])
      obtain ⟨gb, ob, ub, rfl, hgb, b0, b1, b2⟩ := hcb k E.p[k] (by simp [hlt])
      have hlm := hF E.p[k] (List.getElem_mem hlt)
      obtain ⟨au, ku, rfl⟩ := rdd_len a2
      obtain ⟨bu, kb, rfl⟩ := rdd_len b2
      have cS := fun W (h : Below wr.drew.heap.size wr.drew W) => same_true _ _ E.p[k].d W hlm ((a2.below hB.drew).below h) ((b2.below hB.drew).below h)
      replace a0 := (hB.drew.cell (p := ⟨ga, oa + k * 2, none⟩) hga).trans a0
      replace a1 := (hB.drew.cell (p := ⟨ga, oa + k * 2 + 1, none⟩) hga).trans a1
      replace b0 := (hB.drew.cell (p := ⟨gb, ob + k * 2, none⟩) hgb).trans b0
      replace b1 := (hB.drew.cell (p := ⟨gb, ob + k * 2 + 1, none⟩) hgb).trans b1
      replace hga : ga < wr.drew.heap.size := Nat.lt_of_lt_of_le hga hB.size
      replace hgb : gb < wr.drew.heap.size := Nat.lt_of_lt_of_le hgb hB.size
      clear hca hcb hF a2 b2 hlm
      generalize E.p[k] = e at *
      go_upto_region 6 with fail
      clear x5
      refine mono.region_monoS (fun W W' => Below W.heap.size W W') (fun _ => Below.refl _ _) (fun _ _ _ => chain) (phSa w.heap.size ga oa ca gb ob cb E.p.length k e.d.length ku kb e.q au bu) ((fun _ _ => True) ) 84 [] [0, 1, 2, 3, 4, 5, 6, 7, 8, 9, 10, 11, 12, 13, 14, 15, 16, 17, 18, 19, 20, 21, 22, 23, 24, 25, 26, 27, 28] (by kernel_rfl) rfl rfl (by kernel_rfl) [(13, false)] (by kernel_rfl) (fun j b hj v w h => by simp only [List.mem_cons, Prod.mk.injEq, List.not_mem_nil, or_false] at hj; obtain ⟨rfl, rfl⟩ := hj; exact h) (phSa_stays) (trivial) (.cons ?_ (.cons ?_ (.cons ?_ (.cons ?_ (.cons ?_ (.cons ?_ (.cons ?_ (.cons ?_ (.cons ?_ (.cons ?_ (.cons ?_ (.cons ?_ (.cons ?_ (.cons ?_ (.cons ?_ (.cons ?_ (.cons ?_ (.cons ?_ (.cons ?_ (.cons ?_ (.cons ?_ (.cons ?_ (.cons ?_ (.cons ?_ (.cons ?_ (.cons ?_ (.cons ?_ (.cons ?_ (.cons ?_ (.nil)))))))))))))))))))))))))))))) ?_
      · refine mono.dutyS_of rfl ?_
        intro f W L hR hO hD hL hi hX K hK
        have eL : mono.lit 84 f [] = ⟨#[f 0, f 1, f 2, f 3, f 4, f 5, f 6, f 7, f 8, f 9, f 10, f 11, f 12, f 13, f 14, f 15, f 16, f 17, f 18, f 19, f 20, f 21, f 22, f 23, f 24, f 25, f 26, f 27, f 28, f 29, f 30, f 31, f 32, f 33, f 34, f 35, f 36, f 37, f 38, f 39, f 40, f 41, f 42, f 43, f 44, f 45, f 46, f 47, f 48, f 49, f 50, f 51, f 52, f 53, f 54, f 55, f 56, f 57, f 58, f 59, f 60, f 61, f 62, f 63, f 64, f 65, f 66, f 67, f 68, f 69, f 70, f 71, f 72, f 73, f 74, f 75, f 76, f 77, f 78, f 79, f 80, f 81, f 82, f 83], []⟩ := rfl
        replace hK : ∀ v W', (fun W W' => Below W.heap.size W W') W W' → phSa w.heap.size ga oa ca gb ob cb E.p.length k e.d.length ku kb e.q au bu 0 v W' → (fun _ _ => True) (fun j => if j = 0 then true else L j) W' → K ((mono.lit 84 f []).put (some 55) v) W' := hK
        rw [eL] at hK ⊢
        simp only [Act.put, List.setIfInBounds_toArray, List.set_cons_succ, List.set_cons_zero] at hK
        have o2 : f 2 = (.pointer (some ⟨w.heap.size, 0, none⟩)) := hO 2 (by kernel_rfl)
        rw [o2] at hK ⊢
        go_simp
        exact hK _ _ (Below.refl _ _) rfl trivial
      · refine mono.dutyS_of rfl ?_
        intro f W L hR hO hD hL hi hX K hK
        have eL : mono.lit 84 f [] = ⟨#[f 0, f 1, f 2, f 3, f 4, f 5, f 6, f 7, f 8, f 9, f 10, f 11, f 12, f 13, f 14, f 15, f 16, f 17, f 18, f 19, f 20, f 21, f 22, f 23, f 24, f 25, f 26, f 27, f 28, f 29, f 30, f 31, f 32, f 33, f 34, f 35, f 36, f 37, f 38, f 39, f 40, f 41, f 42, f 43, f 44, f 45, f 46, f 47, f 48, f 49, f 50, f 51, f 52, f 53, f 54, f 55, f 56, f 57, f 58, f 59, f 60, f 61, f 62, f 63, f 64, f 65, f 66, f 67, f 68, f 69, f 70, f 71, f 72, f 73, f 74, f 75, f 76, f 77, f 78, f 79, f 80, f 81, f 82, f 83], []⟩ := rfl
        replace hK : ∀ v W', (fun W W' => Below W.heap.size W W') W W' → phSa w.heap.size ga oa ca gb ob cb E.p.length k e.d.length ku kb e.q au bu 1 v W' → (fun _ _ => True) (fun j => if j = 1 then true else L j) W' → K ((mono.lit 84 f []).put (some 56) v) W' := hK
        rw [eL] at hK ⊢
        simp only [Act.put, List.setIfInBounds_toArray, List.set_cons_succ, List.set_cons_zero] at hK
        have q0 := hD 0 55 (by kernel_rfl) (by kernel_rfl)
        replace q0 : f 55 = (.pointer (some ⟨w.heap.size, 5, none⟩)) := q0
        rw [q0] at hK ⊢
        have x5 := (cellsEB (EB.below (W := wr.drew) hxr hR)).2.2.2.2.2
        go_simp
        exact hK _ _ (Below.refl _ _) rfl trivial
      · refine mono.dutyS_of rfl ?_
        intro f W L hR hO hD hL hi hX K hK
        have eL : mono.lit 84 f [] = ⟨#[f 0, f 1, f 2, f 3, f 4, f 5, f 6, f 7, f 8, f 9, f 10, f 11, f 12, f 13, f 14, f 15, f 16, f 17, f 18, f 19, f 20, f 21, f 22, f 23, f 24, f 25, f 26, f 27, f 28, f 29, f 30, f 31, f 32, f 33, f 34, f 35, f 36, f 37, f 38, f 39, f 40, f 41, f 42, f 43, f 44, f 45, f 46, f 47, f 48, f 49, f 50, f 51, f 52, f 53, f 54, f 55, f 56, f 57, f 58, f 59, f 60, f 61, f 62, f 63, f 64, f 65, f 66, f 67, f 68, f 69, f 70, f 71, f 72, f 73, f 74, f 75, f 76, f 77, f 78, f 79, f 80, f 81, f 82, f 83], []⟩ := rfl
        replace hK : ∀ v W', (fun W W' => Below W.heap.size W W') W W' → phSa w.heap.size ga oa ca gb ob cb E.p.length k e.d.length ku kb e.q au bu 2 v W' → (fun _ _ => True) (fun j => if j = 2 then true else L j) W' → K ((mono.lit 84 f []).put (some 57) v) W' := hK
        rw [eL] at hK ⊢
        simp only [Act.put, List.setIfInBounds_toArray, List.set_cons_succ, List.set_cons_zero] at hK
        have o5 : f 5 = (.int .i64 (k : Int)) := hO 5 (by kernel_rfl)
        rw [o5] at hK ⊢
        go_simp
        exact hK _ _ (Below.refl _ _) rfl trivial
      · refine mono.dutyS_of rfl ?_
        intro f W L hR hO hD hL hi hX K hK
        have eL : mono.lit 84 f [] = ⟨#[f 0, f 1, f 2, f 3, f 4, f 5, f 6, f 7, f 8, f 9, f 10, f 11, f 12, f 13, f 14, f 15, f 16, f 17, f 18, f 19, f 20, f 21, f 22, f 23, f 24, f 25, f 26, f 27, f 28, f 29, f 30, f 31, f 32, f 33, f 34, f 35, f 36, f 37, f 38, f 39, f 40, f 41, f 42, f 43, f 44, f 45, f 46, f 47, f 48, f 49, f 50, f 51, f 52, f 53, f 54, f 55, f 56, f 57, f 58, f 59, f 60, f 61, f 62, f 63, f 64, f 65, f 66, f 67, f 68, f 69, f 70, f 71, f 72, f 73, f 74, f 75, f 76, f 77, f 78, f 79, f 80, f 81, f 82, f 83], []⟩ := rfl
        replace hK : ∀ v W', (fun W W' => Below W.heap.size W W') W W' → phSa w.heap.size ga oa ca gb ob cb E.p.length k e.d.length ku kb e.q au bu 3 v W' → (fun _ _ => True) (fun j => if j = 3 then true else L j) W' → K ((mono.lit 84 f []).put (some 58) v) W' := hK
        rw [eL] at hK ⊢
        simp only [Act.put, List.setIfInBounds_toArray, List.set_cons_succ, List.set_cons_zero] at hK
        have q1 := hD 1 56 (by kernel_rfl) (by kernel_rfl)
        replace q1 : f 56 = (.slice (some ⟨ga, oa, none⟩) E.p.length ca) := q1
        have q2 := hD 2 57 (by kernel_rfl) (by kernel_rfl)
        replace q2 : f 57 = (.int .i64 (k : Int)) := q2
        rw [q1, q2] at hK ⊢
        go_simp
        exact hK _ _ (Below.refl _ _) rfl trivial
      · refine mono.dutyS_of rfl ?_
        intro f W L hR hO hD hL hi hX K hK
        have eL : mono.lit 84 f [] = ⟨#[f 0, f 1, f 2, f 3, f 4, f 5, f 6, f 7, f 8, f 9, f 10, f 11, f 12, f 13, f 14, f 15, f 16, f 17, f 18, f 19, f 20, f 21, f 22, f 23, f 24, f 25, f 26, f 27, f 28, f 29, f 30, f 31, f 32, f 33, f 34, f 35, f 36, f 37, f 38, f 39, f 40, f 41, f 42, f 43, f 44, f 45, f 46, f 47, f 48, f 49, f 50, f 51, f 52, f 53, f 54, f 55, f 56, f 57, f 58, f 59, f 60, f 61, f 62, f 63, f 64, f 65, f 66, f 67, f 68, f 69, f 70, f 71, f 72, f 73, f 74, f 75, f 76, f 77, f 78, f 79, f 80, f 81, f 82, f 83], []⟩ := rfl
        replace hK : ∀ v W', (fun W W' => Below W.heap.size W W') W W' → phSa w.heap.size ga oa ca gb ob cb E.p.length k e.d.length ku kb e.q au bu 4 v W' → (fun _ _ => True) (fun j => if j = 4 then true else L j) W' → K ((mono.lit 84 f []).put (some 59) v) W' := hK
        rw [eL] at hK ⊢
        simp only [Act.put, List.setIfInBounds_toArray, List.set_cons_succ, List.set_cons_zero] at hK
        have q3 := hD 3 58 (by kernel_rfl) (by kernel_rfl)
        replace q3 : f 58 = (.pointer (some ⟨ga, oa + k * 2, none⟩)) := q3
        rw [q3] at hK ⊢
        go_simp
        exact hK _ _ (Below.refl _ _) rfl trivial
      · refine mono.dutyS_of rfl ?_
        intro f W L hR hO hD hL hi hX K hK
        have eL : mono.lit 84 f [] = ⟨#[f 0, f 1, f 2, f 3, f 4, f 5, f 6, f 7, f 8, f 9, f 10, f 11, f 12, f 13, f 14, f 15, f 16, f 17, f 18, f 19, f 20, f 21, f 22, f 23, f 24, f 25, f 26, f 27, f 28, f 29, f 30, f 31, f 32, f 33, f 34, f 35, f 36, f 37, f 38, f 39, f 40, f 41, f 42, f 43, f 44, f 45, f 46, f 47, f 48, f 49, f 50, f 51, f 52, f 53, f 54, f 55, f 56, f 57, f 58, f 59, f 60, f 61, f 62, f 63, f 64, f 65, f 66, f 67, f 68, f 69, f 70, f 71, f 72, f 73, f 74, f 75, f 76, f 77, f 78, f 79, f 80, f 81, f 82, f 83], []⟩ := rfl
        replace hK : ∀ v W', (fun W W' => Below W.heap.size W W') W W' → phSa w.heap.size ga oa ca gb ob cb E.p.length k e.d.length ku kb e.q au bu 5 v W' → (fun _ _ => True) (fun j => if j = 5 then true else L j) W' → K ((mono.lit 84 f []).put (some 60) v) W' := hK
        rw [eL] at hK ⊢
        simp only [Act.put, List.setIfInBounds_toArray, List.set_cons_succ, List.set_cons_zero] at hK
        have q4 := hD 4 59 (by kernel_rfl) (by kernel_rfl)
        replace q4 : f 59 = (.pointer (some ⟨ga, oa + k * 2, none⟩)) := q4
        rw [q4] at hK ⊢
        have c0 := (hR.cell (p := ⟨ga, oa + k * 2, none⟩) hga).trans a0
        go_simp
        exact hK _ _ (Below.refl _ _) rfl trivial
      · refine mono.dutyS_of rfl ?_
        intro f W L hR hO hD hL hi hX K hK
        have eL : mono.lit 84 f [] = ⟨#[f 0, f 1, f 2, f 3, f 4, f 5, f 6, f 7, f 8, f 9, f 10, f 11, f 12, f 13, f 14, f 15, f 16, f 17, f 18, f 19, f 20, f 21, f 22, f 23, f 24, f 25, f 26, f 27, f 28, f 29, f 30, f 31, f 32, f 33, f 34, f 35, f 36, f 37, f 38, f 39, f 40, f 41, f 42, f 43, f 44, f 45, f 46, f 47, f 48, f 49, f 50, f 51, f 52, f 53, f 54, f 55, f 56, f 57, f 58, f 59, f 60, f 61, f 62, f 63, f 64, f 65, f 66, f 67, f 68, f 69, f 70, f 71, f 72, f 73, f 74, f 75, f 76, f 77, f 78, f 79, f 80, f 81, f 82, f 83], []⟩ := rfl
        replace hK : ∀ v W', (fun W W' => Below W.heap.size W W') W W' → phSa w.heap.size ga oa ca gb ob cb E.p.length k e.d.length ku kb e.q au bu 6 v W' → (fun _ _ => True) (fun j => if j = 6 then true else L j) W' → K ((mono.lit 84 f []).put (some 61) v) W' := hK
        rw [eL] at hK ⊢
        simp only [Act.put, List.setIfInBounds_toArray, List.set_cons_succ, List.set_cons_zero] at hK
        have o3 : f 3 = (.pointer (some ⟨w.heap.size + 1, 0, none⟩)) := hO 3 (by kernel_rfl)
        rw [o3] at hK ⊢
        go_simp
        exact hK _ _ (Below.refl _ _) rfl trivial
      · refine mono.dutyS_of rfl ?_
        intro f W L hR hO hD hL hi hX K hK
        have eL : mono.lit 84 f [] = ⟨#[f 0, f 1, f 2, f 3, f 4, f 5, f 6, f 7, f 8, f 9, f 10, f 11, f 12, f 13, f 14, f 15, f 16, f 17, f 18, f 19, f 20, f 21, f 22, f 23, f 24, f 25, f 26, f 27, f 28, f 29, f 30, f 31, f 32, f 33, f 34, f 35, f 36, f 37, f 38, f 39, f 40, f 41, f 42, f 43, f 44, f 45, f 46, f 47, f 48, f 49, f 50, f 51, f 52, f 53, f 54, f 55, f 56, f 57, f 58, f 59, f 60, f 61, f 62, f 63, f 64, f 65, f 66, f 67, f 68, f 69, f 70, f 71, f 72, f 73, f 74, f 75, f 76, f 77, f 78, f 79, f 80, f 81, f 82, f 83], []⟩ := rfl
        replace hK : ∀ v W', (fun W W' => Below W.heap.size W W') W W' → phSa w.heap.size ga oa ca gb ob cb E.p.length k e.d.length ku kb e.q au bu 7 v W' → (fun _ _ => True) (fun j => if j = 7 then true else L j) W' → K ((mono.lit 84 f []).put (some 62) v) W' := hK
        rw [eL] at hK ⊢
        simp only [Act.put, List.setIfInBounds_toArray, List.set_cons_succ, List.set_cons_zero] at hK
        have q6 := hD 6 61 (by kernel_rfl) (by kernel_rfl)
        replace q6 : f 61 = (.pointer (some ⟨w.heap.size + 1, 5, none⟩)) := q6
        rw [q6] at hK ⊢
        have y5 := (cellsEB (EB.below (W := wr.drew) hyr hR)).2.2.2.2.2
        go_simp
        exact hK _ _ (Below.refl _ _) rfl trivial
      · refine mono.dutyS_of rfl ?_
        intro f W L hR hO hD hL hi hX K hK
        have eL : mono.lit 84 f [] = ⟨#[f 0, f 1, f 2, f 3, f 4, f 5, f 6, f 7, f 8, f 9, f 10, f 11, f 12, f 13, f 14, f 15, f 16, f 17, f 18, f 19, f 20, f 21, f 22, f 23, f 24, f 25, f 26, f 27, f 28, f 29, f 30, f 31, f 32, f 33, f 34, f 35, f 36, f 37, f 38, f 39, f 40, f 41, f 42, f 43, f 44, f 45, f 46, f 47, f 48, f 49, f 50, f 51, f 52, f 53, f 54, f 55, f 56, f 57, f 58, f 59, f 60, f 61, f 62, f 63, f 64, f 65, f 66, f 67, f 68, f 69, f 70, f 71, f 72, f 73, f 74, f 75, f 76, f 77, f 78, f 79, f 80, f 81, f 82, f 83], []⟩ := rfl
        replace hK : ∀ v W', (fun W W' => Below W.heap.size W W') W W' → phSa w.heap.size ga oa ca gb ob cb E.p.length k e.d.length ku kb e.q au bu 8 v W' → (fun _ _ => True) (fun j => if j = 8 then true else L j) W' → K ((mono.lit 84 f []).put (some 63) v) W' := hK
        rw [eL] at hK ⊢
        simp only [Act.put, List.setIfInBounds_toArray, List.set_cons_succ, List.set_cons_zero] at hK
        have o5 : f 5 = (.int .i64 (k : Int)) := hO 5 (by kernel_rfl)
        rw [o5] at hK ⊢
        go_simp
        exact hK _ _ (Below.refl _ _) rfl trivial
      · refine mono.dutyS_of rfl ?_
        intro f W L hR hO hD hL hi hX K hK
        have eL : mono.lit 84 f [] = ⟨#[f 0, f 1, f 2, f 3, f 4, f 5, f 6, f 7, f 8, f 9, f 10, f 11, f 12, f 13, f 14, f 15, f 16, f 17, f 18, f 19, f 20, f 21, f 22, f 23, f 24, f 25, f 26, f 27, f 28, f 29, f 30, f 31, f 32, f 33, f 34, f 35, f 36, f 37, f 38, f 39, f 40, f 41, f 42, f 43, f 44, f 45, f 46, f 47, f 48, f 49, f 50, f 51, f 52, f 53, f 54, f 55, f 56, f 57, f 58, f 59, f 60, f 61, f 62, f 63, f 64, f 65, f 66, f 67, f 68, f 69, f 70, f 71, f 72, f 73, f 74, f 75, f 76, f 77, f 78, f 79, f 80, f 81, f 82, f 83], []⟩ := rfl
        replace hK : ∀ v W', (fun W W' => Below W.heap.size W W') W W' → phSa w.heap.size ga oa ca gb ob cb E.p.length k e.d.length ku kb e.q au bu 9 v W' → (fun _ _ => True) (fun j => if j = 9 then true else L j) W' → K ((mono.lit 84 f []).put (some 64) v) W' := hK
        rw [eL] at hK ⊢
        simp only [Act.put, List.setIfInBounds_toArray, List.set_cons_succ, List.set_cons_zero] at hK
        have q7 := hD 7 62 (by kernel_rfl) (by kernel_rfl)
        replace q7 : f 62 = (.slice (some ⟨gb, ob, none⟩) E.p.length cb) := q7
        have q8 := hD 8 63 (by kernel_rfl) (by kernel_rfl)
        replace q8 : f 63 = (.int .i64 (k : Int)) := q8
        rw [q7, q8] at hK ⊢
        go_simp
        exact hK _ _ (Below.refl _ _) rfl trivial
      · refine mono.dutyS_of rfl ?_
        intro f W L hR hO hD hL hi hX K hK
        have eL : mono.lit 84 f [] = ⟨#[f 0, f 1, f 2, f 3, f 4, f 5, f 6, f 7, f 8, f 9, f 10, f 11, f 12, f 13, f 14, f 15, f 16, f 17, f 18, f 19, f 20, f 21, f 22, f 23, f 24, f 25, f 26, f 27, f 28, f 29, f 30, f 31, f 32, f 33, f 34, f 35, f 36, f 37, f 38, f 39, f 40, f 41, f 42, f 43, f 44, f 45, f 46, f 47, f 48, f 49, f 50, f 51, f 52, f 53, f 54, f 55, f 56, f 57, f 58, f 59, f 60, f 61, f 62, f 63, f 64, f 65, f 66, f 67, f 68, f 69, f 70, f 71, f 72, f 73, f 74, f 75, f 76, f 77, f 78, f 79, f 80, f 81, f 82, f 83], []⟩ := rfl
        replace hK : ∀ v W', (fun W W' => Below W.heap.size W W') W W' → phSa w.heap.size ga oa ca gb ob cb E.p.length k e.d.length ku kb e.q au bu 10 v W' → (fun _ _ => True) (fun j => if j = 10 then true else L j) W' → K ((mono.lit 84 f []).put (some 65) v) W' := hK
        rw [eL] at hK ⊢
        simp only [Act.put, List.setIfInBounds_toArray, List.set_cons_succ, List.set_cons_zero] at hK
        have q9 := hD 9 64 (by kernel_rfl) (by kernel_rfl)
        replace q9 : f 64 = (.pointer (some ⟨gb, ob + k * 2, none⟩)) := q9
        rw [q9] at hK ⊢
        go_simp
        exact hK _ _ (Below.refl _ _) rfl trivial
      · refine mono.dutyS_of rfl ?_
        intro f W L hR hO hD hL hi hX K hK
        have eL : mono.lit 84 f [] = ⟨#[f 0, f 1, f 2, f 3, f 4, f 5, f 6, f 7, f 8, f 9, f 10, f 11, f 12, f 13, f 14, f 15, f 16, f 17, f 18, f 19, f 20, f 21, f 22, f 23, f 24, f 25, f 26, f 27, f 28, f 29, f 30, f 31, f 32, f 33, f 34, f 35, f 36, f 37, f 38, f 39, f 40, f 41, f 42, f 43, f 44, f 45, f 46, f 47, f 48, f 49, f 50, f 51, f 52, f 53, f 54, f 55, f 56, f 57, f 58, f 59, f 60, f 61, f 62, f 63, f 64, f 65, f 66, f 67, f 68, f 69, f 70, f 71, f 72, f 73, f 74, f 75, f 76, f 77, f 78, f 79, f 80, f 81, f 82, f 83], []⟩ := rfl
        replace hK : ∀ v W', (fun W W' => Below W.heap.size W W') W W' → phSa w.heap.size ga oa ca gb ob cb E.p.length k e.d.length ku kb e.q au bu 11 v W' → (fun _ _ => True) (fun j => if j = 11 then true else L j) W' → K ((mono.lit 84 f []).put (some 66) v) W' := hK
        rw [eL] at hK ⊢
        simp only [Act.put, List.setIfInBounds_toArray, List.set_cons_succ, List.set_cons_zero] at hK
        have q10 := hD 10 65 (by kernel_rfl) (by kernel_rfl)
        replace q10 : f 65 = (.pointer (some ⟨gb, ob + k * 2, none⟩)) := q10
        rw [q10] at hK ⊢
        have c0 := (hR.cell (p := ⟨gb, ob + k * 2, none⟩) hgb).trans b0
        go_simp
        exact hK _ _ (Below.refl _ _) rfl trivial
      · refine mono.dutyS_of rfl ?_
        intro f W L hR hO hD hL hi hX K hK
        have eL : mono.lit 84 f [] = ⟨#[f 0, f 1, f 2, f 3, f 4, f 5, f 6, f 7, f 8, f 9, f 10, f 11, f 12, f 13, f 14, f 15, f 16, f 17, f 18, f 19, f 20, f 21, f 22, f 23, f 24, f 25, f 26, f 27, f 28, f 29, f 30, f 31, f 32, f 33, f 34, f 35, f 36, f 37, f 38, f 39, f 40, f 41, f 42, f 43, f 44, f 45, f 46, f 47, f 48, f 49, f 50, f 51, f 52, f 53, f 54, f 55, f 56, f 57, f 58, f 59, f 60, f 61, f 62, f 63, f 64, f 65, f 66, f 67, f 68, f 69, f 70, f 71, f 72, f 73, f 74, f 75, f 76, f 77, f 78, f 79, f 80, f 81, f 82, f 83], []⟩ := rfl
        replace hK : ∀ v W', (fun W W' => Below W.heap.size W W') W W' → phSa w.heap.size ga oa ca gb ob cb E.p.length k e.d.length ku kb e.q au bu 12 v W' → (fun _ _ => True) (fun j => if j = 12 then true else L j) W' → K ((mono.lit 84 f []).put (some 67) v) W' := hK
        rw [eL] at hK ⊢
        simp only [Act.put, List.setIfInBounds_toArray, List.set_cons_succ, List.set_cons_zero] at hK
        have q5 := hD 5 60 (by kernel_rfl) (by kernel_rfl)
        replace q5 : f 60 = (.int .i64 e.q) := q5
        have q11 := hD 11 66 (by kernel_rfl) (by kernel_rfl)
        replace q11 : f 66 = (.int .i64 e.q) := q11
        rw [q5, q11] at hK ⊢
        go_simp
        exact hK _ _ (Below.refl _ _) rfl trivial
      · refine mono.dutyS_of rfl ?_
        intro f W L hR hO hD hL hi hX K hK
        have eL : mono.lit 84 f [] = ⟨#[f 0, f 1, f 2, f 3, f 4, f 5, f 6, f 7, f 8, f 9, f 10, f 11, f 12, f 13, f 14, f 15, f 16, f 17, f 18, f 19, f 20, f 21, f 22, f 23, f 24, f 25, f 26, f 27, f 28, f 29, f 30, f 31, f 32, f 33, f 34, f 35, f 36, f 37, f 38, f 39, f 40, f 41, f 42, f 43, f 44, f 45, f 46, f 47, f 48, f 49, f 50, f 51, f 52, f 53, f 54, f 55, f 56, f 57, f 58, f 59, f 60, f 61, f 62, f 63, f 64, f 65, f 66, f 67, f 68, f 69, f 70, f 71, f 72, f 73, f 74, f 75, f 76, f 77, f 78, f 79, f 80, f 81, f 82, f 83], []⟩ := rfl
        replace hK : ∀ v W', (fun W W' => Below W.heap.size W W') W W' → phSa w.heap.size ga oa ca gb ob cb E.p.length k e.d.length ku kb e.q au bu 13 v W' → (fun _ _ => True) (fun j => if j = 13 then true else L j) W' → K ((mono.lit 84 f []).put (some 68) v) W' := hK
        rw [eL] at hK ⊢
        simp only [Act.put, List.setIfInBounds_toArray, List.set_cons_succ, List.set_cons_zero] at hK
        have q12 := hD 12 67 (by kernel_rfl) (by kernel_rfl)
        replace q12 : f 67 = (.bool false) := q12
        rw [q12] at hK ⊢
        go_simp
        exact hK _ _ (Below.refl _ _) rfl trivial
      · refine mono.dutyS_of rfl ?_
        intro f W L hR hO hD hL hi hX K hK
        have eL : mono.lit 84 f [] = ⟨#[f 0, f 1, f 2, f 3, f 4, f 5, f 6, f 7, f 8, f 9, f 10, f 11, f 12, f 13, f 14, f 15, f 16, f 17, f 18, f 19, f 20, f 21, f 22, f 23, f 24, f 25, f 26, f 27, f 28, f 29, f 30, f 31, f 32, f 33, f 34, f 35, f 36, f 37, f 38, f 39, f 40, f 41, f 42, f 43, f 44, f 45, f 46, f 47, f 48, f 49, f 50, f 51, f 52, f 53, f 54, f 55, f 56, f 57, f 58, f 59, f 60, f 61, f 62, f 63, f 64, f 65, f 66, f 67, f 68, f 69, f 70, f 71, f 72, f 73, f 74, f 75, f 76, f 77, f 78, f 79, f 80, f 81, f 82, f 83], []⟩ := rfl
        replace hK : ∀ v W', (fun W W' => Below W.heap.size W W') W W' → phSa w.heap.size ga oa ca gb ob cb E.p.length k e.d.length ku kb e.q au bu 14 v W' → (fun _ _ => True) (fun j => if j = 14 then true else L j) W' → K ((mono.lit 84 f []).put (some 69) v) W' := hK
        rw [eL] at hK ⊢
        simp only [Act.put, List.setIfInBounds_toArray, List.set_cons_succ, List.set_cons_zero] at hK
        have o2 : f 2 = (.pointer (some ⟨w.heap.size, 0, none⟩)) := hO 2 (by kernel_rfl)
        rw [o2] at hK ⊢
        go_simp
        exact hK _ _ (Below.refl _ _) rfl trivial
      · refine mono.dutyS_of rfl ?_
        intro f W L hR hO hD hL hi hX K hK
        have eL : mono.lit 84 f [] = ⟨#[f 0, f 1, f 2, f 3, f 4, f 5, f 6, f 7, f 8, f 9, f 10, f 11, f 12, f 13, f 14, f 15, f 16, f 17, f 18, f 19, f 20, f 21, f 22, f 23, f 24, f 25, f 26, f 27, f 28, f 29, f 30, f 31, f 32, f 33, f 34, f 35, f 36, f 37, f 38, f 39, f 40, f 41, f 42, f 43, f 44, f 45, f 46, f 47, f 48, f 49, f 50, f 51, f 52, f 53, f 54, f 55, f 56, f 57, f 58, f 59, f 60, f 61, f 62, f 63, f 64, f 65, f 66, f 67, f 68, f 69, f 70, f 71, f 72, f 73, f 74, f 75, f 76, f 77, f 78, f 79, f 80, f 81, f 82, f 83], []⟩ := rfl
        replace hK : ∀ v W', (fun W W' => Below W.heap.size W W') W W' → phSa w.heap.size ga oa ca gb ob cb E.p.length k e.d.length ku kb e.q au bu 15 v W' → (fun _ _ => True) (fun j => if j = 15 then true else L j) W' → K ((mono.lit 84 f []).put (some 70) v) W' := hK
        rw [eL] at hK ⊢
        simp only [Act.put, List.setIfInBounds_toArray, List.set_cons_succ, List.set_cons_zero] at hK
        have q14 := hD 14 69 (by kernel_rfl) (by kernel_rfl)
        replace q14 : f 69 = (.pointer (some ⟨w.heap.size, 5, none⟩)) := q14
        rw [q14] at hK ⊢
        have x5 := (cellsEB (EB.below (W := wr.drew) hxr hR)).2.2.2.2.2
        go_simp
        exact hK _ _ (Below.refl _ _) rfl trivial
      · refine mono.dutyS_of rfl ?_
        intro f W L hR hO hD hL hi hX K hK
        have eL : mono.lit 84 f [] = ⟨#[f 0, f 1, f 2, f 3, f 4, f 5, f 6, f 7, f 8, f 9, f 10, f 11, f 12, f 13, f 14, f 15, f 16, f 17, f 18, f 19, f 20, f 21, f 22, f 23, f 24, f 25, f 26, f 27, f 28, f 29, f 30, f 31, f 32, f 33, f 34, f 35, f 36, f 37, f 38, f 39, f 40, f 41, f 42, f 43, f 44, f 45, f 46, f 47, f 48, f 49, f 50, f 51, f 52, f 53, f 54, f 55, f 56, f 57, f 58, f 59, f 60, f 61, f 62, f 63, f 64, f 65, f 66, f 67, f 68, f 69, f 70, f 71, f 72, f 73, f 74, f 75, f 76, f 77, f 78, f 79, f 80, f 81, f 82, f 83], []⟩ := rfl
        replace hK : ∀ v W', (fun W W' => Below W.heap.size W W') W W' → phSa w.heap.size ga oa ca gb ob cb E.p.length k e.d.length ku kb e.q au bu 16 v W' → (fun _ _ => True) (fun j => if j = 16 then true else L j) W' → K ((mono.lit 84 f []).put (some 71) v) W' := hK
        rw [eL] at hK ⊢
        simp only [Act.put, List.setIfInBounds_toArray, List.set_cons_succ, List.set_cons_zero] at hK
        have o5 : f 5 = (.int .i64 (k : Int)) := hO 5 (by kernel_rfl)
        rw [o5] at hK ⊢
        go_simp
        exact hK _ _ (Below.refl _ _) rfl trivial
      · refine mono.dutyS_of rfl ?_
        intro f W L hR hO hD hL hi hX K hK
        have eL : mono.lit 84 f [] = ⟨#[f 0, f 1, f 2, f 3, f 4, f 5, f 6, f 7, f 8, f 9, f 10, f 11, f 12, f 13, f 14, f 15, f 16, f 17, f 18, f 19, f 20, f 21, f 22, f 23, f 24, f 25, f 26, f 27, f 28, f 29, f 30, f 31, f 32, f 33, f 34, f 35, f 36, f 37, f 38, f 39, f 40, f 41, f 42, f 43, f 44, f 45, f 46, f 47, f 48, f 49, f 50, f 51, f 52, f 53, f 54, f 55, f 56, f 57, f 58, f 59, f 60, f 61, f 62, f 63, f 64, f 65, f 66, f 67, f 68, f 69, f 70, f 71, f 72, f 73, f 74, f 75, f 76, f 77, f 78, f 79, f 80, f 81, f 82, f 83], []⟩ := rfl
        replace hK : ∀ v W', (fun W W' => Below W.heap.size W W') W W' → phSa w.heap.size ga oa ca gb ob cb E.p.length k e.d.length ku kb e.q au bu 17 v W' → (fun _ _ => True) (fun j => if j = 17 then true else L j) W' → K ((mono.lit 84 f []).put (some 72) v) W' := hK
        rw [eL] at hK ⊢
        simp only [Act.put, List.setIfInBounds_toArray, List.set_cons_succ, List.set_cons_zero] at hK
        have q15 := hD 15 70 (by kernel_rfl) (by kernel_rfl)
        replace q15 : f 70 = (.slice (some ⟨ga, oa, none⟩) E.p.length ca) := q15
        have q16 := hD 16 71 (by kernel_rfl) (by kernel_rfl)
        replace q16 : f 71 = (.int .i64 (k : Int)) := q16
        rw [q15, q16] at hK ⊢
        go_simp
        exact hK _ _ (Below.refl _ _) rfl trivial
      · refine mono.dutyS_of rfl ?_
        intro f W L hR hO hD hL hi hX K hK
        have eL : mono.lit 84 f [] = ⟨#[f 0, f 1, f 2, f 3, f 4, f 5, f 6, f 7, f 8, f 9, f 10, f 11, f 12, f 13, f 14, f 15, f 16, f 17, f 18, f 19, f 20, f 21, f 22, f 23, f 24, f 25, f 26, f 27, f 28, f 29, f 30, f 31, f 32, f 33, f 34, f 35, f 36, f 37, f 38, f 39, f 40, f 41, f 42, f 43, f 44, f 45, f 46, f 47, f 48, f 49, f 50, f 51, f 52, f 53, f 54, f 55, f 56, f 57, f 58, f 59, f 60, f 61, f 62, f 63, f 64, f 65, f 66, f 67, f 68, f 69, f 70, f 71, f 72, f 73, f 74, f 75, f 76, f 77, f 78, f 79, f 80, f 81, f 82, f 83], []⟩ := rfl
        replace hK : ∀ v W', (fun W W' => Below W.heap.size W W') W W' → phSa w.heap.size ga oa ca gb ob cb E.p.length k e.d.length ku kb e.q au bu 18 v W' → (fun _ _ => True) (fun j => if j = 18 then true else L j) W' → K ((mono.lit 84 f []).put (some 73) v) W' := hK
        rw [eL] at hK ⊢
        simp only [Act.put, List.setIfInBounds_toArray, List.set_cons_succ, List.set_cons_zero] at hK
        have q17 := hD 17 72 (by kernel_rfl) (by kernel_rfl)
        replace q17 : f 72 = (.pointer (some ⟨ga, oa + k * 2, none⟩)) := q17
        rw [q17] at hK ⊢
        go_simp
        exact hK _ _ (Below.refl _ _) rfl trivial
      · refine mono.dutyS_of rfl ?_
        intro f W L hR hO hD hL hi hX K hK
        have eL : mono.lit 84 f [] = ⟨#[f 0, f 1, f 2, f 3, f 4, f 5, f 6, f 7, f 8, f 9, f 10, f 11, f 12, f 13, f 14, f 15, f 16, f 17, f 18, f 19, f 20, f 21, f 22, f 23, f 24, f 25, f 26, f 27, f 28, f 29, f 30, f 31, f 32, f 33, f 34, f 35, f 36, f 37, f 38, f 39, f 40, f 41, f 42, f 43, f 44, f 45, f 46, f 47, f 48, f 49, f 50, f 51, f 52, f 53, f 54, f 55, f 56, f 57, f 58, f 59, f 60, f 61, f 62, f 63, f 64, f 65, f 66, f 67, f 68, f 69, f 70, f 71, f 72, f 73, f 74, f 75, f 76, f 77, f 78, f 79, f 80, f 81, f 82, f 83], []⟩ := rfl
        replace hK : ∀ v W', (fun W W' => Below W.heap.size W W') W W' → phSa w.heap.size ga oa ca gb ob cb E.p.length k e.d.length ku kb e.q au bu 19 v W' → (fun _ _ => True) (fun j => if j = 19 then true else L j) W' → K ((mono.lit 84 f []).put (some 74) v) W' := hK
        rw [eL] at hK ⊢
        simp only [Act.put, List.setIfInBounds_toArray, List.set_cons_succ, List.set_cons_zero] at hK
        have q18 := hD 18 73 (by kernel_rfl) (by kernel_rfl)
        replace q18 : f 73 = (.pointer (some ⟨ga, oa + k * 2 + 1, none⟩)) := q18
        rw [q18] at hK ⊢
        have c0 := (hR.cell (p := ⟨ga, oa + k * 2 + 1, none⟩) hga).trans a1
        go_simp
        exact hK _ _ (Below.refl _ _) rfl trivial
      · refine mono.dutyS_of rfl ?_
        intro f W L hR hO hD hL hi hX K hK
        have eL : mono.lit 84 f [] = ⟨#[f 0, f 1, f 2, f 3, f 4, f 5, f 6, f 7, f 8, f 9, f 10, f 11, f 12, f 13, f 14, f 15, f 16, f 17, f 18, f 19, f 20, f 21, f 22, f 23, f 24, f 25, f 26, f 27, f 28, f 29, f 30, f 31, f 32, f 33, f 34, f 35, f 36, f 37, f 38, f 39, f 40, f 41, f 42, f 43, f 44, f 45, f 46, f 47, f 48, f 49, f 50, f 51, f 52, f 53, f 54, f 55, f 56, f 57, f 58, f 59, f 60, f 61, f 62, f 63, f 64, f 65, f 66, f 67, f 68, f 69, f 70, f 71, f 72, f 73, f 74, f 75, f 76, f 77, f 78, f 79, f 80, f 81, f 82, f 83], []⟩ := rfl
        replace hK : ∀ v W', (fun W W' => Below W.heap.size W W') W W' → phSa w.heap.size ga oa ca gb ob cb E.p.length k e.d.length ku kb e.q au bu 20 v W' → (fun _ _ => True) (fun j => if j = 20 then true else L j) W' → K ((mono.lit 84 f []).put (some 75) v) W' := hK
        rw [eL] at hK ⊢
        simp only [Act.put, List.setIfInBounds_toArray, List.set_cons_succ, List.set_cons_zero] at hK
        have o3 : f 3 = (.pointer (some ⟨w.heap.size + 1, 0, none⟩)) := hO 3 (by kernel_rfl)
        rw [o3] at hK ⊢
        go_simp
        exact hK _ _ (Below.refl _ _) rfl trivial
      · refine mono.dutyS_of rfl ?_
        intro f W L hR hO hD hL hi hX K hK
        have eL : mono.lit 84 f [] = ⟨#[f 0, f 1, f 2, f 3, f 4, f 5, f 6, f 7, f 8, f 9, f 10, f 11, f 12, f 13, f 14, f 15, f 16, f 17, f 18, f 19, f 20, f 21, f 22, f 23, f 24, f 25, f 26, f 27, f 28, f 29, f 30, f 31, f 32, f 33, f 34, f 35, f 36, f 37, f 38, f 39, f 40, f 41, f 42, f 43, f 44, f 45, f 46, f 47, f 48, f 49, f 50, f 51, f 52, f 53, f 54, f 55, f 56, f 57, f 58, f 59, f 60, f 61, f 62, f 63, f 64, f 65, f 66, f 67, f 68, f 69, f 70, f 71, f 72, f 73, f 74, f 75, f 76, f 77, f 78, f 79, f 80, f 81, f 82, f 83], []⟩ := rfl
        replace hK : ∀ v W', (fun W W' => Below W.heap.size W W') W W' → phSa w.heap.size ga oa ca gb ob cb E.p.length k e.d.length ku kb e.q au bu 21 v W' → (fun _ _ => True) (fun j => if j = 21 then true else L j) W' → K ((mono.lit 84 f []).put (some 76) v) W' := hK
        rw [eL] at hK ⊢
        simp only [Act.put, List.setIfInBounds_toArray, List.set_cons_succ, List.set_cons_zero] at hK
        have q20 := hD 20 75 (by kernel_rfl) (by kernel_rfl)
        replace q20 : f 75 = (.pointer (some ⟨w.heap.size + 1, 5, none⟩)) := q20
        rw [q20] at hK ⊢
        have y5 := (cellsEB (EB.below (W := wr.drew) hyr hR)).2.2.2.2.2
        go_simp
        exact hK _ _ (Below.refl _ _) rfl trivial
      · refine mono.dutyS_of rfl ?_
        intro f W L hR hO hD hL hi hX K hK
        have eL : mono.lit 84 f [] = ⟨#[f 0, f 1, f 2, f 3, f 4, f 5, f 6, f 7, f 8, f 9, f 10, f 11, f 12, f 13, f 14, f 15, f 16, f 17, f 18, f 19, f 20, f 21, f 22, f 23, f 24, f 25, f 26, f 27, f 28, f 29, f 30, f 31, f 32, f 33, f 34, f 35, f 36, f 37, f 38, f 39, f 40, f 41, f 42, f 43, f 44, f 45, f 46, f 47, f 48, f 49, f 50, f 51, f 52, f 53, f 54, f 55, f 56, f 57, f 58, f 59, f 60, f 61, f 62, f 63, f 64, f 65, f 66, f 67, f 68, f 69, f 70, f 71, f 72, f 73, f 74, f 75, f 76, f 77, f 78, f 79, f 80, f 81, f 82, f 83], []⟩ := rfl
        replace hK : ∀ v W', (fun W W' => Below W.heap.size W W') W W' → phSa w.heap.size ga oa ca gb ob cb E.p.length k e.d.length ku kb e.q au bu 22 v W' → (fun _ _ => True) (fun j => if j = 22 then true else L j) W' → K ((mono.lit 84 f []).put (some 77) v) W' := hK
        rw [eL] at hK ⊢
        simp only [Act.put, List.setIfInBounds_toArray, List.set_cons_succ, List.set_cons_zero] at hK
        have o5 : f 5 = (.int .i64 (k : Int)) := hO 5 (by kernel_rfl)
        rw [o5] at hK ⊢
        go_simp
        exact hK _ _ (Below.refl _ _) rfl trivial
      · refine mono.dutyS_of rfl ?_
        intro f W L hR hO hD hL hi hX K hK
        have eL : mono.lit 84 f [] = ⟨#[f 0, f 1, f 2, f 3, f 4, f 5, f 6, f 7, f 8, f 9, f 10, f 11, f 12, f 13, f 14, f 15, f 16, f 17, f 18, f 19, f 20, f 21, f 22, f 23, f 24, f 25, f 26, f 27, f 28, f 29, f 30, f 31, f 32, f 33, f 34, f 35, f 36, f 37, f 38, f 39, f 40, f 41, f 42, f 43, f 44, f 45, f 46, f 47, f 48, f 49, f 50, f 51, f 52, f 53, f 54, f 55, f 56, f 57, f 58, f 59, f 60, f 61, f 62, f 63, f 64, f 65, f 66, f 67, f 68, f 69, f 70, f 71, f 72, f 73, f 74, f 75, f 76, f 77, f 78, f 79, f 80, f 81, f 82, f 83], []⟩ := rfl
        replace hK : ∀ v W', (fun W W' => Below W.heap.size W W') W W' → phSa w.heap.size ga oa ca gb ob cb E.p.length k e.d.length ku kb e.q au bu 23 v W' → (fun _ _ => True) (fun j => if j = 23 then true else L j) W' → K ((mono.lit 84 f []).put (some 78) v) W' := hK
        rw [eL] at hK ⊢
        simp only [Act.put, List.setIfInBounds_toArray, List.set_cons_succ, List.set_cons_zero] at hK
        have q21 := hD 21 76 (by kernel_rfl) (by kernel_rfl)
        replace q21 : f 76 = (.slice (some ⟨gb, ob, none⟩) E.p.length cb) := q21
        have q22 := hD 22 77 (by kernel_rfl) (by kernel_rfl)
        replace q22 : f 77 = (.int .i64 (k : Int)) := q22
        rw [q21, q22] at hK ⊢
        go_simp
        exact hK _ _ (Below.refl _ _) rfl trivial
      · refine mono.dutyS_of rfl ?_
        intro f W L hR hO hD hL hi hX K hK
        have eL : mono.lit 84 f [] = ⟨#[f 0, f 1, f 2, f 3, f 4, f 5, f 6, f 7, f 8, f 9, f 10, f 11, f 12, f 13, f 14, f 15, f 16, f 17, f 18, f 19, f 20, f 21, f 22, f 23, f 24, f 25, f 26, f 27, f 28, f 29, f 30, f 31, f 32, f 33, f 34, f 35, f 36, f 37, f 38, f 39, f 40, f 41, f 42, f 43, f 44, f 45, f 46, f 47, f 48, f 49, f 50, f 51, f 52, f 53, f 54, f 55, f 56, f 57, f 58, f 59, f 60, f 61, f 62, f 63, f 64, f 65, f 66, f 67, f 68, f 69, f 70, f 71, f 72, f 73, f 74, f 75, f 76, f 77, f 78, f 79, f 80, f 81, f 82, f 83], []⟩ := rfl
        replace hK : ∀ v W', (fun W W' => Below W.heap.size W W') W W' → phSa w.heap.size ga oa ca gb ob cb E.p.length k e.d.length ku kb e.q au bu 24 v W' → (fun _ _ => True) (fun j => if j = 24 then true else L j) W' → K ((mono.lit 84 f []).put (some 79) v) W' := hK
        rw [eL] at hK ⊢
        simp only [Act.put, List.setIfInBounds_toArray, List.set_cons_succ, List.set_cons_zero] at hK
        have q23 := hD 23 78 (by kernel_rfl) (by kernel_rfl)
        replace q23 : f 78 = (.pointer (some ⟨gb, ob + k * 2, none⟩)) := q23
        rw [q23] at hK ⊢
        go_simp
        exact hK _ _ (Below.refl _ _) rfl trivial
      · refine mono.dutyS_of rfl ?_
        intro f W L hR hO hD hL hi hX K hK
        have eL : mono.lit 84 f [] = ⟨#[f 0, f 1, f 2, f 3, f 4, f 5, f 6, f 7, f 8, f 9, f 10, f 11, f 12, f 13, f 14, f 15, f 16, f 17, f 18, f 19, f 20, f 21, f 22, f 23, f 24, f 25, f 26, f 27, f 28, f 29, f 30, f 31, f 32, f 33, f 34, f 35, f 36, f 37, f 38, f 39, f 40, f 41, f 42, f 43, f 44, f 45, f 46, f 47, f 48, f 49, f 50, f 51, f 52, f 53, f 54, f 55, f 56, f 57, f 58, f 59, f 60, f 61, f 62, f 63, f 64, f 65, f 66, f 67, f 68, f 69, f 70, f 71, f 72, f 73, f 74, f 75, f 76, f 77, f 78, f 79, f 80, f 81, f 82, f 83], []⟩ := rfl
        replace hK : ∀ v W', (fun W W' => Below W.heap.size W W') W W' → phSa w.heap.size ga oa ca gb ob cb E.p.length k e.d.length ku kb e.q au bu 25 v W' → (fun _ _ => True) (fun j => if j = 25 then true else L j) W' → K ((mono.lit 84 f []).put (some 80) v) W' := hK
        rw [eL] at hK ⊢
        simp only [Act.put, List.setIfInBounds_toArray, List.set_cons_succ, List.set_cons_zero] at hK
        have q24 := hD 24 79 (by kernel_rfl) (by kernel_rfl)
        replace q24 : f 79 = (.pointer (some ⟨gb, ob + k * 2 + 1, none⟩)) := q24
        rw [q24] at hK ⊢
        have c0 := (hR.cell (p := ⟨gb, ob + k * 2 + 1, none⟩) hgb).trans b1
        go_simp
        exact hK _ _ (Below.refl _ _) rfl trivial
      · refine mono.dutyS_of rfl ?_
        intro f W L hR hO hD hL hi hX K hK
        have eL : mono.lit 84 f [] = ⟨#[f 0, f 1, f 2, f 3, f 4, f 5, f 6, f 7, f 8, f 9, f 10, f 11, f 12, f 13, f 14, f 15, f 16, f 17, f 18, f 19, f 20, f 21, f 22, f 23, f 24, f 25, f 26, f 27, f 28, f 29, f 30, f 31, f 32, f 33, f 34, f 35, f 36, f 37, f 38, f 39, f 40, f 41, f 42, f 43, f 44, f 45, f 46, f 47, f 48, f 49, f 50, f 51, f 52, f 53, f 54, f 55, f 56, f 57, f 58, f 59, f 60, f 61, f 62, f 63, f 64, f 65, f 66, f 67, f 68, f 69, f 70, f 71, f 72, f 73, f 74, f 75, f 76, f 77, f 78, f 79, f 80, f 81, f 82, f 83], []⟩ := rfl
        replace hK : ∀ v W', (fun W W' => Below W.heap.size W W') W W' → phSa w.heap.size ga oa ca gb ob cb E.p.length k e.d.length ku kb e.q au bu 26 v W' → (fun _ _ => True) (fun j => if j = 26 then true else L j) W' → K ((mono.lit 84 f []).put (some 81) v) W' := hK
        rw [eL] at hK ⊢
        simp only [Act.put, List.setIfInBounds_toArray, List.set_cons_succ, List.set_cons_zero] at hK
        have q19 := hD 19 74 (by kernel_rfl) (by kernel_rfl)
        replace q19 : f 74 = (.slice au e.d.length ku) := q19
        have q25 := hD 25 80 (by kernel_rfl) (by kernel_rfl)
        replace q25 : f 80 = (.slice bu e.d.length kb) := q25
        rw [q19, q25] at hK ⊢
        have cX := cS W hR
        go_simp
        refine cX.mono ?_
        rintro e w9 ⟨rfl, hb⟩
        exact hK _ _ hb rfl trivial
      · refine mono.dutyS_of rfl ?_
        intro f W L hR hO hD hL hi hX K hK
        have eL : mono.lit 84 f [] = ⟨#[f 0, f 1, f 2, f 3, f 4, f 5, f 6, f 7, f 8, f 9, f 10, f 11, f 12, f 13, f 14, f 15, f 16, f 17, f 18, f 19, f 20, f 21, f 22, f 23, f 24, f 25, f 26, f 27, f 28, f 29, f 30, f 31, f 32, f 33, f 34, f 35, f 36, f 37, f 38, f 39, f 40, f 41, f 42, f 43, f 44, f 45, f 46, f 47, f 48, f 49, f 50, f 51, f 52, f 53, f 54, f 55, f 56, f 57, f 58, f 59, f 60, f 61, f 62, f 63, f 64, f 65, f 66, f 67, f 68, f 69, f 70, f 71, f 72, f 73, f 74, f 75, f 76, f 77, f 78, f 79, f 80, f 81, f 82, f 83], []⟩ := rfl
        replace hK : ∀ v W', (fun W W' => Below W.heap.size W W') W W' → phSa w.heap.size ga oa ca gb ob cb E.p.length k e.d.length ku kb e.q au bu 27 v W' → (fun _ _ => True) (fun j => if j = 27 then true else L j) W' → K ((mono.lit 84 f []).put (some 82) v) W' := hK
        rw [eL] at hK ⊢
        simp only [Act.put, List.setIfInBounds_toArray, List.set_cons_succ, List.set_cons_zero] at hK
        have q26 := hD 26 81 (by kernel_rfl) (by kernel_rfl)
        replace q26 : f 81 = (.bool true) := q26
        rw [q26] at hK ⊢
        go_simp
        exact hK _ _ (Below.refl _ _) rfl trivial
      · refine mono.dutyS_of rfl ?_
        intro f W L hR hO hD hL hi hX K hK
        have eL : mono.lit 84 f [] = ⟨#[f 0, f 1, f 2, f 3, f 4, f 5, f 6, f 7, f 8, f 9, f 10, f 11, f 12, f 13, f 14, f 15, f 16, f 17, f 18, f 19, f 20, f 21, f 22, f 23, f 24, f 25, f 26, f 27, f 28, f 29, f 30, f 31, f 32, f 33, f 34, f 35, f 36, f 37, f 38, f 39, f 40, f 41, f 42, f 43, f 44, f 45, f 46, f 47, f 48, f 49, f 50, f 51, f 52, f 53, f 54, f 55, f 56, f 57, f 58, f 59, f 60, f 61, f 62, f 63, f 64, f 65, f 66, f 67, f 68, f 69, f 70, f 71, f 72, f 73, f 74, f 75, f 76, f 77, f 78, f 79, f 80, f 81, f 82, f 83], []⟩ := rfl
        replace hK : ∀ v W', (fun W W' => Below W.heap.size W W') W W' → phSa w.heap.size ga oa ca gb ob cb E.p.length k e.d.length ku kb e.q au bu 28 v W' → (fun _ _ => True) (fun j => if j = 28 then true else L j) W' → K ((mono.lit 84 f []).put (some 83) v) W' := hK
        rw [eL] at hK ⊢
        simp only [Act.put, List.setIfInBounds_toArray, List.set_cons_succ, List.set_cons_zero] at hK
        have q13 := hD 13 68 (by kernel_rfl) (by kernel_rfl)
        replace q13 : f 68 = (.bool false) := q13
        have q27 := hD 27 82 (by kernel_rfl) (by kernel_rfl)
        replace q27 : f 82 = (.bool false) := q27
        rw [q13, q27] at hK ⊢
        go_simp
        exact hK _ _ (Below.refl _ _) rfl trivial
      · intro f W L hR hO hD hL hX
        have r0 := hO 0 (by kernel_rfl)
        have r1 := hO 1 (by kernel_rfl)
        have r2 := hO 2 (by kernel_rfl)
        have r3 := hO 3 (by kernel_rfl)
        have r4 := hO 4 (by kernel_rfl)
        have r5 := hO 5 (by kernel_rfl)
        have r6 := hO 6 (by kernel_rfl)
        have r7 := hO 7 (by kernel_rfl)
        have r8 := hO 8 (by kernel_rfl)
        have r9 := hO 9 (by kernel_rfl)
        have r10 := hO 10 (by kernel_rfl)
        have r11 := hO 11 (by kernel_rfl)
        have r12 := hO 12 (by kernel_rfl)
        have r13 := hO 13 (by kernel_rfl)
        have r14 := hO 14 (by kernel_rfl)
        have r15 := hO 15 (by kernel_rfl)
        have r16 := hO 16 (by kernel_rfl)
        have r17 := hO 17 (by kernel_rfl)
        have r18 := hO 18 (by kernel_rfl)
        have r19 := hO 19 (by kernel_rfl)
        have r20 := hO 20 (by kernel_rfl)
        have r21 := hO 21 (by kernel_rfl)
        have r22 := hO 22 (by kernel_rfl)
        have r23 := hO 23 (by kernel_rfl)
        have r24 := hO 24 (by kernel_rfl)
        have r25 := hO 25 (by kernel_rfl)
        have r26 := hO 26 (by kernel_rfl)
        have r27 := hO 27 (by kernel_rfl)
        have r28 := hO 28 (by kernel_rfl)
        have r29 := hO 29 (by kernel_rfl)
        have r30 := hO 30 (by kernel_rfl)
        have r31 := hO 31 (by kernel_rfl)
        have r32 := hO 32 (by kernel_rfl)
        have r33 := hO 33 (by kernel_rfl)
        have r34 := hO 34 (by kernel_rfl)
        have r35 := hO 35 (by kernel_rfl)
        have r36 := hO 36 (by kernel_rfl)
        have r37 := hO 37 (by kernel_rfl)
        have r38 := hO 38 (by kernel_rfl)
        have r39 := hO 39 (by kernel_rfl)
        have r40 := hO 40 (by kernel_rfl)
        have r41 := hO 41 (by kernel_rfl)
        have r42 := hO 42 (by kernel_rfl)
        have r43 := hO 43 (by kernel_rfl)
        have r44 := hO 44 (by kernel_rfl)
        have r45 := hO 45 (by kernel_rfl)
        have r46 := hO 46 (by kernel_rfl)
        have r47 := hO 47 (by kernel_rfl)
        have r48 := hO 48 (by kernel_rfl)
        have r49 := hO 49 (by kernel_rfl)
        have r50 := hO 50 (by kernel_rfl)
        have r51 := hO 51 (by kernel_rfl)
        have r52 := hO 52 (by kernel_rfl)
        have r53 := hO 53 (by kernel_rfl)
        have r54 := hO 54 (by kernel_rfl)
        have r83 := hD 28 83 (by kernel_rfl)
        replace r83 : f 83 = .bool false := r83
        have eL : mono.lit 84 f [] = ⟨#[f 0, f 1, f 2, f 3, f 4, f 5, f 6, f 7, f 8, f 9, f 10, f 11, f 12, f 13, f 14, f 15, f 16, f 17, f 18, f 19, f 20, f 21, f 22, f 23, f 24, f 25, f 26, f 27, f 28, f 29, f 30, f 31, f 32, f 33, f 34, f 35, f 36, f 37, f 38, f 39, f 40, f 41, f 42, f 43, f 44, f 45, f 46, f 47, f 48, f 49, f 50, f 51, f 52, f 53, f 54, f 55, f 56, f 57, f 58, f 59, f 60, f 61, f 62, f 63, f 64, f 65, f 66, f 67, f 68, f 69, f 70, f 71, f 72, f 73, f 74, f 75, f 76, f 77, f 78, f 79, f 80, f 81, f 82, f 83], []⟩ := rfl
        rw [eL, r0, r1, r2, r3, r4, r5, r6, r7, r8, r9, r10, r11, r12, r13, r14, r15, r16, r17, r18, r19, r20, r21, r22, r23, r24, r25, r26, r27, r28, r29, r30, r31, r32, r33, r34, r35, r36, r37, r38, r39, r40, r41, r42, r43, r44, r45, r46, r47, r48, r49, r50, r51, r52, r53, r54, r83]
        go_wp2_with fail
        exact ⟨⟨k + 1, by omega, by go_num, chain hbl ((Below.refl _ _).drew.trans hR)⟩, by simp [Go.RowKit.intOf]; omega⟩
    · have hlt' : ¬ (k : Int) < (E.p.length : Int) := by omega
      go_wp2_with fail
      go_ret
      exact ⟨rfl, hB⟩
end Go.Proofs.YtcdnlkhjlgaaoaaGreatDoor

/-
  The reference: May.
-/
namespace Go.Proofs.YtcdnlkhjlgaaoaaGreatDoor
open Go.ChangeShapes Go.WideShapes Go.ChangeAt Go.RowKit Go.PlainAid

set_option maxRecDepth 20000 in
theorem rwithin_any (n lo hi : Int) (w : World) : Calls Tryz.prog 41 #[.int .i64 n, .int .i64 lo, .int .i64 hi] w fun e w' => e = .returned (.bool (wtn lo hi n)) ∧ w' = w := by
  by_cases h1 : lo ≤ n
  · by_cases h2 : n ≤ hi
    · have H : Hid (wtn lo hi n = true) := by show _ = _; simp [wtn, h1, h2]
      go_enter Tryz.func41, Tryz.ntmps41
      go_wp2
      go_ret
      exact ⟨by rw [H.out]; rfl, rfl⟩
    · have H : Hid (wtn lo hi n = false) := by show _ = _; simp [wtn, h2]
      go_enter Tryz.func41, Tryz.ntmps41
      go_wp2
      go_ret
      exact ⟨by rw [H.out]; rfl, rfl⟩
  · have H : Hid (wtn lo hi n = false) := by show _ = _; simp [wtn, h1]
    go_enter Tryz.func41, Tryz.ntmps41
    go_wp2
    go_ret
    exact ⟨by rw [H.out]; rfl, rfl⟩

def gmE (E : EdD) (k : Nat) (a : Int) : Bool := decide (wtG a (E.s - E.p.length + 1 + k) (E.p.drop k) = some (cpl E.t))
/-- The reference along what waits. -/
def mrI (E : EdD) (k : Nat) (a : Int) : Prop := (k = 0 ∧ a = 0) ∨ (0 < k ∧ (E.p.length : Int) ≤ E.s ∧ mayW E = gmE E k a)
theorem mr_bad {E : EdD} {k : Nat} {a : Int} (hI : mrI E k a) (hlt : k < E.p.length) (hn : ¬ (okD E.p[k].d = true ∧ E.p[k].q = E.s - E.p.length + 1 + k ∧ 1 ≤ E.p[k].q ∧ (0 < k → (bsum (stR E.p[k].d) : Int) = a))) : mayW E = false := by
  rcases hI with ⟨rfl, rfl⟩ | ⟨h0, h1, h2⟩
  · unfold mayW
    by_cases hs : (E.p.length : Int) ≤ min 8 E.s
    · have : wtG (baseE E) (E.s - E.p.length + 1) E.p = none := by
        have := wtG_bad (a := baseE E) (q := E.s - E.p.length + 1) (l := E.p) (k := 0) hlt (fun h => hn ⟨h.1, by have := h.2.2; omega, by have := h.2.2; omega, fun h => absurd h (by omega)⟩)
        simpa using this
      rw [this]
      simp
    · simp [hs]
  · rw [h2]
    unfold gmE
    rw [wtG_bad hlt (fun h => hn ⟨h.1, h.2.2, by have := h.2.2; omega, fun _ => h.2.1⟩)]
    simp
theorem mr_step {E : EdD} {k : Nat} {a : Int} (hI : mrI E k a) (hlt : k < E.p.length) (h8 : E.p.length ≤ 8) (h1 : okD E.p[k].d = true) (h2 : E.p[k].q = E.s - E.p.length + 1 + k) (h3 : 1 ≤ E.p[k].q) (h4 : 0 < k → (bsum (stR E.p[k].d) : Int) = a) : mrI E (k + 1) (tsum (stR E.p[k].d) : Int) := by
  rcases hI with ⟨rfl, rfl⟩ | ⟨h0, h5, h6⟩
  · refine .inr ⟨by omega, by omega, ?_⟩
    have hb : baseE E = (bsum (stR E.p[0].d) : Int) := by
      unfold baseE
      match hp : E.p, hlt with
      | e :: q, _ => simp
    have hs : (E.p.length : Int) ≤ min 8 E.s := by omega
    have := wtG_drop (a := baseE E) (q := E.s - E.p.length + 1) (l := E.p) (k := 0) hlt h1 hb.symm (by omega)
    rw [List.drop_zero] at this
    unfold mayW gmE
    rw [this, decide_eq_true hs]
    simp
  · refine .inr ⟨by omega, h5, ?_⟩
    rw [h6]
    unfold gmE
    rw [wtG_drop hlt h1 (h4 h0) h2]
    rw [show E.s - (E.p.length : Int) + 1 + ((k + 1 : Nat) : Int) = E.s - E.p.length + 1 + k + 1 by omega]
theorem mr_end {E : EdD} {a : Int} (hs : 0 ≤ E.s) (hI : mrI E E.p.length a) : mayW E = (decide (E.p.length = 0) || decide (a = cpl E.t)) := by
  rcases hI with ⟨h, rfl⟩ | ⟨h0, h1, h2⟩
  · have hp : E.p = [] := List.length_eq_zero_iff.1 h
    unfold mayW
    rw [hp]
    have hb : baseE E = cpl E.t := by unfold baseE; rw [hp]
    have h2 : (0 : Int) ≤ min 8 E.s := by omega
    simp [wtG, hb, h2]
  · rw [h2]
    unfold gmE
    rw [List.drop_length]
    have : ¬ E.p.length = 0 := by omega
    simp [wtG, this]

set_option maxRecDepth 20000 in
set_option maxHeartbeats 4000000 in
theorem rmay_any (E : EdD) (v : Value) (w : World) (hr : RdEd w v E.p) (hF : E.Fit) (ht : E.t.size ≤ 1048576) (hS : ∀ e ∈ E.p, ∀ o ∈ e.d, o.Sm) :
    Calls Tryz.prog 15 #[.agg (E.fs v)] w fun e w' => e = .returned (.bool (mayE E)) ∧ Below w.heap.size w w' := by
  have hx := eb_new w E v
  have hA := alloc_b w (.cells (E.fs v) 24)
  have cL := refLen_any E.t (w.alloc (.cells (E.fs v) 24)) ht
  have hm : Hid (mayE E = (wtn 1 8 E.c && wtn 1 1000000 E.b && wtn 0 1000000 E.r && wtn 0 1000 (cpl E.t) && wtn 0 100000 E.s && mayW E)) := rfl
  have c1 := fun W => rwithin_any E.c 1 8 W
  have c2 := fun W => rwithin_any E.b 1 1000000 W
  have c3 := fun W => rwithin_any E.r 0 1000000 W
  have c4 := fun W => rwithin_any (cpl E.t) 0 1000 W
  have c5 := fun W => rwithin_any E.s 0 100000 W
  have h5s : wtn 0 100000 E.s = true → 0 ≤ E.s ∧ E.s ≤ 100000 := fun h => by simp [wtn] at h; omega
  have hpl := hF.pl
  have hpf := hF.pf
  unfold maxLen at hpl
  obtain ⟨ao, cp, rfl, -, hc⟩ := hr
  unfold EdD.fs at hA cL ⊢
  generalize wtn 0 100000 E.s = m5 at *
  generalize wtn 0 1000 (cpl E.t) = m4 at *
  generalize wtn 0 1000000 E.r = m3 at *
  generalize wtn 1 1000000 E.b = m2 at *
  generalize wtn 1 8 E.c = m1 at *
  obtain ⟨R, HR⟩ : ∃ R, Hid (mayE E = R) := ⟨_, rfl⟩
  rw [HR.out]
  have hR : Hid (R = (m1 && m2 && m3 && m4 && m5 && mayW E)) := by show _ = _; rw [← HR.out, hm.out]
  clear hm HR
  go_enter Tryz.func15, Tryz.ntmps15
  go_wp2_with fail
  refine cL.mono ?_
  rintro e w1 ⟨rfl, hb1⟩
  have hx1 := hx.below hb1
  have hB1 := chain hA hb1
  clear hx hA cL hb1
  obtain ⟨x0, x1, x2, x3, x4, x5⟩ := cellsEB hx1
  cases m1 with
  | false =>
    have hR' : R = false := by rw [hR.out]; simp
    subst hR'
    clear hR
    go_wp2_with fail
    refine (c1 _).mono ?_
    rintro e w2 ⟨rfl, rfl⟩
    go_wp2_with fail
    go_ret
    exact ⟨rfl, hB1⟩
  | true =>
  cases m2 with
  | false =>
    have hR' : R = false := by rw [hR.out]; simp
    subst hR'
    clear hR
    go_wp2_with fail
    refine (c1 _).mono ?_
    rintro e w2 ⟨rfl, rfl⟩
    go_wp2_with fail
    refine (c2 _).mono ?_
    rintro e w2 ⟨rfl, rfl⟩
    go_wp2_with fail
    go_ret
    exact ⟨rfl, hB1⟩
  | true =>
  cases m3 with
  | false =>
    have hR' : R = false := by rw [hR.out]; simp
    subst hR'
    clear hR
    go_wp2_with fail
    refine (c1 _).mono ?_
    rintro e w2 ⟨rfl, rfl⟩
    go_wp2_with fail
    refine (c2 _).mono ?_
    rintro e w2 ⟨rfl, rfl⟩
    go_wp2_with fail
    refine (c3 _).mono ?_
    rintro e w2 ⟨rfl, rfl⟩
    go_wp2_with fail
    go_ret
    exact ⟨rfl, hB1⟩
  | true =>
  cases m4 with
  | false =>
    have hR' : R = false := by rw [hR.out]; simp
    subst hR'
    clear hR
    go_wp2_with fail
    refine (c1 _).mono ?_
    rintro e w2 ⟨rfl, rfl⟩
    go_wp2_with fail
    refine (c2 _).mono ?_
    rintro e w2 ⟨rfl, rfl⟩
    go_wp2_with fail
    refine (c3 _).mono ?_
    rintro e w2 ⟨rfl, rfl⟩
    go_wp2_with fail
    refine (c4 _).mono ?_
    rintro e w2 ⟨rfl, rfl⟩
    go_wp2_with fail
    go_ret
    exact ⟨rfl, hB1⟩
  | true =>
  cases m5 with
  | false =>
    have hR' : R = false := by rw [hR.out]; simp
    subst hR'
    clear hR
    go_wp2_with fail
    refine (c1 _).mono ?_
    rintro e w2 ⟨rfl, rfl⟩
    go_wp2_with fail
    refine (c2 _).mono ?_
    rintro e w2 ⟨rfl, rfl⟩
    go_wp2_with fail
    refine (c3 _).mono ?_
    rintro e w2 ⟨rfl, rfl⟩
    go_wp2_with fail
    refine (c4 _).mono ?_
    rintro e w2 ⟨rfl, rfl⟩
    go_wp2_with fail
    refine (c5 _).mono ?_
    rintro e w2 ⟨rfl, rfl⟩
    go_wp2_with fail
    go_ret
    exact ⟨rfl, hB1⟩
  | true =>
  have hR2 : Hid (R = mayW E) := by show _ = _; rw [hR.out]; simp
  obtain ⟨hs0, hs1⟩ := h5s rfl
  clear hR h5s
  by_cases h8 : E.p.length ≤ 8
  · have h8' : ¬ ((E.p.length : Int) > 8) := by omega
    have h8d : ¬ ((8 : Int) < (E.p.length : Int)) := by omega
    go_wp2_with fail
    refine (c1 _).mono ?_
    rintro e w2 ⟨rfl, rfl⟩
    go_wp2_with fail
    refine (c2 _).mono ?_
    rintro e w2 ⟨rfl, rfl⟩
    go_wp2_with fail
    refine (c3 _).mono ?_
    rintro e w2 ⟨rfl, rfl⟩
    go_wp2_with fail
    refine (c4 _).mono ?_
    rintro e w2 ⟨rfl, rfl⟩
    go_wp2_with fail
    refine (c5 _).mono ?_
    rintro e w2 ⟨rfl, rfl⟩
    go_wp2_with fail
    clear c1 c2 c3 c4 c5 x0 x1 x2 x3 x4 x5
    go_loopw [4, 5] (fun a i wr => ∃ (k : Nat) (tg : Int), k ≤ E.p.length ∧ i = .int .i64 (k : Int) ∧ a = .int .i64 tg ∧ Hid (mrI E k tg) ∧ Below w2.heap.size w2 wr) (fun _ i _ => E.p.length - (Go.RowKit.intOf i).toNat)
    case atStart => exact ⟨0, 0, by omega, rfl, rfl, .inl ⟨rfl, rfl⟩, Below.refl _ _⟩
    case round =>
      obtain ⟨k, tg, hk, rfl, rfl, HI, hbl⟩ := hrel
      have hB := chain hB1 hbl
      have hxr := hx1.below hbl
      obtain ⟨x0, x1, x2, x3, x4, x5⟩ := cellsEB hxr
      by_cases hlt : k < E.p.length
      · have hlt' : (k : Int) < (E.p.length : Int) := by omega
        obtain ⟨g, off, u, rfl, hg, c0, c1, c2⟩ := hc k E.p[k] (by simp [hlt])
        have hxf := hpf E.p[k] (List.getElem_mem hlt)
        have hSk := hS E.p[k] (List.getElem_mem hlt)
        have hBg : ∀ o, wr.cell? ⟨g, o, none⟩ = w.cell? ⟨g, o, none⟩ := fun o => hB.cell (p := ⟨g, o, none⟩) hg
        rw [← hBg] at c0 c1
        obtain ⟨au, ku, rfl⟩ := rdd_len c2
        have Hbad := fun hn => mr_bad HI.out hlt hn
        have Hstep := fun h1 h2 h3 h4 => mr_step HI.out hlt h8 h1 h2 h3 h4
        generalize E.p[k] = x at *
        have c2' := c2.below hB
        have hAx := alloc_b wr (.cells #[.int .i64 x.q, .slice au x.d.length ku] 41)
        have hbx := eb_newX wr x.q (.slice au x.d.length ku)
        have hxa := hxr.below hAx
        obtain ⟨v0, v1, v2, v3, v4, v5⟩ := cellsEB hxa
        have cN := refNormal_any _ x.d _ (c2'.below hAx) hxf.dl hSk
        have hxdl := hxf.dl
        have hxdi := hxf.di
        clear hc hBg c2 hpf hS HI hxf
        generalize x.q = xq at *
        generalize x.d = xd at *
        clear x
        by_cases hq : xq = E.s - E.p.length + 1 + k
        · by_cases hq1 : 1 ≤ xq
          · subst hq
            have n2 : ¬ (E.s - (E.p.length : Int) + 1 + (k : Int) < 1) := by omega
            go_wp2_with fail
            refine cN.mono ?_
            rintro e w3 ⟨u3, rfl, ho3, hb3⟩
            obtain ⟨a3, k3, rfl⟩ := own_form ho3
            have hr3 := rdd_own ho3
            have hB3 := chain hAx hb3
            have hbx3 := (hb3.block _ (EB.lt' hbx)).trans hbx
            have hx3 := hxr.below hB3
            have c3' := c2'.below hB3
            have hBT := chain hB hB3
            have hjl := jn_in (stR_ok hxdi) (stR_bd xd).1 (stR_bd xd).2
            clear v0 v1 v2 v3 v4 v5 x0 x1 x2 x3 x4 x5 c0 c1 cN hbx hxa hAx hxr ho3 c2' hb3
            obtain ⟨x0, x1, x2, x3, x4, x5⟩ := cellsEB hx3
            obtain ⟨y0, y1⟩ := cells2X hbx3
            by_cases hq2 : chk xd = 0
            · have cS := same_any _ _ (jn (stR xd)) xd w3 hr3 c3' (by have := hjl.1; unfold maxLen; omega)
              have m1 : (chk xd != 0) = false := by rw [hq2]; rfl
              have m1b : (chk xd == 0) = true := by rw [hq2]; rfl
              by_cases hj : jn (stR xd) = xd
              · have hok : okD xd = true := by simp [okD, hq2, hj]
                rw [decide_eq_true hj] at cS
                rw [hj] at cS hr3
                simp only [hj] at y0 y1 hBT cS hr3 hbx3 ⊢
                clear m1 m1b
                rw [hq2]
                go_wp2_with fail
                refine cS.mono ?_
                rintro e w4 ⟨rfl, hb4⟩
                have cB := refBase_any _ xd w4 (hr3.below hb4) hxdl hSk
                have hx4 := hx3.below hb4
                have hr4 := hr3.below hb4
                have hBT4 := chain hBT hb4
                have hW4 := chain (chain hbl hB3) hb4
                clear x0 x1 x2 x3 x4 x5 y0 y1 cS hr3 hBT c3'
                obtain ⟨x0, x1, x2, x3, x4, x5⟩ := cellsEB hx4
                rw [hq2] at cB
                go_wp2_with fail
                refine cB.mono ?_
                rintro e w5 ⟨rfl, hb5⟩
                have hx5 := hx4.below hb5
                have cT := refTarget_any _ xd w5 (hr4.below hb5) hxdl hSk
                have hBT5 := chain hBT4 hb5
                have hW5 := chain hW4 hb5
                clear x0 x1 x2 x3 x4 x5 cB hr4 hBT4
                obtain ⟨x0, x1, x2, x3, x4, x5⟩ := cellsEB hx5
                by_cases hbk : 0 < k → (bsum (stR xd) : Int) = tg
                · have Hnew : Hid (mrI E (k + 1) (tsum (stR xd) : Int)) := Hstep hok trivial hq1 hbk
                  clear Hbad Hstep
                  by_cases hk0 : 0 < k
                  · have m2 : ¬ ((k : Int) ≤ 0) := by omega
                    have m2b : (k : Int) > 0 := by omega
                    have m2c : (0 : Int) < (k : Int) := by omega
                    have m3 : ((bsum (stR xd) : Int) == tg) = true := by simp [hbk hk0]
                    clear hbk
                    go_wp2_with fail
                    refine cT.mono ?_
                    rintro e w6 ⟨rfl, hb6⟩
                    go_wp2_with fail
                    exact ⟨⟨k + 1, _, by omega, by go_num, rfl, Hnew, chain hW5 hb6⟩, by simp [Go.RowKit.intOf]; omega⟩
                  · have hk00 : k = 0 := by omega
                    have m2 : ¬ ((k : Int) > 0) := by omega
                    have m2c : ¬ ((0 : Int) < (k : Int)) := by omega
                    clear hbk
                    go_wp2_with fail
                    refine cT.mono ?_
                    rintro e w6 ⟨rfl, hb6⟩
                    go_wp2_with fail
                    exact ⟨⟨k + 1, _, by omega, by go_num, rfl, Hnew, chain hW5 hb6⟩, by simp [Go.RowKit.intOf]; omega⟩
                · have hR' : R = false := by rw [hR2.out]; exact Hbad (fun h => hbk h.2.2.2)
                  subst hR'
                  have hk0 : 0 < k := Nat.pos_of_ne_zero (fun h => hbk (fun h' => absurd h' (by omega)))
                  have m2b : (k : Int) > 0 := by omega
                  have m2c : (0 : Int) < (k : Int) := by omega
                  have m3 : ((bsum (stR xd) : Int) == tg) = false := beq_eq_false_iff_ne.2 (fun h => hbk (fun _ => h))
                  clear Hbad Hstep hR2 hbk cT
                  go_wp2_with fail
                  go_ret
                  exact ⟨rfl, hBT5⟩
              · have hR' : R = false := by rw [hR2.out]; exact Hbad (fun h => hj (by have := h.1; simp [okD] at this; exact this.2))
                subst hR'
                rw [decide_eq_false hj] at cS
                clear Hbad Hstep hR2
                go_wp2_with fail
                refine cS.mono ?_
                rintro e w4 ⟨rfl, hb4⟩
                go_wp2_with fail
                go_ret
                exact ⟨rfl, chain hBT hb4⟩
            · have hR' : R = false := by rw [hR2.out]; exact Hbad (fun h => hq2 (by have := h.1; simp [okD] at this; exact this.1))
              subst hR'
              have m1 : (chk xd == 0) = false := beq_eq_false_iff_ne.2 hq2
              have m1b : (chk xd != 0) = true := bne_iff_ne.2 hq2
              clear Hbad Hstep hR2
              go_wp2_with fail
              go_ret
              exact ⟨rfl, hBT⟩
          · have hR' : R = false := by rw [hR2.out]; exact Hbad (fun h => hq1 h.2.2.1)
            subst hR'
            subst hq
            have n2 : E.s - (E.p.length : Int) + 1 + (k : Int) < 1 := by omega
            clear Hbad Hstep hR2 cN
            go_wp2_with fail
            go_ret
            exact ⟨rfl, chain hB hAx⟩
        · have hR' : R = false := by rw [hR2.out]; exact Hbad (fun h => hq h.2.1)
          subst hR'
          have n1 : (xq == E.s - (E.p.length : Int) + 1 + (k : Int)) = false := beq_eq_false_iff_ne.2 hq
          clear Hbad Hstep hR2 cN
          go_wp2_with fail
          go_ret
          exact ⟨rfl, chain hB hAx⟩
      · have hlt' : ¬ (k : Int) < (E.p.length : Int) := by omega
        have hkl : k = E.p.length := by omega
        subst hkl
        have hR' : R = (decide (E.p.length = 0) || decide (tg = cpl E.t)) := by rw [hR2.out]; exact mr_end hs0 HI.out
        clear hR2 HI hc
        by_cases h0 : E.p.length = 0
        · have hR3 : R = true := by rw [hR']; simp [h0]
          subst hR3
          have n1 : ((E.p.length : Int) == 0) = true := beq_iff_eq.2 (by omega)
          clear h0 hR'
          go_wp2_with fail
          go_ret
          exact ⟨rfl, hB⟩
        · have hR3 : R = decide (tg = cpl E.t) := by rw [hR']; simp [h0]
          have n1 : ((E.p.length : Int) == 0) = false := beq_eq_false_iff_ne.2 (by omega)
          clear hR' h0
          by_cases h9 : tg = cpl E.t
          · have hR4 : R = true := by rw [hR3]; simp [h9]
            subst hR4
            have n2 : (tg == cpl E.t) = true := by simp [h9]
            clear h9 hR3
            go_wp2_with fail
            go_ret
            exact ⟨rfl, hB⟩
          · have hR4 : R = false := by rw [hR3]; simp [h9]
            subst hR4
            have n2 : (tg == cpl E.t) = false := by simp [h9]
            clear h9 hR3
            go_wp2_with fail
            go_ret
            exact ⟨rfl, hB⟩
  · have h8' : (E.p.length : Int) > 8 := by omega
    have h8d : (8 : Int) < (E.p.length : Int) := by omega
    have hR' : R = false := by
      rw [hR2.out]
      unfold mayW
      have : ¬ (E.p.length : Int) ≤ min 8 E.s := by omega
      simp [this]
    subst hR'
    clear hR2
    go_wp2_with fail
    refine (c1 _).mono ?_
    rintro e w2 ⟨rfl, rfl⟩
    go_wp2_with fail
    refine (c2 _).mono ?_
    rintro e w2 ⟨rfl, rfl⟩
    go_wp2_with fail
    refine (c3 _).mono ?_
    rintro e w2 ⟨rfl, rfl⟩
    go_wp2_with fail
    refine (c4 _).mono ?_
    rintro e w2 ⟨rfl, rfl⟩
    go_wp2_with fail
    refine (c5 _).mono ?_
    rintro e w2 ⟨rfl, rfl⟩
    go_wp2_with fail
    go_ret
    exact ⟨rfl, hB1⟩
end Go.Proofs.YtcdnlkhjlgaaoaaGreatDoor

/-
  The reference: Copy.
-/
namespace Go.Proofs.YtcdnlkhjlgaaoaaGreatDoor
open Go.ChangeShapes Go.WideShapes Go.ChangeAt Go.RowKit Go.PlainAid

set_option maxRecDepth 20000 in
/-- append(nil, d...): a delta in memory of its own. -/
theorem wp_dup {W : World} {o : Oper} {a : Act} {K : Act → World → Prop} {Q : Exit → Act → World → Prop} (s x : Operand) {u : Value} {ds : List OpD} {B : Nat} (ho : o.op = .call { callee := .builtin .append, args := #[s, x], argTypes := #[39, 39] }) (hs : a.eval s = .slice none 0 0) (hx : a.eval x = u) (hr : RdD W u ds) (hl : ds.length ≤ 1048576) (hB : B ≤ W.heap.size)
    (h : ∀ a' k' w', w'.ownsRow B 59 3 (.slice a' ds.length k') ds.length (ocs ds) → Below W.heap.size W w' → K (a.put o.dst (.slice a' ds.length k')) w') : o.wp Tryz.prog a W K Q := by
  obtain ⟨i0, hin, hz0, hz1, hz2⟩ := info_parts Tryz.infoOp
  have hr' := hr
  obtain ⟨ao, cp, rfl, ⟨hc1, hc2⟩, hc⟩ := hr
  have hnil := World.ownsRow_nil W B 59 3
  cases ao with
  | none =>
    have hd : ds = [] := by
      cases ds with
      | nil => rfl
      | cons d l => obtain ⟨b, off, e, _⟩ := hc 0 d rfl; cases e
    subst hd
    have hcp := hc2 rfl
    subst hcp
    have hrun := run_append_owned_none (P := Tryz.prog) (w := W) B 39 o.type 59 i0 3 Tryz.underlying39 hin _ 0 [] hnil
    unfold Oper.wp
    simp [execOp, ho, resolve, invoke, builtin, hs, hx, hrun, Result.andThen]
    exact h none 0 W hnil (Below.refl _ _)
  | some ad =>
    have had : ∃ b off, ad = ⟨b, off, none⟩ ∨ ds = [] := by
      cases ds with
      | nil => exact ⟨0, 0, .inr rfl⟩
      | cons d l => obtain ⟨b, off, e, _⟩ := hc 0 d rfl; exact ⟨b, off, .inl (Option.some.inj e)⟩
    have hnews : ∀ j y, (ocs ds)[j]? = some y → W.cell? (ad.add j) = some y := by
      obtain ⟨b, off, rfl | rfl⟩ := had
      · exact rdd_cells hr'
      · intro j y hj; simp [ocs] at hj
    refine wp_append_own W s x 39 ho B 59 i0 (.agg #[.int .i64 0, .int .i64 0, .string ⟨#[]⟩]) 3 32 Tryz.underlying39 hin hz0 hz1 hz2 rfl (by decide) (.slice none 0 0) 0 [] hs hnil ad ds.length cp (ocs ds) hx (ocs_length ds) hnews (ocs_one' ds) (by unfold maxLen; omega) (by omega) hB ?_
    intro v' w' ho' hg _
    rw [Nat.zero_add, List.nil_append] at ho'
    obtain ⟨a', k', rfl⟩ := own_form ho'
    exact h a' k' w' ho' ⟨hg.os, hg.tape, hg.output, hg.size, fun k hk => hg.block k hk (by simp [Value.ownBlock])⟩
/-- Copy's box of an edit, on its way. -/
structure BxC (x g B : Nat) (E : EdD) (v : Value) (sa : Addr) (u : Value) (q : Int) (ds : List OpD) (L : Nat → Bool) (W : World) : Prop where
  box : EB W x E v
  src : W.cell? sa = some u
  rd : RdD W u ds
  bsz : B ≤ W.heap.size
  lt : g < W.heap.size
  nx : x ≠ g
  ns : sa.block < g
  ro : ∀ W' : World, W.grownBy W' (some g) → RdD W' u ds
  old : L 10 = false → W.heap[g]? = some (.cells #[.int .i64 q, .slice none 0 0] 41)
  new : L 10 = true → L 1 = true ∧ ∃ a k, W.heap[g]? = some (.cells #[.int .i64 q, .slice a ds.length k] 41) ∧ W.ownsRow B 59 3 (.slice a ds.length k) ds.length (ocs ds)
theorem BxC.old0 {x g B : Nat} {E : EdD} {v : Value} {src : Addr} {u : Value} {q : Int} {ds : List OpD} {L : Nat → Bool} {W : World} (h : BxC x g B E v src u q ds L W) (hl : L 1 = false) : W.heap[g]? = some (.cells #[.int .i64 q, .slice none 0 0] 41) := by
  cases hs : L 10 with
  | false => exact h.old hs
  | true => have := (h.new hs).1; rw [hl] at this; cases this
theorem BxC.any {x g B : Nat} {E : EdD} {v : Value} {src : Addr} {u : Value} {q : Int} {ds : List OpD} {L : Nat → Bool} {W : World} (h : BxC x g B E v src u q ds L W) : ∃ cs, W.heap[g]? = some (.cells cs 41) := by
  cases hs : L 10 with
  | false => exact ⟨_, h.old hs⟩
  | true => obtain ⟨-, a, k, h2, -⟩ := h.new hs; exact ⟨_, h2⟩
theorem BxC.step {x g B : Nat} {E : EdD} {v : Value} {src : Addr} {u : Value} {q : Int} {ds : List OpD} {L : Nat → Bool} {W W' : World} {i : Nat} (h : BxC x g B E v src u q ds L W) (hi : 10 ≠ i) (hb : Below W.heap.size W W') : BxC x g B E v src u q ds (fun j => if j = i then true else L j) W' := by
  refine ⟨h.box.below hb, (hb.cell (p := src) (Nat.lt_trans h.ns h.lt)).trans h.src, h.rd.below hb, Nat.le_trans h.bsz hb.size, Nat.lt_of_lt_of_le h.lt hb.size, h.nx, h.ns, fun W2 hg => h.ro W2 (gb_trans (gb_below hb) hg), fun hs => ?_, fun hs => ?_⟩
  · rw [if_neg hi] at hs
    exact (hb.block g h.lt).trans (h.old hs)
  · rw [if_neg hi] at hs
    obtain ⟨h1, a, k, h2, h3⟩ := h.new hs
    exact ⟨by split <;> first | rfl | exact h1, a, k, (hb.block g h.lt).trans h2, own_belowG h3 hb⟩
theorem BxC.sto {x g B : Nat} {E : EdD} {v : Value} {src : Addr} {u : Value} {q : Int} {ds : List OpD} {L : Nat → Bool} {W : World} {a : Option Addr} {k : Nat} (h : BxC x g B E v src u q ds L W) (hl : L 1 = true) (hs : L 10 = false) (ho : W.ownsRow B 59 3 (.slice a ds.length k) ds.length (ocs ds)) :
    BxC x g B E v src u q ds (fun j => if j = 10 then true else L j) (W.setCell ⟨g, 1, none⟩ (.slice a ds.length k)) := by
  have hg := grown_set W g 1 (.slice a ds.length k)
  have hne : some src.block ≠ some g := fun e => by have := h.ns; simp at e; omega
  refine ⟨(hg.block x h.box.lt (fun e => h.nx (Option.some.inj e))).trans h.box, hg.cell h.src hne, h.ro _ hg, Nat.le_trans h.bsz hg.size, Nat.lt_of_lt_of_le h.lt hg.size, h.nx, h.ns, fun W2 h2 => h.ro W2 (gb_trans hg h2), fun e => ?_, fun _ => ⟨?_, a, k, heap_setCell (h.old hs) 1 _, own_set ho (h.old hs) (by decide)⟩⟩
  · rw [if_pos rfl] at e; cases e
  · split
    · rfl
    · exact hl
def phCp (x g B ga oa ca n k ku : Nat) (au : Option Addr) (ds : List OpD) : Nat → Value → World → Prop
  | 0, v, _ => v = (.pointer (some ⟨g, 1, none⟩))
  | 1, v, _ => v = (.slice none 0 0)
  | 2, v, _ => v = (.pointer (some ⟨x, 5, none⟩))
  | 3, v, _ => v = (.slice (some ⟨ga, oa, none⟩) n ca)
  | 4, v, _ => v = (.int .i64 (k : Int))
  | 5, v, _ => v = (.pointer (some ⟨ga, oa + k * 2, none⟩))
  | 6, v, _ => v = (.pointer (some ⟨ga, oa + k * 2 + 1, none⟩))
  | 7, v, _ => v = (.slice au ds.length ku)
  | 8, v, W => ∃ a k', v = .slice a ds.length k' ∧ W.ownsRow B 59 3 (.slice a ds.length k') ds.length (ocs ds) ∧ (Value.slice a ds.length k').ownBlock ≠ some g
  | 9, v, _ => v = (.pointer (some ⟨g, 1, none⟩))
  | 10, _, _ => True
  | _, _, _ => True
theorem phCp_stays {x g B ga oa ca n k ku : Nat} {au : Option Addr} {ds : List OpD} (i : Nat) (v : Value) (w w' : World) (h : phCp x g B ga oa ca n k ku au ds i v w) (hg : w.grownBy w' (some g)) : phCp x g B ga oa ca n k ku au ds i v w' := by
  unfold phCp at h ⊢
  split at h
  all_goals first
    | exact h
    | (obtain ⟨a, k', e, ho, hn⟩ := h; exact ⟨a, k', e, ho.kept hg (.inr hn), hn⟩)
    | trivial
theorem bel_gb {wr W : World} {o : Obj} (hR : (wr.alloc o).drew.grownBy W (some wr.heap.size)) : Below wr.heap.size wr W := by
  refine ⟨hR.os, hR.tape, hR.output, Nat.le_trans (by show _ ≤ (World.alloc _ _).heap.size; rw [World.size_alloc]; omega) hR.size, fun k hk => ?_⟩
  have h1 := hR.block k (by show k < (wr.alloc o).heap.size; simp; omega) (fun e => by simp at e; omega)
  exact h1.trans (Below.heap_alloc wr o k hk)
set_option maxRecDepth 20000 in
set_option maxHeartbeats 3000000 in
theorem rcopy_any (E : EdD) (v : Value) (w : World) (hr : RdEd w v E.p) (hpl : E.p.length ≤ 1048576) (hF : ∀ e ∈ E.p, e.d.length ≤ 1048576) :
    Calls Tryz.prog 5 #[.agg (E.fs v)] w fun e w' => ∃ v' us, e = .returned (.agg (E.fs v')) ∧ OwEd w' w.heap.size v' E.p us ∧ Below w.heap.size w w' := by
  obtain ⟨i0, hin, hz0, hz1, hz2⟩ := info_parts Tryz.infoEd
  have hx := ((eb_new w E v).below (alloc_b _ (.cells (zeroE.fs (.slice none 0 0)) 24))).below (alloc_b _ (.cells (E.fs (.slice none 0 0)) 24))
  have hy := (eb_new (w.alloc (.cells (E.fs v) 24)) zeroE (.slice none 0 0)).below (alloc_b _ (.cells (E.fs (.slice none 0 0)) 24))
  have hz := eb_new ((w.alloc (.cells (E.fs v) 24)).alloc (.cells (zeroE.fs (.slice none 0 0)) 24)) E (.slice none 0 0)
  have hA := bel3 w (.cells (E.fs v) 24) (.cells (zeroE.fs (.slice none 0 0)) 24) (.cells (E.fs (.slice none 0 0)) 24)
  have hsz : (((w.alloc (.cells (E.fs v) 24)).alloc (.cells (zeroE.fs (.slice none 0 0)) 24)).alloc (.cells (E.fs (.slice none 0 0)) 24)).heap.size = w.heap.size + 3 := by simp
  rw [World.size_alloc] at hy
  rw [World.size_alloc, World.size_alloc] at hz
  obtain ⟨ao, ca, rfl, -, hc⟩ := hr
  simp only [EdD.fs, zeroE] at hx hy hz hA hsz ⊢
  go_enter Tryz.func5, Tryz.ntmps5
  go_wp2_with fail
  generalize ((w.alloc (.cells #[.int .i64 E.c, .int .i64 E.b, .int .i64 E.r, .string E.t, .int .i64 E.s, .slice ao E.p.length ca] 24)).alloc (.cells #[.int .i64 0, .int .i64 0, .int .i64 0, .string ⟨#[]⟩, .int .i64 0, .slice none 0 0] 24)).alloc (.cells #[.int .i64 E.c, .int .i64 E.b, .int .i64 E.r, .string E.t, .int .i64 E.s, .slice none 0 0] 24) = w3 at *
  go_loopw [4] (fun i wr => ∃ (k : Nat) (pv : Value) (us : List Value), k ≤ E.p.length ∧ i = .int .i64 (k : Int) ∧ EB wr w.heap.size E (.slice ao E.p.length ca) ∧ EB wr (w.heap.size + 1) zeroE (.slice none 0 0) ∧ EB wr (w.heap.size + 1 + 1) E pv ∧ OwEd wr (w.heap.size + 3) pv (E.p.take k) us ∧ w.heap.size + 3 ≤ wr.heap.size ∧ Below w.heap.size w wr) (fun i _ => E.p.length - (Go.RowKit.intOf i).toNat)
  case atStart => exact ⟨0, _, [], by omega, rfl, hx, hy, hz, by simpa using OwEd.nil w3 (w.heap.size + 3), by omega, hA⟩
  case round =>
    clear hx hy hz hA hsz
    obtain ⟨k, pv, us, hk, rfl, hx, hy, hz, ho, hsz, hB⟩ := hrel
    obtain ⟨x0, x1, x2, x3, x4, x5⟩ := cellsEB hx
    obtain ⟨ap, kp, rfl⟩ := own_form ho.row
    by_cases hlt : k < E.p.length
    · have hlt' : (k : Int) < (E.p.length : Int) := by omega
      obtain ⟨ga, oa, u, rfl, hg, c0, c1, c2⟩ := hc k E.p[k] (by simp [hlt])
      have hdl := hF E.p[k] (List.getElem_mem hlt)
      replace c0 := (hB.cell (p := ⟨ga, oa + k * 2, none⟩) hg).trans c0
      replace c1 := (hB.cell (p := ⟨ga, oa + k * 2 + 1, none⟩) hg).trans c1
      replace c2 := c2.below hB
      replace hg := Nat.lt_of_lt_of_le hg hB.size
      obtain ⟨au, ku, rfl⟩ := rdd_len c2
      have Htk : Hid (E.p.take (k + 1) = E.p.take k ++ [E.p[k]]) := List.take_succ_eq_append_getElem hlt
      have hlk : Hid ((E.p.take k).length = k) := by show _ = _; simp; omega
      generalize E.p.take k = L0 at *
      generalize E.p[k] = e at *
      clear hc hF
      go_upto_region 7 with fail
      have hbE := eb_newX wr e.q (.slice none 0 0)
      have hBa : Below wr.heap.size wr (wr.alloc (.cells #[.int .i64 e.q, .slice none 0 0] 41)).drew := (alloc_b wr (.cells #[.int .i64 e.q, .slice none 0 0] 41)).drew
      have hBx : BxC w.heap.size wr.heap.size (w.heap.size + 3) E (.slice (some ⟨ga, oa, none⟩) E.p.length ca) ⟨ga, oa + k * 2 + 1, none⟩ (.slice au e.d.length ku) e.q e.d (fun _ => false) (wr.alloc (.cells #[.int .i64 e.q, .slice none 0 0] 41)).drew := by
        refine ⟨hx.below hBa, (hBa.cell (p := ⟨ga, oa + k * 2 + 1, none⟩) hg).trans c1, c2.below hBa, ?_, ?_, ?_, hg, fun W' h => ?_, fun _ => hbE, fun e => by cases e⟩
        · show _ ≤ (World.alloc _ _).heap.size; simp; omega
        · show _ < (World.alloc _ _).heap.size; simp
        · omega
        · exact c2.below (bel_gb h)
      clear x0 x1 x2 x3 x4 x5 c0 c1 c2
      refine mono.region_monoS (fun W W' => World.grownBy W W' (some wr.heap.size)) (gb_refl wr.heap.size) (fun _ _ _ => gb_trans) (phCp w.heap.size wr.heap.size (w.heap.size + 3) ga oa ca E.p.length k ku au e.d) (BxC w.heap.size wr.heap.size (w.heap.size + 3) E (.slice (some ⟨ga, oa, none⟩) E.p.length ca) ⟨ga, oa + k * 2 + 1, none⟩ (.slice au e.d.length ku) e.q e.d) 39 [] [0, 1, 2, 3, 4, 5, 6, 7, 8, 9, 10] (by kernel_rfl) rfl rfl (by kernel_rfl) [] (by kernel_rfl) (by simp) (phCp_stays) (hBx) (.cons ?_ (.cons ?_ (.cons ?_ (.cons ?_ (.cons ?_ (.cons ?_ (.cons ?_ (.cons ?_ (.cons ?_ (.cons ?_ (.cons ?_ (.nil)))))))))))) ?_
      · refine mono.dutyS_of rfl ?_
        intro f W L hR hO hD hL hi hX K hK
        have eL : mono.lit 39 f [] = ⟨#[f 0, f 1, f 2, f 3, f 4, f 5, f 6, f 7, f 8, f 9, f 10, f 11, f 12, f 13, f 14, f 15, f 16, f 17, f 18, f 19, f 20, f 21, f 22, f 23, f 24, f 25, f 26, f 27, f 28, f 29, f 30, f 31, f 32, f 33, f 34, f 35, f 36, f 37, f 38], []⟩ := rfl
        replace hK : ∀ v W', (fun W W' => World.grownBy W W' (some wr.heap.size)) W W' → phCp w.heap.size wr.heap.size (w.heap.size + 3) ga oa ca E.p.length k ku au e.d 0 v W' → BxC w.heap.size wr.heap.size (w.heap.size + 3) E (.slice (some ⟨ga, oa, none⟩) E.p.length ca) ⟨ga, oa + k * 2 + 1, none⟩ (.slice au e.d.length ku) e.q e.d (fun j => if j = 0 then true else L j) W' → K ((mono.lit 39 f []).put (some 22) v) W' := hK
        rw [eL] at hK ⊢
        simp only [Act.put, List.setIfInBounds_toArray, List.set_cons_succ, List.set_cons_zero] at hK
        have o5 : f 5 = (.pointer (some ⟨wr.heap.size, 0, none⟩)) := hO 5 (by kernel_rfl)
        rw [o5] at hK ⊢
        go_simp
        exact hK _ _ (gb_refl _ _) rfl (hX.step (by decide) (Below.refl _ _))
      · refine mono.dutyS_of rfl ?_
        intro f W L hR hO hD hL hi hX K hK
        have eL : mono.lit 39 f [] = ⟨#[f 0, f 1, f 2, f 3, f 4, f 5, f 6, f 7, f 8, f 9, f 10, f 11, f 12, f 13, f 14, f 15, f 16, f 17, f 18, f 19, f 20, f 21, f 22, f 23, f 24, f 25, f 26, f 27, f 28, f 29, f 30, f 31, f 32, f 33, f 34, f 35, f 36, f 37, f 38], []⟩ := rfl
        replace hK : ∀ v W', (fun W W' => World.grownBy W W' (some wr.heap.size)) W W' → phCp w.heap.size wr.heap.size (w.heap.size + 3) ga oa ca E.p.length k ku au e.d 1 v W' → BxC w.heap.size wr.heap.size (w.heap.size + 3) E (.slice (some ⟨ga, oa, none⟩) E.p.length ca) ⟨ga, oa + k * 2 + 1, none⟩ (.slice au e.d.length ku) e.q e.d (fun j => if j = 1 then true else L j) W' → K ((mono.lit 39 f []).put (some 23) v) W' := hK
        rw [eL] at hK ⊢
        simp only [Act.put, List.setIfInBounds_toArray, List.set_cons_succ, List.set_cons_zero] at hK
        have q0 := hD 0 22 (by kernel_rfl) (by kernel_rfl)
        replace q0 : f 22 = (.pointer (some ⟨wr.heap.size, 1, none⟩)) := q0
        rw [q0] at hK ⊢
        have hEB := hX.old0 hi
        obtain ⟨y0, y1⟩ := cells2X hEB
        go_simp
        exact hK _ _ (gb_refl _ _) rfl (hX.step (by decide) (Below.refl _ _))
      · refine mono.dutyS_of rfl ?_
        intro f W L hR hO hD hL hi hX K hK
        have eL : mono.lit 39 f [] = ⟨#[f 0, f 1, f 2, f 3, f 4, f 5, f 6, f 7, f 8, f 9, f 10, f 11, f 12, f 13, f 14, f 15, f 16, f 17, f 18, f 19, f 20, f 21, f 22, f 23, f 24, f 25, f 26, f 27, f 28, f 29, f 30, f 31, f 32, f 33, f 34, f 35, f 36, f 37, f 38], []⟩ := rfl
        replace hK : ∀ v W', (fun W W' => World.grownBy W W' (some wr.heap.size)) W W' → phCp w.heap.size wr.heap.size (w.heap.size + 3) ga oa ca E.p.length k ku au e.d 2 v W' → BxC w.heap.size wr.heap.size (w.heap.size + 3) E (.slice (some ⟨ga, oa, none⟩) E.p.length ca) ⟨ga, oa + k * 2 + 1, none⟩ (.slice au e.d.length ku) e.q e.d (fun j => if j = 2 then true else L j) W' → K ((mono.lit 39 f []).put (some 24) v) W' := hK
        rw [eL] at hK ⊢
        simp only [Act.put, List.setIfInBounds_toArray, List.set_cons_succ, List.set_cons_zero] at hK
        have o1 : f 1 = (.pointer (some ⟨w.heap.size, 0, none⟩)) := hO 1 (by kernel_rfl)
        rw [o1] at hK ⊢
        go_simp
        exact hK _ _ (gb_refl _ _) rfl (hX.step (by decide) (Below.refl _ _))
      · refine mono.dutyS_of rfl ?_
        intro f W L hR hO hD hL hi hX K hK
        have eL : mono.lit 39 f [] = ⟨#[f 0, f 1, f 2, f 3, f 4, f 5, f 6, f 7, f 8, f 9, f 10, f 11, f 12, f 13, f 14, f 15, f 16, f 17, f 18, f 19, f 20, f 21, f 22, f 23, f 24, f 25, f 26, f 27, f 28, f 29, f 30, f 31, f 32, f 33, f 34, f 35, f 36, f 37, f 38], []⟩ := rfl
        replace hK : ∀ v W', (fun W W' => World.grownBy W W' (some wr.heap.size)) W W' → phCp w.heap.size wr.heap.size (w.heap.size + 3) ga oa ca E.p.length k ku au e.d 3 v W' → BxC w.heap.size wr.heap.size (w.heap.size + 3) E (.slice (some ⟨ga, oa, none⟩) E.p.length ca) ⟨ga, oa + k * 2 + 1, none⟩ (.slice au e.d.length ku) e.q e.d (fun j => if j = 3 then true else L j) W' → K ((mono.lit 39 f []).put (some 25) v) W' := hK
        rw [eL] at hK ⊢
        simp only [Act.put, List.setIfInBounds_toArray, List.set_cons_succ, List.set_cons_zero] at hK
        have q2 := hD 2 24 (by kernel_rfl) (by kernel_rfl)
        replace q2 : f 24 = (.pointer (some ⟨w.heap.size, 5, none⟩)) := q2
        rw [q2] at hK ⊢
        have x5 := (cellsEB (hX.box)).2.2.2.2.2
        go_simp
        exact hK _ _ (gb_refl _ _) rfl (hX.step (by decide) (Below.refl _ _))
      · refine mono.dutyS_of rfl ?_
        intro f W L hR hO hD hL hi hX K hK
        have eL : mono.lit 39 f [] = ⟨#[f 0, f 1, f 2, f 3, f 4, f 5, f 6, f 7, f 8, f 9, f 10, f 11, f 12, f 13, f 14, f 15, f 16, f 17, f 18, f 19, f 20, f 21, f 22, f 23, f 24, f 25, f 26, f 27, f 28, f 29, f 30, f 31, f 32, f 33, f 34, f 35, f 36, f 37, f 38], []⟩ := rfl
        replace hK : ∀ v W', (fun W W' => World.grownBy W W' (some wr.heap.size)) W W' → phCp w.heap.size wr.heap.size (w.heap.size + 3) ga oa ca E.p.length k ku au e.d 4 v W' → BxC w.heap.size wr.heap.size (w.heap.size + 3) E (.slice (some ⟨ga, oa, none⟩) E.p.length ca) ⟨ga, oa + k * 2 + 1, none⟩ (.slice au e.d.length ku) e.q e.d (fun j => if j = 4 then true else L j) W' → K ((mono.lit 39 f []).put (some 26) v) W' := hK
        rw [eL] at hK ⊢
        simp only [Act.put, List.setIfInBounds_toArray, List.set_cons_succ, List.set_cons_zero] at hK
        have o4 : f 4 = (.int .i64 (k : Int)) := hO 4 (by kernel_rfl)
        rw [o4] at hK ⊢
        go_simp
        exact hK _ _ (gb_refl _ _) rfl (hX.step (by decide) (Below.refl _ _))
      · refine mono.dutyS_of rfl ?_
        intro f W L hR hO hD hL hi hX K hK
        have eL : mono.lit 39 f [] = ⟨#[f 0, f 1, f 2, f 3, f 4, f 5, f 6, f 7, f 8, f 9, f 10, f 11, f 12, f 13, f 14, f 15, f 16, f 17, f 18, f 19, f 20, f 21, f 22, f 23, f 24, f 25, f 26, f 27, f 28, f 29, f 30, f 31, f 32, f 33, f 34, f 35, f 36, f 37, f 38], []⟩ := rfl
        replace hK : ∀ v W', (fun W W' => World.grownBy W W' (some wr.heap.size)) W W' → phCp w.heap.size wr.heap.size (w.heap.size + 3) ga oa ca E.p.length k ku au e.d 5 v W' → BxC w.heap.size wr.heap.size (w.heap.size + 3) E (.slice (some ⟨ga, oa, none⟩) E.p.length ca) ⟨ga, oa + k * 2 + 1, none⟩ (.slice au e.d.length ku) e.q e.d (fun j => if j = 5 then true else L j) W' → K ((mono.lit 39 f []).put (some 27) v) W' := hK
        rw [eL] at hK ⊢
        simp only [Act.put, List.setIfInBounds_toArray, List.set_cons_succ, List.set_cons_zero] at hK
        have q3 := hD 3 25 (by kernel_rfl) (by kernel_rfl)
        replace q3 : f 25 = (.slice (some ⟨ga, oa, none⟩) E.p.length ca) := q3
        have q4 := hD 4 26 (by kernel_rfl) (by kernel_rfl)
        replace q4 : f 26 = (.int .i64 (k : Int)) := q4
        rw [q3, q4] at hK ⊢
        go_simp
        exact hK _ _ (gb_refl _ _) rfl (hX.step (by decide) (Below.refl _ _))
      · refine mono.dutyS_of rfl ?_
        intro f W L hR hO hD hL hi hX K hK
        have eL : mono.lit 39 f [] = ⟨#[f 0, f 1, f 2, f 3, f 4, f 5, f 6, f 7, f 8, f 9, f 10, f 11, f 12, f 13, f 14, f 15, f 16, f 17, f 18, f 19, f 20, f 21, f 22, f 23, f 24, f 25, f 26, f 27, f 28, f 29, f 30, f 31, f 32, f 33, f 34, f 35, f 36, f 37, f 38], []⟩ := rfl
        replace hK : ∀ v W', (fun W W' => World.grownBy W W' (some wr.heap.size)) W W' → phCp w.heap.size wr.heap.size (w.heap.size + 3) ga oa ca E.p.length k ku au e.d 6 v W' → BxC w.heap.size wr.heap.size (w.heap.size + 3) E (.slice (some ⟨ga, oa, none⟩) E.p.length ca) ⟨ga, oa + k * 2 + 1, none⟩ (.slice au e.d.length ku) e.q e.d (fun j => if j = 6 then true else L j) W' → K ((mono.lit 39 f []).put (some 28) v) W' := hK
        rw [eL] at hK ⊢
        simp only [Act.put, List.setIfInBounds_toArray, List.set_cons_succ, List.set_cons_zero] at hK
        have q5 := hD 5 27 (by kernel_rfl) (by kernel_rfl)
        replace q5 : f 27 = (.pointer (some ⟨ga, oa + k * 2, none⟩)) := q5
        rw [q5] at hK ⊢
        go_simp
        exact hK _ _ (gb_refl _ _) rfl (hX.step (by decide) (Below.refl _ _))
      · refine mono.dutyS_of rfl ?_
        intro f W L hR hO hD hL hi hX K hK
        have eL : mono.lit 39 f [] = ⟨#[f 0, f 1, f 2, f 3, f 4, f 5, f 6, f 7, f 8, f 9, f 10, f 11, f 12, f 13, f 14, f 15, f 16, f 17, f 18, f 19, f 20, f 21, f 22, f 23, f 24, f 25, f 26, f 27, f 28, f 29, f 30, f 31, f 32, f 33, f 34, f 35, f 36, f 37, f 38], []⟩ := rfl
        replace hK : ∀ v W', (fun W W' => World.grownBy W W' (some wr.heap.size)) W W' → phCp w.heap.size wr.heap.size (w.heap.size + 3) ga oa ca E.p.length k ku au e.d 7 v W' → BxC w.heap.size wr.heap.size (w.heap.size + 3) E (.slice (some ⟨ga, oa, none⟩) E.p.length ca) ⟨ga, oa + k * 2 + 1, none⟩ (.slice au e.d.length ku) e.q e.d (fun j => if j = 7 then true else L j) W' → K ((mono.lit 39 f []).put (some 29) v) W' := hK
        rw [eL] at hK ⊢
        simp only [Act.put, List.setIfInBounds_toArray, List.set_cons_succ, List.set_cons_zero] at hK
        have q6 := hD 6 28 (by kernel_rfl) (by kernel_rfl)
        replace q6 : f 28 = (.pointer (some ⟨ga, oa + k * 2 + 1, none⟩)) := q6
        rw [q6] at hK ⊢
        have c0 := (hX.src)
        go_simp
        exact hK _ _ (gb_refl _ _) rfl (hX.step (by decide) (Below.refl _ _))
      · refine mono.dutyS_of rfl ?_
        intro f W L hR hO hD hL hi hX K hK
        have eL : mono.lit 39 f [] = ⟨#[f 0, f 1, f 2, f 3, f 4, f 5, f 6, f 7, f 8, f 9, f 10, f 11, f 12, f 13, f 14, f 15, f 16, f 17, f 18, f 19, f 20, f 21, f 22, f 23, f 24, f 25, f 26, f 27, f 28, f 29, f 30, f 31, f 32, f 33, f 34, f 35, f 36, f 37, f 38], []⟩ := rfl
        replace hK : ∀ v W', (fun W W' => World.grownBy W W' (some wr.heap.size)) W W' → phCp w.heap.size wr.heap.size (w.heap.size + 3) ga oa ca E.p.length k ku au e.d 8 v W' → BxC w.heap.size wr.heap.size (w.heap.size + 3) E (.slice (some ⟨ga, oa, none⟩) E.p.length ca) ⟨ga, oa + k * 2 + 1, none⟩ (.slice au e.d.length ku) e.q e.d (fun j => if j = 8 then true else L j) W' → K ((mono.lit 39 f []).put (some 30) v) W' := hK
        rw [eL] at hK ⊢
        simp only [Act.put, List.setIfInBounds_toArray, List.set_cons_succ, List.set_cons_zero] at hK
        have q1 := hD 1 23 (by kernel_rfl) (by kernel_rfl)
        replace q1 : f 23 = (.slice none 0 0) := q1
        have q7 := hD 7 29 (by kernel_rfl) (by kernel_rfl)
        replace q7 : f 29 = (.slice au e.d.length ku) := q7
        rw [q1, q7] at hK ⊢
        refine wp_dup (.tmp 23) (.tmp 29) rfl rfl rfl hX.rd hdl hX.bsz ?_
        intro a' k' w' ho' hb'
        obtain ⟨cs, hcs⟩ := hX.any
        exact hK _ _ (gb_below hb') ⟨a', k', rfl, ho', fun e => box_apart ho' ((hb'.block wr.heap.size hX.lt).trans hcs) (by decide) e.symm⟩ (hX.step (by decide) hb')
      · refine mono.dutyS_of rfl ?_
        intro f W L hR hO hD hL hi hX K hK
        have eL : mono.lit 39 f [] = ⟨#[f 0, f 1, f 2, f 3, f 4, f 5, f 6, f 7, f 8, f 9, f 10, f 11, f 12, f 13, f 14, f 15, f 16, f 17, f 18, f 19, f 20, f 21, f 22, f 23, f 24, f 25, f 26, f 27, f 28, f 29, f 30, f 31, f 32, f 33, f 34, f 35, f 36, f 37, f 38], []⟩ := rfl
        replace hK : ∀ v W', (fun W W' => World.grownBy W W' (some wr.heap.size)) W W' → phCp w.heap.size wr.heap.size (w.heap.size + 3) ga oa ca E.p.length k ku au e.d 9 v W' → BxC w.heap.size wr.heap.size (w.heap.size + 3) E (.slice (some ⟨ga, oa, none⟩) E.p.length ca) ⟨ga, oa + k * 2 + 1, none⟩ (.slice au e.d.length ku) e.q e.d (fun j => if j = 9 then true else L j) W' → K ((mono.lit 39 f []).put (some 31) v) W' := hK
        rw [eL] at hK ⊢
        simp only [Act.put, List.setIfInBounds_toArray, List.set_cons_succ, List.set_cons_zero] at hK
        have o5 : f 5 = (.pointer (some ⟨wr.heap.size, 0, none⟩)) := hO 5 (by kernel_rfl)
        rw [o5] at hK ⊢
        go_simp
        exact hK _ _ (gb_refl _ _) rfl (hX.step (by decide) (Below.refl _ _))
      · refine mono.dutyS_of rfl ?_
        intro f W L hR hO hD hL hi hX K hK
        have eL : mono.lit 39 f [] = ⟨#[f 0, f 1, f 2, f 3, f 4, f 5, f 6, f 7, f 8, f 9, f 10, f 11, f 12, f 13, f 14, f 15, f 16, f 17, f 18, f 19, f 20, f 21, f 22, f 23, f 24, f 25, f 26, f 27, f 28, f 29, f 30, f 31, f 32, f 33, f 34, f 35, f 36, f 37, f 38], []⟩ := rfl
        replace hK : ∀ v W', (fun W W' => World.grownBy W W' (some wr.heap.size)) W W' → phCp w.heap.size wr.heap.size (w.heap.size + 3) ga oa ca E.p.length k ku au e.d 10 v W' → BxC w.heap.size wr.heap.size (w.heap.size + 3) E (.slice (some ⟨ga, oa, none⟩) E.p.length ca) ⟨ga, oa + k * 2 + 1, none⟩ (.slice au e.d.length ku) e.q e.d (fun j => if j = 10 then true else L j) W' → K ((mono.lit 39 f []).put none v) W' := hK
        rw [eL] at hK ⊢
        simp only [Act.put] at hK
        have q8 := hD 8 30 (by kernel_rfl) (by kernel_rfl)
        obtain ⟨a8, k8, e8, o8, n8⟩ := q8
        have q9 := hD 9 31 (by kernel_rfl) (by kernel_rfl)
        replace q9 : f 31 = (.pointer (some ⟨wr.heap.size, 1, none⟩)) := q9
        rw [e8, q9] at hK ⊢
        have hEB := hX.old hi
        obtain ⟨y0, y1⟩ := cells2X hEB
        have y2 := frz hEB 1
        go_simp
        exact hK undef _ (grown_set _ _ _ _) trivial (hX.sto (hL 1 (by kernel_rfl)) hi o8)
      · intro f W L hR hO hD hL hX
        have r0 := hO 0 (by kernel_rfl)
        have r1 := hO 1 (by kernel_rfl)
        have r2 := hO 2 (by kernel_rfl)
        have r3 := hO 3 (by kernel_rfl)
        have r4 := hO 4 (by kernel_rfl)
        have r5 := hO 5 (by kernel_rfl)
        have r6 := hO 6 (by kernel_rfl)
        have r7 := hO 7 (by kernel_rfl)
        have r8 := hO 8 (by kernel_rfl)
        have r9 := hO 9 (by kernel_rfl)
        have r10 := hO 10 (by kernel_rfl)
        have r11 := hO 11 (by kernel_rfl)
        have r12 := hO 12 (by kernel_rfl)
        have r13 := hO 13 (by kernel_rfl)
        have r14 := hO 14 (by kernel_rfl)
        have r15 := hO 15 (by kernel_rfl)
        have r16 := hO 16 (by kernel_rfl)
        have r17 := hO 17 (by kernel_rfl)
        have r18 := hO 18 (by kernel_rfl)
        have r19 := hO 19 (by kernel_rfl)
        have r20 := hO 20 (by kernel_rfl)
        have r21 := hO 21 (by kernel_rfl)
        have r32 := hO 32 (by kernel_rfl)
        have r33 := hO 33 (by kernel_rfl)
        have r34 := hO 34 (by kernel_rfl)
        have r35 := hO 35 (by kernel_rfl)
        have r36 := hO 36 (by kernel_rfl)
        have r37 := hO 37 (by kernel_rfl)
        have r38 := hO 38 (by kernel_rfl)
        have eL : mono.lit 39 f [] = ⟨#[f 0, f 1, f 2, f 3, f 4, f 5, f 6, f 7, f 8, f 9, f 10, f 11, f 12, f 13, f 14, f 15, f 16, f 17, f 18, f 19, f 20, f 21, f 22, f 23, f 24, f 25, f 26, f 27, f 28, f 29, f 30, f 31, f 32, f 33, f 34, f 35, f 36, f 37, f 38], []⟩ := rfl
        rw [eL, r0, r1, r2, r3, r4, r5, r6, r7, r8, r9, r10, r11, r12, r13, r14, r15, r16, r17, r18, r19, r20, r21, r32, r33, r34, r35, r36, r37, r38]
        obtain ⟨-, a6, k6, hg6, ho6⟩ := hX.new (hL 10 (by decide))
        have hbW := bel_gb hR
        have hzW := hz.below hbW
        have hsW := hbW.size
        obtain ⟨y0, y1⟩ := cells2X hg6
        have z5 := (cellsEB hzW).2.2.2.2.2
        have hal := alloc_b W (.cells #[.int .i64 e.q, .slice a6 e.d.length k6] 41)
        have hoE := (ho.below hbW).below hal
        have hoD := own_belowG ho6 hal
        have hzA := hzW.below hal
        have hxA := (hx.below hbW).below hal
        have hyA := (hy.below hbW).below hal
        have hBA := (chain hB (chain hbW hal))
        clear hX hR hO hD hL hbE hBx hBa
        go_wp2_with (at_builtin; refine wpList_append_own _ rfl (.tmp 33) (.tmp 35) 22 rfl (w.heap.size + 3) 41 i0 (.agg #[.int .i64 0, .slice none 0 0]) 2 32 Tryz.underlying22 hin hz0 hz1 hz2 rfl (by decide) _ L0.length _ rfl hoE.row ⟨_, 0, none⟩ 1 1 [.int .i64 e.q, .slice a6 e.d.length k6] rfl rfl (many_new _ _ _) (two_one _ _ _ _) (by have := hlk.out; unfold maxLen; omega) (by have := hlk.out; omega) (by simp; omega) ?_; intro v7 w7 ho7 hg7 _; obtain ⟨a7, k7, rfl⟩ := own_form ho7; have hz7 : EB w7 (w.heap.size + 1 + 1) E (.slice ap L0.length kp) := (hg7.block (w.heap.size + 1 + 1) hzA.lt (fun e => by have := (hoE.row.lt _ e.symm).1; omega)).trans hzA; have t5 := (cellsEB hz7).2.2.2.2.2; have f5 := (EB.frz hz7).2.2.2.2.2)
        have hnew := OwEd.app hoE hoD ho7 hg7
        rw [← Htk.out] at hnew
        have hx7 : EB w7 w.heap.size E _ := (hg7.block w.heap.size hxA.lt (fun e => by have := (hoE.row.lt _ e.symm).1; omega)).trans hxA
        have hy7 : EB w7 (w.heap.size + 1) zeroE _ := (hg7.block (w.heap.size + 1) hyA.lt (fun e => by have := (hoE.row.lt _ e.symm).1; omega)).trans hyA
        have hB7 := hBA.grown hg7 (by simp; omega) (fun j hj => by have := (hoE.row.lt j hj).1; omega)
        have hs7 := hg7.size
        refine ⟨⟨k + 1, .slice a7 (L0.length + 1) k7, _, by omega, by go_num, ?_, ?_, heap_setCell hz7 5 _, hnew.set (a := ⟨w.heap.size + 1 + 1, 5, none⟩) (by simp only; omega) _, ?_, hB7.setCell (by simp only; omega) _⟩, by simp [Go.RowKit.intOf]; omega⟩
        · exact (Below.heap_setCell _ ⟨w.heap.size + 1 + 1, 5, none⟩ _ _ (by simp only; omega)).trans hx7
        · exact (Below.heap_setCell _ ⟨w.heap.size + 1 + 1, 5, none⟩ _ _ (by simp only; omega)).trans hy7
        · have := (grown_set w7 (w.heap.size + 1 + 1) 5 (.slice a7 (L0.length + 1) k7)).size; simp at hs7; omega
    · have hlt' : ¬ (k : Int) < (E.p.length : Int) := by omega
      have hkl : k = E.p.length := by omega
      subst hkl
      rw [List.take_length] at ho
      obtain ⟨z0, z1, z2, z3, z4, z5⟩ := cellsEB hz
      obtain ⟨y0, y1, y2, y3, y4, y5⟩ := cellsEB hy
      obtain ⟨f0, f1, f2, f3, f4, f5⟩ := EB.frz hy
      clear hc
      go_wp2_with fail
      have hfin := EB.put hy E (.slice ap E.p.length kp)
      refine bodyPost_ret (results_cell_row rfl _ _ (w.heap.size + 1) 24 _ (0, 0) _ rfl hfin Tryz.underlying24 rfl Tryz.sizeEr) rfl ?_
      refine ⟨_, rfl, ⟨us, ?_⟩, below_putE hB (by omega) E _⟩
      refine OwEd.lower (B := w.heap.size + 3) ?_ (by omega)
      exact (((((ho.set (a := ⟨w.heap.size + 1, 0, none⟩) (by simp only; omega) _).set (a := ⟨w.heap.size + 1, 1, none⟩) (by simp only; omega) _).set (a := ⟨w.heap.size + 1, 2, none⟩) (by simp only; omega) _).set (a := ⟨w.heap.size + 1, 3, none⟩) (by simp only; omega) _).set (a := ⟨w.heap.size + 1, 4, none⟩) (by simp only; omega) _).set (a := ⟨w.heap.size + 1, 5, none⟩) (by simp only; omega) _
end Go.Proofs.YtcdnlkhjlgaaoaaGreatDoor
