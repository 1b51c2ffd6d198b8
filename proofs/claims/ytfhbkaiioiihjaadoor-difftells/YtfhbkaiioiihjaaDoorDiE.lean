/-
  The code points of two texts; the contracts of pointsOf, Common, Diff.
-/
import Derived.Test.YtfhbkaiioiihjaaDoorDiD
import Derived.Test.YtfhbkaiioiihjaaDoorDiV
import Derived.Test.YtfhbkaiioiihjaaDoorDlR
namespace Go.Proofs.YtfhbkaiioiihjaaDoor
open Go.ChangeShapes Go.WideShapes Go.ChangeAt Go.RowKit Go.PlainAid

theorem runesFrom_at {s : ByteArray} {n : Nat} (hv : Valid s n) : ∀ (bound k : Nat) (acc : Array Value), k ≤ n → n - k ≤ bound → Conv.runesFrom s bound (pos s k) acc = acc ++ (((List.range' k (n - k)).map fun j => Value.int .i32 (pt s j)).toArray)
  | 0, k, acc, hk, hb => by
    have : n - k = 0 := by omega
    rw [this]
    simp [Conv.runesFrom]
  | b + 1, k, acc, hk, hb => by
    rw [Conv.runesFrom]
    by_cases h : k = n
    · subst h
      rw [if_neg (by rw [hv.2]; omega)]
      simp
    · have h1 := hv.1 k (by omega)
      have hd := dec_pos hv (k := k) (by omega)
      rw [if_pos h1.1]
      simp only
      rw [hd.2.1, show (Int.ofNat (Utf8.decode s (pos s k)).1 : Int) = pt s k from hd.1, runesFrom_at hv b (k + 1) _ (by omega) (by omega), show n - k = (n - (k + 1)) + 1 by omega, List.range'_succ]
      simp
theorem runes_pts {s : ByteArray} (h : 0 ≤ cpl s) : Conv.runesFrom s s.size 0 #[] = ((pts s).map (Value.int .i32)).toArray := by
  have hv := cpl_valid h
  have hp := pos_le hv.1 _ (Nat.le_refl _)
  have := runesFrom_at hv s.size 0 #[] (by omega) (by omega)
  rw [show pos s 0 = 0 from rfl] at this
  rw [this, pts, ptL]
  simp [List.range_eq_range']


theorem rdu_new {W : World} {zs : List Int} {cap : Nat} (e : TypeId) :
    RdU (W.alloc (.cells ((zs.map (Value.int .i32)).toArray ++ Array.replicate (cap - zs.length) (.int .i32 0)) e)) (.slice (some ⟨W.heap.size, 0, none⟩) zs.length cap) zs := by
  refine ⟨_, _, rfl, fun i z hz => ⟨W.heap.size, 0, rfl, by simp, ?_⟩⟩
  have hi := (List.getElem?_eq_some_iff.1 hz).1
  have h := heap_alloc_new W (.cells ((zs.map (Value.int .i32)).toArray ++ Array.replicate (cap - zs.length) (.int .i32 0)) e)
  unfold World.cell?
  rw [h]
  simp only [Nat.zero_add]
  rw [Array.getElem?_append_left (by simpa using hi)]
  simp [hz]

/-- utf8.ValidString answers in this world and behind it. -/
def VS (w : World) : Prop := ∀ (t : ByteArray) (W : World), t.size ≤ 1125899906842624 → Below w.heap.size w W →
  Calls Tryd.prog 32 #[.string t] W fun e w' => e = .returned (.bool (Lib.validD t.data.toList)) ∧ Below W.heap.size W w'
theorem VS.below {w w' : World} (h : VS w) (hb : Below w.heap.size w w') : VS w' := fun t W ht hW => h t W ht (chain hb hW)

/-- What two texts are refused with. -/
def ptE (a b : ByteArray) : Int := if 0 ≤ cpl a ∧ 0 ≤ cpl b then (if cpl a ≤ 1000 ∧ cpl b ≤ 1000 then 0 else 91) else 10
theorem ptE_zero {a b : ByteArray} (h : ptE a b = 0) : 0 ≤ cpl a ∧ 0 ≤ cpl b ∧ cpl a ≤ 1000 ∧ cpl b ≤ 1000 := by
  unfold ptE at h
  split at h
  · split at h
    · rename_i h1 h2; exact ⟨h1.1, h1.2, h2.1, h2.2⟩
    · cases h
  · cases h

set_option maxRecDepth 20000 in
set_option maxHeartbeats 1000000 in
theorem pointsOf_any (a b : ByteArray) (w : World) (hV : VS w) (ha : a.size ≤ 1125899906842624) (hb : b.size ≤ 1125899906842624) :
    Calls Tryd.prog 17 #[.string a, .string b] w fun e w' => ∃ vA vB, e = .returned (.tuple #[vA, vB, .int .i64 (ptE a b)]) ∧ (ptE a b = 0 → RdU w' vA (pts a) ∧ RdU w' vB (pts b)) ∧ Below w.heap.size w w' := by
  have cA := fun W h => hV a W ha h
  have cB := fun W h => hV b W hb h
  rw [validD_cpl] at cA cB
  by_cases c1 : 0 ≤ cpl a
  · rw [decide_eq_true c1] at cA
    by_cases c2 : 0 ≤ cpl b
    · rw [decide_eq_true c2] at cB
      have rA := fun W => runes_big a W ha c1
      have rB := fun W => runes_big b W hb c2
      by_cases d1 : cpl a ≤ 1000
      · by_cases d2 : cpl b ≤ 1000
        · have HE : Hid (ptE a b = 0) := by show _ = _; rw [ptE, if_pos ⟨c1, c2⟩, if_pos ⟨d1, d2⟩]
          have sA : (Conv.runesFrom a a.size 0 #[]).size = (pts a).length := by rw [runes_pts c1]; simp
          have sB : (Conv.runesFrom b b.size 0 #[]).size = (pts b).length := by rw [runes_pts c2]; simp
          have lA := pts_len c1
          have lB := pts_len c2
          have vA := fun (W : World) => run_runes_of_string (P := Tryd.prog) W 9 38 21 a Tryd.underlying9 Tryd.underlying38 Tryd.underlying21 (by rw [sA]; omega)
          have vB := fun (W : World) => run_runes_of_string (P := Tryd.prog) W 9 38 21 b Tryd.underlying9 Tryd.underlying38 Tryd.underlying21 (by rw [sB]; omega)
          rw [sA, runes_pts c1] at vA
          rw [sB, runes_pts c2] at vB
          clear sA sB c1 c2 lA lB
          generalize pts a = zA at *
          generalize pts b = zB at *
          generalize cpl a = nA at *
          generalize cpl b = nB at *
          go_enter Tryd.func17, Tryd.ntmps17
          go_wp2_with fail
          refine (cA w (Below.refl _ _)).mono ?_
          rintro e w1 ⟨rfl, hb1⟩
          go_wp2_with fail
          refine (cB w1 hb1).mono ?_
          rintro e w2 ⟨rfl, hb2⟩
          have b2 := chain hb1 hb2
          clear cA cB hb1 hb2
          go_wp2_with fail
          refine (rA w2).mono ?_
          rintro e w3 ⟨rfl, hb3⟩
          have b3 := chain b2 hb3
          clear rA b2 hb3
          go_wp2_with fail
          refine (rB w3).mono ?_
          rintro e w4 ⟨rfl, hb4⟩
          have b4 := chain b3 hb4
          clear rB b3 hb4
          have v1 := vA w4
          generalize grownCap w4 zA.length 0 21 = gc at *
          have q1 := rdu_new (W := w4.drew) (zs := zA) (cap := gc) 21
          have b5 : Below w4.heap.size w4 (w4.drew.alloc (.cells ((zA.map (Value.int .i32)).toArray ++ Array.replicate (gc - zA.length) (.int .i32 0)) 21)) := ((Below.refl _ _).drew).alloc (Nat.le_refl _) _
          generalize w4.drew.alloc (.cells ((zA.map (Value.int .i32)).toArray ++ Array.replicate (gc - zA.length) (.int .i32 0)) 21) = w5 at *
          have v2 := vB w5
          generalize grownCap w5 zB.length 0 21 = gd at *
          have q2 := rdu_new (W := w5.drew) (zs := zB) (cap := gd) 21
          have b6 : Below w5.heap.size w5 (w5.drew.alloc (.cells ((zB.map (Value.int .i32)).toArray ++ Array.replicate (gd - zB.length) (.int .i32 0)) 21)) := ((Below.refl _ _).drew).alloc (Nat.le_refl _) _
          generalize w5.drew.alloc (.cells ((zB.map (Value.int .i32)).toArray ++ Array.replicate (gd - zB.length) (.int .i32 0)) 21) = w6 at *
          have HQ : Hid _ := And.intro (And.intro (q1.below b6) q2) (chain (chain b4 b5) b6)
          clear q1 q2 b4 b5 b6 vA vB
          go_wp2_with fail
          go_ret3
          rw [HE.out]
          exact ⟨_, _, rfl, fun _ => HQ.out.1, HQ.out.2⟩
        · have HE : Hid (ptE a b = 91) := by show _ = _; rw [ptE, if_pos ⟨c1, c2⟩, if_neg (fun h => d2 h.2)]
          go_enter Tryd.func17, Tryd.ntmps17
          go_wp2_with fail
          refine (cA _ (Below.refl _ _)).mono ?_
          rintro e w1 ⟨rfl, hb1⟩
          have B1 := hb1
          go_wp2_with fail
          refine (cB _ B1).mono ?_
          rintro e w2 ⟨rfl, hb2⟩
          have B2 := chain B1 hb2
          go_wp2_with fail
          refine (rA _).mono ?_
          rintro e w3 ⟨rfl, hb3⟩
          have B3 := chain B2 hb3
          go_wp2_with fail
          refine (rB _).mono ?_
          rintro e w4 ⟨rfl, hb4⟩
          have B4 := chain B3 hb4
          go_wp2_with fail
          go_ret3
          rw [HE.out]
          exact ⟨_, _, rfl, (fun h => by cases h), B4⟩
      · have HE : Hid (ptE a b = 91) := by show _ = _; rw [ptE, if_pos ⟨c1, c2⟩, if_neg (fun h => d1 h.1)]
        go_enter Tryd.func17, Tryd.ntmps17
        go_wp2_with fail
        refine (cA _ (Below.refl _ _)).mono ?_
        rintro e w1 ⟨rfl, hb1⟩
        have B1 := hb1
        go_wp2_with fail
        refine (cB _ B1).mono ?_
        rintro e w2 ⟨rfl, hb2⟩
        have B2 := chain B1 hb2
        go_wp2_with fail
        refine (rA _).mono ?_
        rintro e w3 ⟨rfl, hb3⟩
        have B3 := chain B2 hb3
        go_wp2_with fail
        go_ret3
        rw [HE.out]
        exact ⟨_, _, rfl, (fun h => by cases h), B3⟩
    · rw [decide_eq_false c2] at cB
      have HE : Hid (ptE a b = 10) := by show _ = _; rw [ptE, if_neg (fun h => c2 h.2)]
      go_enter Tryd.func17, Tryd.ntmps17
      go_wp2_with fail
      refine (cA _ (Below.refl _ _)).mono ?_
      rintro e w1 ⟨rfl, hb1⟩
      have B1 := hb1
      go_wp2_with fail
      refine (cB _ B1).mono ?_
      rintro e w2 ⟨rfl, hb2⟩
      have B2 := chain B1 hb2
      go_wp2_with fail
      go_ret3
      rw [HE.out]
      exact ⟨_, _, rfl, (fun h => by cases h), B2⟩
  · rw [decide_eq_false c1] at cA
    have HE : Hid (ptE a b = 10) := by show _ = _; rw [ptE, if_neg (fun h => c1 h.1)]
    go_enter Tryd.func17, Tryd.ntmps17
    go_wp2_with fail
    refine (cA _ (Below.refl _ _)).mono ?_
    rintro e w1 ⟨rfl, hb1⟩
    have B1 := hb1
    go_wp2_with fail
    go_ret3
    rw [HE.out]
    exact ⟨_, _, rfl, (fun h => by cases h), B1⟩

-- The contract of Common.
set_option maxRecDepth 20000 in
set_option maxHeartbeats 1000000 in
theorem common_any (a b : ByteArray) (w : World) (hV : VS w) (ha : a.size ≤ 1125899906842624) (hb : b.size ≤ 1125899906842624) :
    Calls Tryd.prog 8 #[.string a, .string b] w fun e w' => e = .returned (.tuple #[.int .i64 (if ptE a b = 0 then (lc (pts a) (pts b) : Int) else 0), .int .i64 (ptE a b)]) ∧ Below w.heap.size w w' := by
  have cP := pointsOf_any a b w hV ha hb
  by_cases c : ptE a b = 0
  · obtain ⟨c1, c2, d1, d2⟩ := ptE_zero c
    have lA := pts_len c1
    have lB := pts_len c2
    have cT := fun W vA vB h1 h2 => tableOf_any (w := W) (vA := vA) (vT := vB) (A := pts a) (T := pts b) h1 h2 (by omega) (by omega)
    have mT : (pts b).length ≤ 1000 := by omega
    rw [if_pos c]
    rw [c] at cP ⊢
    clear c c1 c2 d1 d2 lA lB
    generalize pts a = A at *
    generalize pts b = T at *
    go_enter Tryd.func8, Tryd.ntmps8
    go_wp2_with fail
    refine cP.mono ?_
    rintro e w1 ⟨vA, vB, rfl, hr, hb1⟩
    obtain ⟨h1, h2⟩ := hr (by first | rfl | trivial)
    clear cP
    go_wp2_with fail
    refine (cT _ _ _ h1 h2).mono ?_
    rintro e w2 ⟨g, rfl, ⟨F, hF, hl⟩, hb2, hg⟩
    have q := hF.cell 0 (by omega)
    have e0 := hl 0 0 (Nat.zero_le _) (Nat.zero_le _)
    simp only [Nat.zero_mul, Nat.zero_add, List.drop_zero] at e0
    rw [e0] at q
    have hle := lc_le A T
    have HB : Hid (Below w.heap.size w w2) := chain hb1 hb2
    clear cT h1 h2 hr hF hl hg hb1 hb2 e0
    generalize hn : lc A T = n at q hle
    have HN : Hid (lc A T = n) := hn
    have hn1 : (n : Int) ≤ 1000 := by omega
    clear hn
    go_wp2_with fail
    go_ret2
    rw [HN.out]
    exact ⟨rfl, HB.out⟩
  · rw [if_neg c]
    have c' : (ptE a b != 0) = true := by simpa using c
    generalize ptE a b = x at *
    go_enter Tryd.func8, Tryd.ntmps8
    go_wp2_with fail
    refine cP.mono ?_
    rintro e w1 ⟨vA, vB, rfl, -, hb1⟩
    go_wp2_with fail
    go_ret2
    exact ⟨rfl, hb1⟩

/-- What Diff gives: the list and the error. -/
def diR (a b : ByteArray) : List OpD × Int := if ptE a b = 0 then (jn (stR ((alU (pts a) (pts b)).map uop)), chk ((alU (pts a) (pts b)).map uop)) else ([], ptE a b)
theorem uop_in (C : List U) : ∀ o ∈ C.map uop, o.In := by
  intro o ho
  obtain ⟨u, _, rfl⟩ := List.mem_map.1 ho
  cases u with
  | K => exact Nat.zero_le _
  | R => exact Nat.zero_le _
  | I z =>
    show (mk (ptB z.toNat)).size ≤ _
    rw [mk_size]
    have : (ptB z.toNat).length ≤ 4 := by
      unfold ptB
      repeat' split
      all_goals simp
    omega
theorem alU_len (a b : List Int) : (alU a b).length ≤ a.length + b.length := by
  induction a, b using alU.induct with
  | case1 => simp [alU]
  | case2 y b ih => rw [alU]; simp at ih ⊢; omega
  | case3 x a ih => rw [alU]; simp at ih ⊢; omega
  | case4 a x b ih => rw [alU_same]; simp; omega
  | case5 x a y b h c ih => rw [alU_gone h c]; simp at ih ⊢; omega
  | case6 x a y b h c ih => rw [alU_put h c]; simp at ih ⊢; omega

set_option maxRecDepth 20000 in
set_option maxHeartbeats 1000000 in
theorem diff_any (a b : ByteArray) (w : World) (hV : VS w) (ha : a.size ≤ 1125899906842624) (hb : b.size ≤ 1125899906842624) :
    Calls Tryd.prog 7 #[.string a, .string b] w fun e w' => ∃ u, e = .returned (.tuple #[u, .int .i64 (diR a b).2]) ∧ w'.ownsRow w.heap.size 60 3 u (diR a b).1.length (ocs (diR a b).1) ∧ Below w.heap.size w w' := by
  have cP := pointsOf_any a b w hV ha hb
  by_cases c : ptE a b = 0
  · obtain ⟨c1, c2, d1, d2⟩ := ptE_zero c
    have lA := pts_len c1
    have lB := pts_len c2
    have hp := pts_ok c2
    have cT := fun W vA vB h1 h2 => tableOf_any (w := W) (vA := vA) (vT := vB) (A := pts a) (T := pts b) h1 h2 (by omega) (by omega)
    have cL := fun W vA vB g h1 h2 h3 => along_any (w := W) (vA := vA) (vT := vB) (A := pts a) (T := pts b) (g := g) h1 h2 (by omega) (by omega) h3 hp
    have hl := alU_len (pts a) (pts b)
    have cN := fun v W h => normal_any v ((alU (pts a) (pts b)).map uop) W h (by rw [List.length_map]; unfold maxLen; omega) (uop_in _)
    have HD : Hid (diR a b = (jn (stR ((alU (pts a) (pts b)).map uop)), chk ((alU (pts a) (pts b)).map uop))) := by show _ = _; rw [diR, if_pos c]
    rw [c] at cP
    clear c c1 c2 d1 d2 lA lB hp hl
    have rO : ∀ (W : World) (B : Nat) (u : Value), W.ownsRow B 60 3 u (alU (pts a) (pts b)).length (ocs ((alU (pts a) (pts b)).map uop)) → RdD W u ((alU (pts a) (pts b)).map uop) := fun W B u h => by
      rw [← List.length_map (f := uop)] at h
      exact rdd_own h
    generalize (alU (pts a) (pts b)).map uop = L at *
    generalize alU (pts a) (pts b) = X at *
    generalize pts a = A at *
    generalize pts b = T at *
    go_enter Tryd.func7, Tryd.ntmps7
    go_wp2_with fail
    refine cP.mono ?_
    rintro e w1 ⟨vA, vB, rfl, hr, hb1⟩
    obtain ⟨h1, h2⟩ := hr (by first | rfl | trivial)
    clear cP hr
    go_wp2_with fail
    refine (cT _ _ _ h1 h2).mono ?_
    rintro e w2 ⟨g, rfl, hg, hb2, -⟩
    have h1 := h1.below hb2
    have h2 := h2.below hb2
    have b2 := chain hb1 hb2
    clear cT hb1 hb2
    go_wp2_with fail
    refine (cL _ _ _ _ h1 h2 hg).mono ?_
    rintro e w3 ⟨u3, rfl, ho3, hb3⟩
    have r3 := rO _ _ _ ho3
    have b3 := chain b2 hb3
    clear cL hb3 b2 ho3 hg h1 h2 rO
    go_wp2_with fail
    refine (cN _ _ r3).mono ?_
    rintro e w4 ⟨u4, rfl, ho4, hb4⟩
    have HB : Hid _ := And.intro (own_lower ho4 b3.size) (chain b3 hb4)
    clear cN r3 ho4 hb4 b3
    go_wp2_with fail
    go_ret2
    rw [HD.out]
    exact ⟨_, rfl, HB.out.1, HB.out.2⟩
  · have HD : Hid (diR a b = ([], ptE a b)) := by show _ = _; rw [diR, if_neg c]
    have c' : (ptE a b != 0) = true := by simpa using c
    generalize ptE a b = x at *
    go_enter Tryd.func7, Tryd.ntmps7
    go_wp2_with fail
    refine cP.mono ?_
    rintro e w1 ⟨vA, vB, rfl, -, hb1⟩
    go_wp2_with fail
    go_ret2
    rw [HD.out]
    exact ⟨_, rfl, World.ownsRow_nil _ _ _ _, hb1⟩
end Go.Proofs.YtfhbkaiioiihjaaDoor
