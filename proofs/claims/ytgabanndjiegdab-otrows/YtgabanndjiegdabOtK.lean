/-
  The contract of Compose.
-/
import Derived.Test.YtgabanndjiegdabOtJ
namespace Go.Proofs.Ytgabanndjiegdab
open Go.ChangeShapes Go.WideShapes Go.ChangeAt Go.RowKit Go.PlainAid

theorem kst_op {o : OpD} {s : St} (h : stOf o = some s) : s.op = o := by
  obtain ⟨k, n, t⟩ := o
  simp only [stOf] at h
  split at h
  · rename_i h1
    have ht := empty_eq h1.2.2
    subst ht
    split at h
    · rename_i hk
      cases h
      simp only [St.op, hk]
      congr 1; omega
    · split at h
      · rename_i hk
        cases h
        simp only [St.op, hk]
        congr 1; omega
      · cases h
  · split at h
    · rename_i h1
      cases h
      simp only [St.op, h1.1, h1.2.1]
    · cases h
theorem kstl_op : ∀ {ds : List OpD}, ds.any (fun o => (stOf o).isNone) = false → (stl ds).map St.op = ds
  | [], _ => rfl
  | o :: ds, h => by
    simp only [List.any_cons, Bool.or_eq_false_iff] at h
    cases hs : stOf o with
    | none => rw [hs] at h; simp at h
    | some s =>
      have e : stl (o :: ds) = s :: stl ds := by simp [stl, hs]
      rw [e, List.map_cons, kst_op hs, kstl_op h.2]
theorem kchk_any {ds : List OpD} (h : chk ds = 0) : ds.any (fun o => (stOf o).isNone) = false ∧ ds.length ≤ 3000 := by
  rw [chk] at h
  split at h
  · omega
  · split at h
    · omega
    · rename_i h1 h2
      exact ⟨by simpa using h2, by omega⟩
theorem kstR_op {ds : List OpD} (h : chk ds = 0) : (stR ds).map St.op = ds := by
  rw [chk_yes ds h]
  exact kstl_op (kchk_any h).1

theorem tgt_targ : ∀ (l : List U) (i : Nat), (mkU i l).length = tgtU l
  | [], _ => rfl
  | .K :: l, i => by rw [mkU, List.length_cons, tgt_targ l]; rfl
  | .R :: l, i => by rw [mkU, tgt_targ l]; rfl
  | .I z :: l, i => by rw [mkU, List.length_cons, tgt_targ l]; rfl
theorem tgt_uw (l : List St) : tgtU (uw l) = tsum l := by rw [← targ_uw, targU, tgt_targ]
theorem len_uw : ∀ l : List U, l.length ≤ baseU l + tgtU l
  | [] => by simp
  | .K :: l => by have := len_uw l; simp [baseU, tgtU]; omega
  | .R :: l => by have := len_uw l; simp [baseU, tgtU]; omega
  | .I z :: l => by have := len_uw l; simp [baseU, tgtU]; omega
theorem c_le {l : List St} {s : St} (h : s ∈ l) : s.c ≤ tsum l := by
  induction l with
  | nil => simp at h
  | cons a l ih =>
    have e : tsum (a :: l) = a.c + tsum l := by simp [tsum]
    rw [e]
    rcases List.mem_cons.1 h with rfl | h
    · omega
    · have := ih h; omega
theorem uop_in (u : U) : (uop u).In := by
  cases u with
  | K => show (⟨#[]⟩ : ByteArray).size ≤ _; exact Nat.zero_le _
  | R => show (⟨#[]⟩ : ByteArray).size ≤ _; exact Nat.zero_le _
  | I z =>
    have := (ptB_len z.toNat).2
    show (mk (ptB z.toNat)).size ≤ _
    rw [mk_size]
    omega
theorem cmp_len (a b : List U) : (cmp a b).length ≤ a.length + b.length := by
  induction a, b using cmp.induct <;> simp_all [cmp] <;> omega

/-- What composed is given and gives, as a word. -/
def cpW (A B : List OpD) : List U := cmp (uw (stR (jn (stR A)))) (uw (stR (jn (stR B))))
/-- What Compose gives. -/
def coR (A B : List OpD) : List OpD × Int :=
  if chk A = 0 then (if chk B = 0 then (if tsum (stR A) = bsum (stR B) then (jn (stR ((cpW A B).map uop)), chk ((cpW A B).map uop)) else ([], 91)) else ([], chk B)) else ([], chk A)

set_option maxRecDepth 20000 in
set_option maxHeartbeats 2000000 in
theorem compose_any (vA vB : Value) (A B : List OpD) (w : World) (hA : RdD w vA A) (hB : RdD w vB B) (mA : A.length ≤ maxLen) (mB : B.length ≤ maxLen) (iA : ∀ o ∈ A, o.In) (iB : ∀ o ∈ B, o.In) :
    Calls Try.prog 14 #[vA, vB] w fun e w' => ∃ u, e = .returned (.tuple #[u, .int .i64 (coR A B).2]) ∧ w'.ownsRow w.heap.size 35 3 u (coR A B).1.length (ocs (coR A B).1) ∧ Below w.heap.size w w' := by
  by_cases c : chk A = 0 ∧ chk B = 0
  · obtain ⟨c1, c2⟩ := c
    have hC := normals_ok vA vB A B w hA hB mA mB iA iB c1 c2
    have okA := stR_ok iA
    have okB := stR_ok iB
    have bdA := stR_bd A
    have bdB := stR_bd B
    obtain ⟨a1, a2, a3, a4, a5⟩ := normal_facts okA bdA.1 bdA.2
    obtain ⟨b1, b2, b3, b4, b5⟩ := normal_facts okB bdB.1 bdB.2
    have jA := jn_in okA bdA.1 bdA.2
    have jB := jn_in okB bdB.1 bdB.2
    have HA := kstR_op a1
    have HB := kstR_op b1
    have oA := stR_ok jA.2
    have oB := stR_ok jB.2
    have HCo : Hid (coR A B = if tsum (stR A) = bsum (stR B) then (jn (stR ((cpW A B).map uop)), chk ((cpW A B).map uop)) else ([], 91)) := by show _ = _; rw [coR, if_pos c1, if_pos c2]
    have HW : Hid (cpW A B = cmp (uw (stR (jn (stR A)))) (uw (stR (jn (stR B))))) := rfl
    generalize jn (stR A) = NA at *
    generalize jn (stR B) = NB at *
    clear a2 a3 b2 b3 c1 c2 hA hB mA mB iA iB okA okB
    go_enter Try.func14, Try.ntmps14
    go_wp2_with fail
    refine hC.mono ?_
    rintro e w1 ⟨uA, uB, rfl, hoA, hoB, hap, hb1⟩
    have hT := target_any uA NA w1 (rdd_own hoA) (by have := jA.1; unfold maxLen; omega) jA.2
    rw [a1, a5] at hT
    clear hC
    go_wp2_with fail
    refine hT.mono ?_
    rintro e w2 ⟨rfl, hb2⟩
    have hS := base_any uB NB w2 ((rdd_own hoB).below hb2) (by have := jB.1; unfold maxLen; omega) jB.2
    rw [b1, b4] at hS
    clear hT
    go_wp2_with fail
    refine hS.mono ?_
    rintro e w3 ⟨rfl, hb3⟩
    clear hS
    by_cases ct : tsum (stR A) = bsum (stR B)
    · have ct' : ((tsum (stR A) : Int) != (bsum (stR B) : Int)) = false := by simp [ct]
      have hs2 := hb2.size
      have hs3 := hb3.size
      have hK := composed_any uA uB (stR NA) (stR NB) w3 (by rw [HA]; exact ((rdd_own hoA).below hb2).below hb3) (by rw [HB]; exact ((rdd_own hoB).below hb2).below hb3)
        (fun g e => by have := (hoA.lt g e).2; omega) (fun g e => by have := (hoB.lt g e).2; omega) hap
        (fun s hs => ⟨oA s hs, by have := c_le hs; omega⟩) (fun s hs => ⟨oB s hs, by have := c_le hs; omega⟩)
        (by
          have l1 := len_uw (uw (stR NA))
          have l2 := len_uw (uw (stR NB))
          rw [base_uw, tgt_uw] at l1 l2
          omega)
        (by rw [tgt_uw, base_uw, a5, b4, ct])
      have hlen : (cmp (uw (stR NA)) (uw (stR NB))).length ≤ 4000 := by
        have l1 := len_uw (uw (stR NA))
        have l2 := len_uw (uw (stR NB))
        have l3 := cmp_len (uw (stR NA)) (uw (stR NB))
        rw [base_uw, tgt_uw] at l1 l2
        omega
      rw [← HW.out] at hK hlen
      have HCT : Hid (tsum (stR A) = bsum (stR B)) := ct
      clear ct HA HB a4 a5 b4 b5 a1 b1
      generalize cpW A B = C at *
      go_wp2_with fail
      refine hK.mono ?_
      rintro e w4 ⟨u4, rfl, ho4, hb4⟩
      have ho4' : w4.ownsRow w3.heap.size 35 3 u4 (C.map uop).length (ocs (C.map uop)) := by rw [List.length_map]; exact ho4
      have hN := normal_any u4 (C.map uop) w4 (rdd_own ho4') (by rw [List.length_map]; unfold maxLen; omega) (fun o ho => by obtain ⟨u, _, rfl⟩ := List.mem_map.1 ho; exact uop_in u)
      clear hK ho4
      go_wp2_with fail
      refine hN.mono ?_
      rintro e w5 ⟨u5, rfl, ho5, hb5⟩
      clear hN
      go_wp2_with fail
      go_ret2
      rw [HCo.out, if_pos HCT.out]
      have hs4 := hb4.size
      have hs1 := hb1.size
      exact ⟨_, rfl, own_lower ho5 (by omega), (((hb1.trans (hb2.mono hs1)).trans (hb3.mono (by omega))).trans (hb4.mono (by omega))).trans (hb5.mono (by omega))⟩
    · have ct' : ((tsum (stR A) : Int) != (bsum (stR B) : Int)) = true := by simp; omega
      go_wp2_with fail
      go_ret2
      rw [HCo.out, if_neg ct]
      exact ⟨_, rfl, World.ownsRow_nil _ _ _ _, (hb1.trans (hb2.mono hb1.size)).trans (hb3.mono (Nat.le_trans hb1.size hb2.size))⟩
  · have hC := normals_bad vA vB A B w hA hB mA mB iA iB c
    have hco : coR A B = ([], if chk A = 0 then chk B else chk A) := by
      rw [coR]
      by_cases h1 : chk A = 0
      · rw [if_pos h1, if_neg (fun h => c ⟨h1, h⟩), if_pos h1]
      · rw [if_neg h1, if_neg h1]
    have hne : ((if chk A = 0 then chk B else chk A) != 0) = true := by
      split
      · rename_i h1; simp; exact fun h => c ⟨h1, h⟩
      · rename_i h1; simpa using h1
    rw [hco]
    generalize (if chk A = 0 then chk B else chk A) = er at *
    clear hco
    go_enter Try.func14, Try.ntmps14
    go_wp2_with fail
    refine hC.mono ?_
    rintro e w1 ⟨rfl, hb1⟩
    go_wp2_with fail
    go_ret2
    exact ⟨_, rfl, World.ownsRow_nil _ _ _ _, hb1⟩
end Go.Proofs.Ytgabanndjiegdab
