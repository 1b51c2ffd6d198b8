/-
  The contract of Transform.
-/
import Derived.Test.YtcdnlkhjlgaaoaaGreatDoorOtW
import Derived.Test.YtcdnlkhjlgaaoaaGreatDoorOtI
namespace Go.Proofs.YtcdnlkhjlgaaoaaGreatDoor
open Go.ChangeShapes Go.WideShapes Go.ChangeAt Go.RowKit Go.PlainAid

/-- What transformed gives of two deltas. -/
def trW (first : Bool) (A B : List OpD) : List OpD := tfO first (spots (stR (jn (stR A))) ⟨#[]⟩) (spots (stR (jn (stR B))) ⟨#[]⟩)
/-- What Transform gives. -/
def trR (first : Bool) (A B : List OpD) : List OpD × Int :=
  if chk A = 0 then (if chk B = 0 then (if bsum (stR A) = bsum (stR B) then (jn (stR (trW first A B)), chk (trW first A B)) else ([], 91)) else ([], chk B)) else ([], chk A)

theorem tfO_in (first : Bool) : ∀ (SA SB : List Spot), (∀ s ∈ SA, PutOk s.put) → ∀ o ∈ tfO first SA SB, o.In
  | [], SB, _, o, ho => by simp [tfO] at ho
  | x :: SA, [], _, o, ho => by simp [tfO] at ho
  | x :: SA, y :: SB, h, o, ho => by
    have e : tfO first (x :: SA) (y :: SB) = outO first x y ++ tfO first SA SB := by simp [tfO]
    rw [e] at ho
    have hn : (⟨#[]⟩ : ByteArray).size ≤ 140737488355328 := Nat.zero_le _
    have hm : (mineO x).In := by have := (h x (by simp)).2; show x.put.size ≤ _; omega
    rcases List.mem_append.1 ho with ho | ho
    · unfold outO at ho
      rcases List.mem_append.1 ho with ho | ho
      · have := (List.mem_filter.1 ho).1
        cases first <;> simp at this <;> rcases this with rfl | rfl
        · exact hn
        · exact hm
        · exact hm
        · exact hn
      · split at ho
        · simp at ho; subst ho; exact hn
        · simp at ho
    · exact tfO_in first SA SB (fun s hs => h s (by simp [hs])) o ho

set_option maxRecDepth 20000 in
set_option maxHeartbeats 2000000 in
theorem transform_any (vA vB : Value) (first : Bool) (A B : List OpD) (w : World) (hA : RdD w vA A) (hB : RdD w vB B) (mA : A.length ≤ maxLen) (mB : B.length ≤ maxLen) (iA : ∀ o ∈ A, o.In) (iB : ∀ o ∈ B, o.In) :
    Calls Tryz.prog 84 #[vA, vB, .bool first] w fun e w' => ∃ u, e = .returned (.tuple #[u, .int .i64 (trR first A B).2]) ∧ w'.ownsRow w.heap.size 59 3 u (trR first A B).1.length (ocs (trR first A B).1) ∧ Below w.heap.size w w' := by
  by_cases c : chk A = 0 ∧ chk B = 0
  · obtain ⟨c1, c2⟩ := c
    have hC := normals_ok vA vB A B w hA hB mA mB iA iB c1 c2
    have okA := stR_ok iA
    have okB := stR_ok iB
    have bdA := stR_bd A
    have bdB := stR_bd B
    obtain ⟨a1, a2, a3, a4, a5⟩ := normal_facts okA bdA.1 bdA.2
    obtain ⟨b1, b2, b3, b4, b5⟩ := normal_facts okB bdB.1 bdB.2
    have jA := jn_in okA bdA.1 bdA.2
    have jB := jn_in okB bdB.1 bdB.2
    have HA := kstR_op a1
    have HB := kstR_op b1
    have oA := stR_ok jA.2
    have oB := stR_ok jB.2
    have nA := stR_len (jn (stR A))
    have nB := stR_len (jn (stR B))
    have HCo : Hid (trR first A B = if bsum (stR A) = bsum (stR B) then (jn (stR (trW first A B)), chk (trW first A B)) else ([], 91)) := by show _ = _; rw [trR, if_pos c1, if_pos c2]
    have HW : Hid (trW first A B = tfO first (spots (stR (jn (stR A))) ⟨#[]⟩) (spots (stR (jn (stR B))) ⟨#[]⟩)) := rfl
    generalize jn (stR A) = NA at *
    generalize jn (stR B) = NB at *
    clear a2 a3 b2 b3 c1 c2 hA hB mA mB iA iB okA okB
    go_enter Tryz.func84, Tryz.ntmps84
    go_wp2_with fail
    refine hC.mono ?_
    rintro e w1 ⟨uA, uB, rfl, hoA, hoB, hap, hb1⟩
    have hT := base_any uA NA w1 (rdd_own hoA) (by have := jA.1; unfold maxLen; omega) jA.2
    rw [a1, a4] at hT
    clear hC
    go_wp2_with fail
    refine hT.mono ?_
    rintro e w2 ⟨rfl, hb2⟩
    have hS := base_any uB NB w2 ((rdd_own hoB).below hb2) (by have := jB.1; unfold maxLen; omega) jB.2
    rw [b1, b4] at hS
    clear hT
    go_wp2_with fail
    refine hS.mono ?_
    rintro e w3 ⟨rfl, hb3⟩
    clear hS
    by_cases ct : bsum (stR A) = bsum (stR B)
    · have ct' : ((bsum (stR A) : Int) != (bsum (stR B) : Int)) = false := by simp [ct]
      have hs2 := hb2.size
      have hs3 := hb3.size
      have okA' : ∀ s ∈ stR NA, s.Ok ∧ s.c ≤ 1000 := fun s hs => ⟨oA s hs, by have := c_le hs; omega⟩
      have okB' : ∀ s ∈ stR NB, s.Ok ∧ s.c ≤ 1000 := fun s hs => ⟨oB s hs, by have := c_le hs; omega⟩
      have hK := transformed_any uA uB first (stR NA) (stR NB) w3 (by rw [HA]; exact ((rdd_own hoA).below hb2).below hb3) (by rw [HB]; exact ((rdd_own hoB).below hb2).below hb3)
        (fun g e => by have := (hoA.lt g e).2; omega) (fun g e => by have := (hoB.lt g e).2; omega) okA' okB' (by omega) (by omega) (by rw [a4, b4, ct]) (by omega)
      have hlen : (tfO first (spots (stR NA) ⟨#[]⟩) (spots (stR NB) ⟨#[]⟩)).length ≤ 4000 := by
        have := tfO_len first (spots (stR NA) ⟨#[]⟩) (spots (stR NB) ⟨#[]⟩)
        rw [spots_len] at this
        omega
      have hin : ∀ o ∈ tfO first (spots (stR NA) ⟨#[]⟩) (spots (stR NB) ⟨#[]⟩), o.In := tfO_in first _ _ (fun s hs => (spots_ok (stR NA) ⟨#[]⟩ putOk_nil okA' s hs).2)
      rw [← HW.out] at hK hlen hin
      have HCT : Hid (bsum (stR A) = bsum (stR B)) := ct
      clear ct HA HB a4 a5 b4 b5 a1 b1 HW
      generalize trW first A B = C at *
      go_wp2_with fail
      refine hK.mono ?_
      rintro e w4 ⟨u4, rfl, ho4, hb4⟩
      have hN := normal_any u4 C w4 (rdd_own ho4) (by unfold maxLen; omega) hin
      clear hK
      go_wp2_with fail
      refine hN.mono ?_
      rintro e w5 ⟨u5, rfl, ho5, hb5⟩
      clear hN
      go_wp2_with fail
      go_ret2
      rw [HCo.out, if_pos HCT.out]
      have hs4 := hb4.size
      have hs1 := hb1.size
      exact ⟨_, rfl, own_lower ho5 (by omega), (((hb1.trans (hb2.mono hs1)).trans (hb3.mono (by omega))).trans (hb4.mono (by omega))).trans (hb5.mono (by omega))⟩
    · have ct' : ((bsum (stR A) : Int) != (bsum (stR B) : Int)) = true := by simp; omega
      go_wp2_with fail
      go_ret2
      rw [HCo.out, if_neg ct]
      exact ⟨_, rfl, World.ownsRow_nil _ _ _ _, (hb1.trans (hb2.mono hb1.size)).trans (hb3.mono (Nat.le_trans hb1.size hb2.size))⟩
  · have hC := normals_bad vA vB A B w hA hB mA mB iA iB c
    have hco : trR first A B = ([], if chk A = 0 then chk B else chk A) := by
      rw [trR]
      by_cases h1 : chk A = 0
      · rw [if_pos h1, if_neg (fun h => c ⟨h1, h⟩), if_pos h1]
      · rw [if_neg h1, if_neg h1]
    have hne : ((if chk A = 0 then chk B else chk A) != 0) = true := by
      split
      · rename_i h1; simp; exact fun h => c ⟨h1, h⟩
      · rename_i h1; simpa using h1
    rw [hco]
    generalize (if chk A = 0 then chk B else chk A) = er at *
    clear hco
    go_enter Tryz.func84, Tryz.ntmps84
    go_wp2_with fail
    refine hC.mono ?_
    rintro e w1 ⟨rfl, hb1⟩
    go_wp2_with fail
    go_ret2
    exact ⟨_, rfl, World.ownsRow_nil _ _ _ _, hb1⟩
end Go.Proofs.YtcdnlkhjlgaaoaaGreatDoor
