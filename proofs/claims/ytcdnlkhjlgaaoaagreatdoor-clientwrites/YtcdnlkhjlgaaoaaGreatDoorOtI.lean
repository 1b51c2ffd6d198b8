/-
  The contract of composed.
-/
import Derived.Test.YtcdnlkhjlgaaoaaGreatDoorOtF
namespace Go.Proofs.YtcdnlkhjlgaaoaaGreatDoor
open Go.ChangeShapes Go.WideShapes Go.ChangeAt Go.RowKit Go.PlainAid

theorem cm_start {w w0 w1 w2 w3 w4 : World} {vA vB : Value} {pA qA pB qB : Nat} {LA LB LA' LB' : List U} {BA' BB' : List Nat} {X Y : OpD}
    (h1 : ItL w1 pA qA LA ([pA, qA] ++ vA.ownBlock.toList)) (h2 : ItL w2 pB qB LB ([pB, qB] ++ vB.ownBlock.toList)) (hw0 : w0 = w) (hp : w.heap.size ≤ pA ∧ w.heap.size ≤ qA ∧ w1.heap.size ≤ pB ∧ w1.heap.size ≤ qB)
    (hb1 : Below w.heap.size w w1) (hb2 : Below w1.heap.size w1 w2) (hbb : ∀ g, vB.ownBlock = some g → g < w.heap.size) (hap : ∀ g, vA.ownBlock = some g → vB.ownBlock ≠ some g)
    (h3 : ItL w3 pA qA LA' BA') (hB3 : ∀ g ∈ BA', g ∈ [pA, qA] ++ vA.ownBlock.toList ∨ w2.heap.size ≤ g) (ho3 : Only [pA, qA] w2 w3)
    (h4 : ItL w4 pB qB LB' BB') (hB4 : ∀ g ∈ BB', g ∈ [pB, qB] ++ vB.ownBlock.toList ∨ w3.heap.size ≤ g) (ho4 : Only [pB, qB] w3 w4) :
    Cm w ((w4.alloc (.cells X.cs 59)).alloc (.cells Y.cs 59)) w4.heap.size (w4.heap.size + 1) pA qA pB qB X Y LA' LB' (.slice none 0 0) [] BA' BB' := by
  subst hw0
  obtain ⟨hpa, hqa, hla⟩ := h1.in
  obtain ⟨hpb, hqb, hlb⟩ := h2.in
  obtain ⟨_, _, hl3⟩ := h3.in
  obtain ⟨_, _, hl4⟩ := h4.in
  have s1 := hb1.size
  have s2 := hb2.size
  have s3 := ho3.size
  have s4 := ho4.size
  have hpl := hla pA (by simp)
  have hql := hla qA (by simp)
  have hdj : ∀ g, g ∈ [pA, qA] ++ vA.ownBlock.toList → g ∉ [pB, qB] ++ vB.ownBlock.toList := fun g hg hm => by
    have hg1 := hla g hg
    simp only [List.cons_append, List.nil_append, List.mem_cons, Option.mem_toList] at hg hm
    rcases hm with rfl | rfl | hm
    · omega
    · omega
    · have := hbb g hm
      rcases hg with rfl | rfl | hg
      · omega
      · omega
      · exact hap g hg hm
  have hAB : ∀ g ∈ BA', g ∉ BB' := fun g ha hb => by
    have hlg := hl3 g ha
    rcases hB4 g hb with h | h
    · rcases hB3 g ha with h' | h'
      · exact hdj g h' h
      · have := hlb g h; omega
    · omega
  have hiA4 : ItL w4 pA qA LA' BA' := h3.only ho4 (fun g hg hm => by
    have hlg := hl3 g hg
    have hm' : g ∈ [pB, qB] ++ vB.ownBlock.toList := List.mem_append_left _ hm
    rcases hB3 g hg with h | h
    · exact hdj g h hm'
    · have := hlb g hm'; omega)
  have hO : ∀ S, Only S w4 ((w4.alloc (.cells X.cs 59)).alloc (.cells Y.cs 59)) := fun S => (Only.alloc _ _ _).trans (Only.alloc _ _ _)
  have e1 : ((w4.alloc (.cells X.cs 59)).alloc (.cells Y.cs 59)).heap[w4.heap.size + 1]? = some (.cells Y.cs 59) := by
    have := heap_alloc_new (w4.alloc (.cells X.cs 59)) (.cells Y.cs 59)
    rw [World.size_alloc] at this
    exact this
  have hl3' : ∀ g ∈ BA', g < w4.heap.size := fun g hg => by have := hl3 g hg; omega
  refine ⟨World.ownsRow_nil _ _ _ _, (Below.heap_alloc _ _ _ (by simp)).trans (heap_alloc_new w4 _), e1, hiA4.only (hO []) (by simp), h4.only (hO []) (by simp), hAB, ⟨fun h => by have := hl3' _ h; omega, fun h => by have := hl4 _ h; omega, fun h => by have := hl3' _ h; omega, fun h => by have := hl4 _ h; omega, by omega⟩, fun g e => (by cases e), ?_, ⟨hp.1, hp.2.1, by omega, by omega, by omega, by omega⟩⟩
  have b3 : Below w0.heap.size w2 w3 := ho3.below (by omega) (by simp; omega)
  have b4 : Below w0.heap.size w3 w4 := ho4.below (by omega) (by simp; omega)
  exact (((hb1.trans (hb2.mono s1)).trans b3).trans b4).trans ((hO []).below (by omega) (by simp))

/-- What the walk asks where an operation is stored in three cells. -/
theorem stf {W : World} {b : Nat} {o : OpD} (h : W.heap[b]? = some (.cells o.cs 59 (0, 0))) :
    W.frozen? ⟨b, 0, none⟩ = false ∧ W.cell? ⟨b, 0, none⟩ = some (.int .i64 o.k) ∧ (∀ k, (W.setCell ⟨b, 0, none⟩ k).frozen? ⟨b, 1, none⟩ = false) ∧ (∀ k, (W.setCell ⟨b, 0, none⟩ k).cell? ⟨b, 1, none⟩ = some (.int .i64 o.n)) ∧
    (∀ k n, ((W.setCell ⟨b, 0, none⟩ k).setCell ⟨b, 1, none⟩ n).frozen? ⟨b, 2, none⟩ = false) ∧ (∀ k n, ((W.setCell ⟨b, 0, none⟩ k).setCell ⟨b, 1, none⟩ n).cell? ⟨b, 2, none⟩ = some (.string o.t)) := by
  have h1 : ∀ k, (W.setCell ⟨b, 0, none⟩ k).heap[b]? = _ := fun k => heap_setCell h 0 k
  have h2 : ∀ k n, ((W.setCell ⟨b, 0, none⟩ k).setCell ⟨b, 1, none⟩ n).heap[b]? = _ := fun k n => heap_setCell (h1 k) 1 n
  exact ⟨frz h 0, cell_of_row _ _ 0 _ _ (0, 0) h, fun k => frz (h1 k) 1, fun k => cell_of_row _ _ 1 _ _ (0, 0) (h1 k), fun k n => frz (h2 k n) 2, fun k n => cell_of_row _ _ 2 _ _ (0, 0) (h2 k n)⟩
theorem stf2 {W : World} {b c : Nat} {o : OpD} (h : W.heap[c]? = some (.cells o.cs 59 (0, 0))) (hn : c ≠ b) :
    (∀ x y z, (((W.setCell ⟨b, 0, none⟩ x).setCell ⟨b, 1, none⟩ y).setCell ⟨b, 2, none⟩ z).frozen? ⟨c, 0, none⟩ = false) ∧ (∀ x y z, (((W.setCell ⟨b, 0, none⟩ x).setCell ⟨b, 1, none⟩ y).setCell ⟨b, 2, none⟩ z).cell? ⟨c, 0, none⟩ = some (.int .i64 o.k)) ∧
    (∀ x y z k, ((((W.setCell ⟨b, 0, none⟩ x).setCell ⟨b, 1, none⟩ y).setCell ⟨b, 2, none⟩ z).setCell ⟨c, 0, none⟩ k).frozen? ⟨c, 1, none⟩ = false) ∧ (∀ x y z k, ((((W.setCell ⟨b, 0, none⟩ x).setCell ⟨b, 1, none⟩ y).setCell ⟨b, 2, none⟩ z).setCell ⟨c, 0, none⟩ k).cell? ⟨c, 1, none⟩ = some (.int .i64 o.n)) ∧
    (∀ x y z k n, (((((W.setCell ⟨b, 0, none⟩ x).setCell ⟨b, 1, none⟩ y).setCell ⟨b, 2, none⟩ z).setCell ⟨c, 0, none⟩ k).setCell ⟨c, 1, none⟩ n).frozen? ⟨c, 2, none⟩ = false) ∧ (∀ x y z k n, (((((W.setCell ⟨b, 0, none⟩ x).setCell ⟨b, 1, none⟩ y).setCell ⟨b, 2, none⟩ z).setCell ⟨c, 0, none⟩ k).setCell ⟨c, 1, none⟩ n).cell? ⟨c, 2, none⟩ = some (.string o.t)) := by
  have hV : ∀ x y z, (((W.setCell ⟨b, 0, none⟩ x).setCell ⟨b, 1, none⟩ y).setCell ⟨b, 2, none⟩ z).heap[c]? = some (.cells o.cs 59 (0, 0)) := fun x y z =>
    only_heap h (((Only.setCell (S := [b]) W (by simp) x).trans (Only.setCell _ (by simp) y)).trans (Only.setCell _ (by simp) z)) (by simp; exact hn)
  exact ⟨fun x y z => (stf (hV x y z)).1, fun x y z => (stf (hV x y z)).2.1, fun x y z => (stf (hV x y z)).2.2.1, fun x y z => (stf (hV x y z)).2.2.2.1, fun x y z => (stf (hV x y z)).2.2.2.2.1, fun x y z => (stf (hV x y z)).2.2.2.2.2⟩
/-- Three stores are one. -/
theorem set3 {W : World} {b : Nat} {o : OpD} (h : W.heap[b]? = some (.cells o.cs 59 (0, 0))) (k n t : Value) : ((W.setCell ⟨b, 0, none⟩ k).setCell ⟨b, 1, none⟩ n).setCell ⟨b, 2, none⟩ t = W.setRow b #[k, n, t] := by
  have h1 : (W.setCell ⟨b, 0, none⟩ k).heap[b]? = _ := heap_setCell h 0 k
  have h2 : ((W.setCell ⟨b, 0, none⟩ k).setCell ⟨b, 1, none⟩ n).heap[b]? = _ := heap_setCell h1 1 n
  rw [setCell_eq_setRow _ b 2 _ 59 (0, 0) t h2, setCell_eq_setRow _ b 1 _ 59 (0, 0) n h1, setCell_eq_setRow W b 0 _ 59 (0, 0) k h, setRow_setRow, setRow_setRow]
  rfl


end Go.Proofs.YtcdnlkhjlgaaoaaGreatDoor

/-
  The contract of normals.
-/
namespace Go.Proofs.YtcdnlkhjlgaaoaaGreatDoor
open Go.ChangeShapes Go.WideShapes Go.ChangeAt Go.RowKit Go.PlainAid

set_option maxRecDepth 20000 in
set_option maxHeartbeats 1500000 in
/-- An error: nothing but the error of the first one that has one. -/
theorem normals_bad (vA vB : Value) (A B : List OpD) (w : World) (hA : RdD w vA A) (hB : RdD w vB B) (mA : A.length ≤ maxLen) (mB : B.length ≤ maxLen) (iA : ∀ o ∈ A, o.In) (iB : ∀ o ∈ B, o.In) (h : ¬ (chk A = 0 ∧ chk B = 0)) :
    Calls Tryz.prog 96 #[vA, vB] w fun e w' => e = .returned (.tuple #[.slice none 0 0, .slice none 0 0, .int .i64 (if chk A = 0 then chk B else chk A)]) ∧ Below w.heap.size w w' := by
  have hC := normal_any vA A w hA mA iA
  by_cases c : chk A = 0
  · have c2 : chk B ≠ 0 := fun h2 => h ⟨c, h2⟩
    have c2' : (chk B != 0) = true := by simpa using c2
    rw [if_pos c]
    rw [c] at hC
    clear h
    go_enter Tryz.func96, Tryz.ntmps96
    go_wp2_with fail
    refine hC.mono ?_
    rintro e w1 ⟨u1, rfl, ho1, hb1⟩
    have hD := normal_any vB B w1 (hB.below hb1) mB iB
    clear hC
    go_wp2_with fail
    refine hD.mono ?_
    rintro e w2 ⟨u2, rfl, ho2, hb2⟩
    go_wp2_with fail
    go_ret3
    exact ⟨rfl, hb1.trans (hb2.mono hb1.size)⟩
  · have c' : (chk A != 0) = true := by simpa using c
    rw [if_neg c]
    clear h
    go_enter Tryz.func96, Tryz.ntmps96
    go_wp2_with fail
    refine hC.mono ?_
    rintro e w1 ⟨u1, rfl, ho1, hb1⟩
    clear hC
    go_wp2_with fail
    go_ret3
    exact ⟨rfl, hb1⟩

set_option maxRecDepth 20000 in
set_option maxHeartbeats 1500000 in
theorem normals_ok (vA vB : Value) (A B : List OpD) (w : World) (hA : RdD w vA A) (hB : RdD w vB B) (mA : A.length ≤ maxLen) (mB : B.length ≤ maxLen) (iA : ∀ o ∈ A, o.In) (iB : ∀ o ∈ B, o.In) (h1 : chk A = 0) (h2 : chk B = 0) :
    Calls Tryz.prog 96 #[vA, vB] w fun e w' => ∃ uA uB, e = .returned (.tuple #[uA, uB, .int .i64 0]) ∧ w'.ownsRow w.heap.size 59 3 uA (jn (stR A)).length (ocs (jn (stR A))) ∧ w'.ownsRow w.heap.size 59 3 uB (jn (stR B)).length (ocs (jn (stR B))) ∧ (∀ g, uA.ownBlock = some g → uB.ownBlock ≠ some g) ∧ Below w.heap.size w w' := by
  have hC := normal_any vA A w hA mA iA
  rw [h1] at hC
  go_enter Tryz.func96, Tryz.ntmps96
  go_wp2_with fail
  refine hC.mono ?_
  rintro e w1 ⟨u1, rfl, ho1, hb1⟩
  have hD := normal_any vB B w1 (hB.below hb1) mB iB
  rw [h2] at hD
  clear hC
  go_wp2_with fail
  refine hD.mono ?_
  rintro e w2 ⟨u2, rfl, ho2, hb2⟩
  clear hD
  go_wp2_with fail
  go_ret3
  refine ⟨u1, u2, rfl, own_belowG ho1 hb2, own_lower ho2 hb1.size, fun g e1 e2 => ?_, hb1.trans (hb2.mono hb1.size)⟩
  have := (ho1.lt g e1).2
  have := (ho2.lt g e2).1
  omega
end Go.Proofs.YtcdnlkhjlgaaoaaGreatDoor

/-
  The contract of Compose.
-/
namespace Go.Proofs.YtcdnlkhjlgaaoaaGreatDoor
open Go.ChangeShapes Go.WideShapes Go.ChangeAt Go.RowKit Go.PlainAid

theorem kst_op {o : OpD} {s : St} (h : stOf o = some s) : s.op = o := by
  obtain ⟨k, n, t⟩ := o
  simp only [stOf] at h
  split at h
  · rename_i h1
    have ht := empty_eq h1.2.2
    subst ht
    split at h
    · rename_i hk
      cases h
      simp only [St.op, hk]
      congr 1; omega
    · split at h
      · rename_i hk
        cases h
        simp only [St.op, hk]
        congr 1; omega
      · cases h
  · split at h
    · rename_i h1
      cases h
      simp only [St.op, h1.1, h1.2.1]
    · cases h
theorem kstl_op : ∀ {ds : List OpD}, ds.any (fun o => (stOf o).isNone) = false → (stl ds).map St.op = ds
  | [], _ => rfl
  | o :: ds, h => by
    simp only [List.any_cons, Bool.or_eq_false_iff] at h
    cases hs : stOf o with
    | none => rw [hs] at h; simp at h
    | some s =>
      have e : stl (o :: ds) = s :: stl ds := by simp [stl, hs]
      rw [e, List.map_cons, kst_op hs, kstl_op h.2]
theorem kchk_any {ds : List OpD} (h : chk ds = 0) : ds.any (fun o => (stOf o).isNone) = false ∧ ds.length ≤ 3000 := by
  rw [chk] at h
  split at h
  · omega
  · split at h
    · omega
    · rename_i h1 h2
      exact ⟨by simpa using h2, by omega⟩
theorem kstR_op {ds : List OpD} (h : chk ds = 0) : (stR ds).map St.op = ds := by
  rw [chk_yes ds h]
  exact kstl_op (kchk_any h).1

theorem tgt_targ : ∀ (l : List U) (i : Nat), (mkU i l).length = tgtU l
  | [], _ => rfl
  | .K :: l, i => by rw [mkU, List.length_cons, tgt_targ l]; rfl
  | .R :: l, i => by rw [mkU, tgt_targ l]; rfl
  | .I z :: l, i => by rw [mkU, List.length_cons, tgt_targ l]; rfl
theorem tgt_uw (l : List St) : tgtU (uw l) = tsum l := by rw [← targ_uw, targU, tgt_targ]
theorem len_uw : ∀ l : List U, l.length ≤ baseU l + tgtU l
  | [] => by simp
  | .K :: l => by have := len_uw l; simp [baseU, tgtU]; omega
  | .R :: l => by have := len_uw l; simp [baseU, tgtU]; omega
  | .I z :: l => by have := len_uw l; simp [baseU, tgtU]; omega
theorem c_le {l : List St} {s : St} (h : s ∈ l) : s.c ≤ tsum l := by
  induction l with
  | nil => simp at h
  | cons a l ih =>
    have e : tsum (a :: l) = a.c + tsum l := by simp [tsum]
    rw [e]
    rcases List.mem_cons.1 h with rfl | h
    · omega
    · have := ih h; omega
theorem uop_in (u : U) : (uop u).In := by
  cases u with
  | K => show (⟨#[]⟩ : ByteArray).size ≤ _; exact Nat.zero_le _
  | R => show (⟨#[]⟩ : ByteArray).size ≤ _; exact Nat.zero_le _
  | I z =>
    have := (ptB_len z.toNat).2
    show (mk (ptB z.toNat)).size ≤ _
    rw [mk_size]
    omega
theorem cmp_len (a b : List U) : (cmp a b).length ≤ a.length + b.length := by
  induction a, b using cmp.induct <;> simp_all [cmp] <;> omega

/-- What composed is given and gives, as a word. -/
def cpW (A B : List OpD) : List U := cmp (uw (stR (jn (stR A)))) (uw (stR (jn (stR B))))
/-- What Compose gives. -/
def coR (A B : List OpD) : List OpD × Int :=
  if chk A = 0 then (if chk B = 0 then (if tsum (stR A) = bsum (stR B) then (jn (stR ((cpW A B).map uop)), chk ((cpW A B).map uop)) else ([], 91)) else ([], chk B)) else ([], chk A)

end Go.Proofs.YtcdnlkhjlgaaoaaGreatDoor
