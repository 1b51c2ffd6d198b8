/-
  Rows of bools; what covers what. No walk.
-/
import Derived.Test.YtdpkcmagegiadaaDgL
namespace Go.Proofs.Ytdpkcmagegiadaa
open Go.Maps Go.WideShapes Go.RowKit Go.ChangeShapes Go.ChangeAt Go.PlainAid

/-- A row of bools in a block. -/
def RowB (W : World) (g : Nat) (l : List Bool) : Prop := W.heap[g]? = some (.cells (l.map Value.bool).toArray 4 (0, 0))
theorem RowB.cell {W : World} {g : Nat} {l : List Bool} (h : RowB W g l) {i : Nat} (hi : i < l.length) : W.cell? ⟨g, i, none⟩ = some (.bool l[i]) := by
  unfold RowB at h
  simp [World.cell?, h, hi]
theorem RowB.frz {W : World} {g : Nat} {l : List Bool} (h : RowB W g l) (j : Nat) : W.frozen? ⟨g, j, none⟩ = false := by
  unfold RowB at h
  simp [World.frozen?, h]
theorem RowB.set {W : World} {g : Nat} {l : List Bool} (h : RowB W g l) (i : Nat) (x : Bool) : RowB (W.setCell ⟨g, i, none⟩ (.bool x)) g (l.set i x) := by
  unfold RowB at h ⊢
  simp [World.setCell, Array.getElem?_modify, h, List.map_set]
theorem RowB.below {W W' : World} {g : Nat} {l : List Bool} (h : RowB W g l) (hb : Below W.heap.size W W') : RowB W' g l := (hb.block _ (heap_lt h)).trans h
theorem RowB.only {W W' : World} {g : Nat} {l : List Bool} {S : List Nat} (h : RowB W g l) (ho : Only S W W') (hg : g ∉ S) : RowB W' g l := only_heap h ho hg
theorem RowB.ne {W : World} {g b j : Nat} {l : List Bool} {x : Int} (h : RowB W g l) (hc : W.cell? ⟨b, j, none⟩ = some (.int .i64 x)) : b ≠ g := by
  rintro rfl
  unfold RowB at h
  simp [World.cell?, h] at hc
theorem RdI.row {W W' : World} {v : Value} {l : List Int} {g : Nat} {B : List Bool} (h : RdI W v l) (hr : RowB W g B) (ho : Only [g] W W') : RdI W' v l := by
  obtain ⟨ao, cp, h1, h2⟩ := h
  refine ⟨ao, cp, h1, fun i o hi => ?_⟩
  obtain ⟨b, off, e1, e2, e3⟩ := h2 i o hi
  have hne := hr.ne e3
  exact ⟨b, off, e1, Nat.lt_of_lt_of_le e2 ho.size, only_cell ho e2 (by simp [hne]) e3⟩
theorem Try.infoBoo : (Try.prog.info? 4).map (fun i => (i.zero, i.size, i.bytes)) = some (some (.bool false), 1, 1) := by kernel_rfl
set_option maxRecDepth 20000 in
theorem make_boo (n : Nat) (hn : n ≤ 1001) (W : World) : (Instr.makeSlice 34 (.int .i64 (n : Int)) (.int .i64 (n : Int))).run Try.prog W = .ok (.slice (some ⟨W.heap.size, 0, none⟩) n n) (W.alloc (.cells (Array.replicate n (Value.bool false)) 4)) := by
  obtain ⟨i0, hi, hz0, hz1, hz2⟩ := info_parts Try.infoBoo
  have h := run_make (P := Try.prog) W 34 4 i0 (.bool false) Try.underlying34 hi hz0 .i64 .i64 (n : Int) (n : Int) (by omega) (by omega) (by rw [hz2]; omega) (by omega)
  rw [h, hz1]
  simp only [Int.toNat_natCast, Nat.mul_one]
  congr 3
  apply Array.ext'
  rw [show (Value.bool false).cells = #[.bool false] from rfl, toList_madeCells_one]
  simp
theorem RowB.made (W : World) (n : Nat) : RowB (W.alloc (.cells (Array.replicate n (Value.bool false)) 4)) W.heap.size (List.replicate n false) := by
  unfold RowB
  rw [show ((List.replicate n false).map Value.bool).toArray = Array.replicate n (Value.bool false) by simp]
  exact heap_alloc_new W _

/-- The first k of one list, the others of another one. -/
def mixB (A B : List Bool) (k : Nat) : List Bool := A.take k ++ B.drop k
theorem mixB_zero (A B : List Bool) : mixB A B 0 = B := by simp [mixB]
theorem mixB_all {A B : List Bool} (h : A.length = B.length) : mixB A B A.length = A := by
  unfold mixB
  rw [List.take_length, List.drop_eq_nil_of_le (by omega), List.append_nil]
theorem mixB_len {A B : List Bool} (h : A.length = B.length) (k : Nat) : (mixB A B k).length = B.length := by
  unfold mixB
  rw [List.length_append, List.length_take, List.length_drop]
  omega
theorem mixB_at {A B : List Bool} (h : A.length = B.length) {k : Nat} (hk : k < B.length) : (mixB A B k)[k]'(by rw [mixB_len h]; exact hk) = B[k] := by
  simp only [mixB]
  rw [List.getElem_append_right (by rw [List.length_take]; omega)]
  simp only [List.length_take, List.getElem_drop]
  congr 1
  omega
theorem mixB_set {A B : List Bool} (h : A.length = B.length) {k : Nat} (hk : k < A.length) : (mixB A B k).set k A[k] = mixB A B (k + 1) := by
  unfold mixB
  rw [List.set_append_right _ _ (by rw [List.length_take]; omega), List.length_take, Nat.min_eq_left (by omega), Nat.sub_self,
    List.drop_eq_getElem_cons (by omega), List.set_cons_zero, List.take_succ_eq_append_getElem hk, List.append_assoc]
  rfl

/-- What the first i of C cover of X. -/
def covB (L : List Lk) (C X : List Int) (i : Nat) : List Bool := X.map fun x => (C.take i).any fun c => (upR L c).1.contains x
theorem covB_len (L : List Lk) (C X : List Int) (i : Nat) : (covB L C X i).length = X.length := by simp [covB]
theorem covB_zero (L : List Lk) (C X : List Int) : covB L C X 0 = List.replicate X.length false := by
  simp [covB, List.map_const']
theorem any_take {C : List Int} {i : Nat} (hi : i < C.length) (p : Int → Bool) : (C.take (i + 1)).any p = ((C.take i).any p || p C[i]) := by
  rw [List.take_succ_eq_append_getElem hi, List.any_append]
  simp
theorem covB_succ (L : List Lk) (C X : List Int) {i k : Nat} (hi : i < C.length) (hk : k < X.length) : (covB L C X (i + 1))[k]'(by rw [covB_len]; exact hk) = ((covB L C X i)[k]'(by rw [covB_len]; exact hk) || (upR L C[i]).1.contains X[k]) := by
  simp only [covB, List.getElem_map]
  exact any_take hi _

theorem cov_mem {L : List Lk} {a b : Int} (h : (coR L a b).2 = 0) {c : Int} (hc : c ∈ (coR L a b).1) : (upR L a).1.contains c = true ∧ (upR L b).1.contains c = true ∧ c ∈ nums L := by
  obtain ⟨hg, ha, hb, e⟩ := co_zero h
  rw [e, mem_ris, com_iff hg ha hb] at hc
  refine ⟨?_, ?_, hc.1⟩
  · rw [List.contains_eq_mem, decide_eq_true_eq, mem_up hg ha]; exact hc.2.1.1
  · rw [List.contains_eq_mem, decide_eq_true_eq, mem_up hg hb]; exact hc.2.1.2
theorem co_nodup {L : List Lk} {a b : Int} (h : (coR L a b).2 = 0) : (coR L a b).1.Pairwise (· < ·) := by
  obtain ⟨hg, ha, hb, e⟩ := co_zero h
  rw [e]
  exact (nums_asc hg).filter _
theorem cov_apart {L : List Lk} {a b : Int} (h : (coR L a b).2 = 0) {c d : Int} (hc : c ∈ (coR L a b).1) (hd : d ∈ (coR L a b).1) (hne : c ≠ d) : (upR L c).1.contains d = false := by
  have hcn := (cov_mem h hc).2.2
  obtain ⟨hg, ha, hb, e⟩ := co_zero h
  rw [e, mem_ris, com_iff hg ha hb] at hc hd
  rw [Bool.eq_false_iff, Ne, List.contains_eq_mem, decide_eq_true_eq, mem_up hg hcn]
  intro hu
  obtain ⟨y, hy, hp⟩ := hu.last hne
  exact hd.2.2 y (hc.2.1.1.trans hy) (hc.2.1.2.trans hy) hp
theorem cov_all {L : List Lk} {a b : Int} (h : (coR L a b).2 = 0) {x : Int} (hx : (upR L a).1.contains x = true) (hy : (upR L b).1.contains x = true) : ((coR L a b).1.any fun c => (upR L c).1.contains x) = true := by
  obtain ⟨hg, ha, hb, e⟩ := co_zero h
  rw [List.contains_eq_mem, decide_eq_true_eq, mem_up hg ha] at hx
  rw [List.contains_eq_mem, decide_eq_true_eq, mem_up hg hb] at hy
  have hA := good_asc hg
  have key : ∀ (n : Nat) (z : Int), a - z ≤ n → Up L a z → Up L b z → Up L z x → ∃ c ∈ (coR L a b).1, Up L c x := by
    intro n
    induction n with
    | zero =>
      intro z hz h1 h2 h3
      refine ⟨z, ?_, h3⟩
      rw [e, mem_ris, com_iff hg ha hb]
      refine ⟨h1.mem hg ha, ⟨h1, h2⟩, ?_⟩
      rintro y hy1 _ ⟨k, hk, rfl, hp⟩
      have := hy1.le hA
      have := hA.dn k hk _ hp
      omega
    | succ n ih =>
      intro z hz h1 h2 h3
      by_cases hc : ∀ y, Up L a y → Up L b y → ¬ Pa L y z
      · refine ⟨z, ?_, h3⟩
        rw [e, mem_ris, com_iff hg ha hb]
        exact ⟨h1.mem hg ha, ⟨h1, h2⟩, hc⟩
      · obtain ⟨y, hy⟩ := Classical.not_forall.1 hc
        have hy1 : Up L a y := Classical.byContradiction fun hh => hy (fun q => absurd q hh)
        have hy2 : Up L b y := Classical.byContradiction fun hh => hy (fun _ q => absurd q hh)
        have hy3 : Pa L y z := Classical.byContradiction fun hh => hy (fun _ _ q => absurd q hh)
        have hlt : z < y := by obtain ⟨k, hk, rfl, hp⟩ := hy3; exact (hA.dn k hk _ hp).2.1
        exact ih y (by omega) hy1 hy2 ((Up.step (.refl y) hy3).trans h3)
  obtain ⟨c, hc, hu⟩ := key (a - x).toNat x (by omega) hx hy (.refl x)
  rw [List.any_eq_true]
  refine ⟨c, hc, ?_⟩
  rw [List.contains_eq_mem, decide_eq_true_eq, mem_up hg (cov_mem h hc).2.2]
  exact hu
theorem co_up {L : List Lk} {a b : Int} (h : (coR L a b).2 = 0) : (upR L a).2 = 0 ∧ (upR L b).2 = 0 := by
  obtain ⟨hg, ha, hb, _⟩ := co_zero h
  rw [up_ok hg ha, up_ok hg hb]
  exact ⟨rfl, rfl⟩
theorem co_bad {L : List Lk} {a b : Int} (h : (coR L a b).2 ≠ 0) : (coR L a b).1 = [] := by
  unfold coR at h ⊢
  split
  · rename_i hg
    rw [if_pos hg] at h
    split
    · rename_i hc
      rw [if_pos hc] at h
      exact absurd rfl h
    · rfl
  · rfl
end Go.Proofs.Ytdpkcmagegiadaa
