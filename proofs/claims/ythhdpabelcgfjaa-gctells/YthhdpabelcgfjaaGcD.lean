/-
  gc: the closure of Sweep, slices.IndexFunc and slices.DeleteFunc of commits.
-/
import Derived.Test.YthhdpabelcgfjaaGcC
import Derived.Laws.Tables
namespace Go.Proofs.Ythhdpabelcgfjaa
open Go.Maps Go.ChangeShapes Go.WideShapes Go.ChangeAt Go.RowKit Go.PlainAid

set_option maxRecDepth 20000 in
set_option maxHeartbeats 1000000 in
theorem sweep1_any (n c s : Int) (ap ad ae : Option Addr) (np kp nd kd ne ke : Nat) (mb bm : Nat) (M : List Int) (w : World) (hm : w.heap[mb]? = some (.cells #[.map (some bm)] 55)) (hk : MkZ w bm M) (hn : InI n) :
    Calls Try.prog 23 #[.agg #[.int .i64 n, .slice ap np kp, .slice ad nd kd, .slice ae ne ke, .int .i64 c, .int .i64 s], .pointer (some ⟨mb, 0, none⟩)] w fun e w' => e = .returned (.bool (!decide (n ∈ M))) ∧ Below w.heap.size w w' := by
  have hal := alloc_bR w (.cells #[.int .i64 n, .slice ap np kp, .slice ad nd kd, .slice ae ne ke, .int .i64 c, .int .i64 s] 40)
  have hl := (hk.below hal).look hn
  obtain ⟨x0, -⟩ := cell1 ((hal.block _ (heap_lt hm)).trans hm)
  have hal2 := alloc_bR (w.alloc (.cells #[.int .i64 n, .slice ap np kp, .slice ad nd kd, .slice ae ne ke, .int .i64 c, .int .i64 s] 40)) (.cells #[] 56)
  have hb := hal.trans (hal2.mono hal.size)
  clear hk hm hal hal2
  generalize decide (n ∈ M) = r at *
  go_enter Try.func23, Try.ntmps23
  go_wp2_with fail
  go_ret
  exact ⟨rfl, hb⟩

/-! ### Rows of commits with the values of their rows -/

abbrev ZC := CoD × (Value × Value × Value)
def zc (Z : List ZC) : List Value := ccs (Z.map (·.1)) (Z.map (·.2))
def Own3 (W : World) (B : Nat) (z : ZC) : Prop := W.ownsRow B 3 1 z.2.1 z.1.ps.length (ivs z.1.ps) ∧ W.ownsRow B 67 3 z.2.2.1 z.1.d.length (ocs z.1.d) ∧ W.ownsRow B 67 3 z.2.2.2 z.1.o.length (ocs z.1.o)
structure OwZ (W : World) (B : Nat) (v : Value) (Z : List ZC) : Prop where
  row : W.ownsRow B 40 6 v Z.length (zc Z)
  inn : ∀ z ∈ Z, Own3 W B z
theorem Own3.rk {W W' : World} {B : Nat} {z : ZC} {t0 : TypeId} (h : Own3 W B z) (hk : Rk W W' t0) (h1 : 3 ≠ t0) (h2 : 67 ≠ t0) : Own3 W' B z := ⟨hk _ _ _ _ _ _ h1 h.1, hk _ _ _ _ _ _ h2 h.2.1, hk _ _ _ _ _ _ h2 h.2.2⟩
theorem zip_co {W : World} {B : Nat} {v : Value} {l : List CoD} {us : List (Value × Value × Value)} (h : OwCo W B v l us) : OwZ W B v (l.zip us) ∧ (l.zip us).map (·.1) = l ∧ (l.zip us).map (·.2) = us := by
  have h1 : (l.zip us).map (·.1) = l := List.map_fst_zip (by rw [h.ul]; exact Nat.le_refl _)
  have h2 : (l.zip us).map (·.2) = us := List.map_snd_zip (by rw [h.ul]; exact Nat.le_refl _)
  have hl : (l.zip us).length = l.length := by rw [List.length_zip, h.ul, Nat.min_self]
  refine ⟨⟨by unfold zc; rw [h1, h2, hl]; exact h.row, fun z hz => ?_⟩, h1, h2⟩
  obtain ⟨i, hi, rfl⟩ := List.mem_iff_getElem.1 hz
  have hi1 : i < l.length := by omega
  have hi2 : i < us.length := by rw [h.ul]; exact hi1
  rw [List.getElem_zip]
  exact h.inn i l[i] us[i] (by simp [hi1]) (by simp [hi2])
theorem OwZ.co {W : World} {B : Nat} {v : Value} {Z : List ZC} (h : OwZ W B v Z) : OwCo W B v (Z.map (·.1)) (Z.map (·.2)) := by
  refine ⟨by simp, by rw [List.length_map]; exact h.row, fun i x u hi hu => ?_⟩
  rw [List.getElem?_map] at hi hu
  cases hz : Z[i]? with
  | none => rw [hz] at hi; cases hi
  | some z =>
    rw [hz] at hi hu
    simp at hi hu
    subst hi
    subst hu
    exact h.inn z (List.mem_of_getElem? hz)
theorem OwZ.below {W W' : World} {B : Nat} {v : Value} {Z : List ZC} (h : OwZ W B v Z) (hb : Below W.heap.size W W') : OwZ W' B v Z := ⟨own_belowG h.row hb, fun z hz => (h.inn z hz).rk (rk_below hb 26) (by decide) (by decide)⟩
/-- The cells of a place. -/
theorem zc_at {Z : List ZC} {i : Nat} {z : ZC} (h : Z[i]? = some z) : (zc Z)[i * 6]? = some (.int .i64 z.1.n) ∧ (zc Z)[i * 6 + 1]? = some z.2.1 ∧ (zc Z)[i * 6 + 2]? = some z.2.2.1 ∧ (zc Z)[i * 6 + 3]? = some z.2.2.2 ∧ (zc Z)[i * 6 + 4]? = some (.int .i64 z.1.c) ∧ (zc Z)[i * 6 + 5]? = some (.int .i64 z.1.s) := by
  obtain ⟨u, hu, q⟩ := ccs_at (Z.map (·.1)) (Z.map (·.2)) i z.1 (by simp) (by simp [h])
  simp [h] at hu
  subst hu
  exact q
theorem OwZ.cells {W : World} {B g cp n : Nat} {Z : List ZC} (h : OwZ W B (.slice (some ⟨g, 0, none⟩) n cp) Z) {i : Nat} {z : ZC} (hi : Z[i]? = some z) : W.cell? ⟨g, i * 6, none⟩ = some (.int .i64 z.1.n) ∧ W.cell? ⟨g, i * 6 + 1, none⟩ = some z.2.1 ∧ W.cell? ⟨g, i * 6 + 2, none⟩ = some z.2.2.1 ∧ W.cell? ⟨g, i * 6 + 3, none⟩ = some z.2.2.2 ∧ W.cell? ⟨g, i * 6 + 4, none⟩ = some (.int .i64 z.1.c) ∧ W.cell? ⟨g, i * 6 + 5, none⟩ = some (.int .i64 z.1.s) := by
  obtain ⟨q0, q1, q2, q3, q4, q5⟩ := zc_at hi
  have hn : n = Z.length := by
    rcases h.row.2 with ⟨e, -⟩ | ⟨_, _, _, e, -⟩
    · cases e
    · simp only [Value.slice.injEq] at e
      omega
  subst hn
  have q := h.row.cells (g := g) rfl
  have hadd : ∀ j, (⟨g, 0, none⟩ : Addr).add j = ⟨g, j, none⟩ := fun j => by rw [adK, Nat.zero_add]
  simp only [hadd] at q
  exact ⟨q _ _ q0, q _ _ q1, q _ _ q2, q _ _ q3, q _ _ q4, q _ _ q5⟩
/-- The forms of a place's values. -/
theorem Own3.forms {W : World} {B : Nat} {z : ZC} (h : Own3 W B z) : (∃ a k, z.2.1 = .slice a z.1.ps.length k) ∧ (∃ a k, z.2.2.1 = .slice a z.1.d.length k) ∧ (∃ a k, z.2.2.2 = .slice a z.1.o.length k) := ⟨own_form h.1, own_form h.2.1, own_form h.2.2⟩
/-- A place is written to. -/
theorem ccs_put : ∀ (l : List CoD) (us : List (Value × Value × Value)) (k : Nat) (x : CoD) (u : Value × Value × Value), us.length = l.length → k < l.length → ((((((ccs l us).set (k * 6) (.int .i64 x.n)).set (k * 6 + 1) u.1).set (k * 6 + 2) u.2.1).set (k * 6 + 3) u.2.2).set (k * 6 + 4) (.int .i64 x.c)).set (k * 6 + 5) (.int .i64 x.s) = ccs (l.set k x) (us.set k u)
  | [], _, _, _, _, _, h => by simp at h
  | _ :: _, [], _, _, _, h, _ => by simp at h
  | y :: l, v :: us, 0, x, u, _, _ => by simp [ccs]
  | y :: l, v :: us, k + 1, x, u, h, hk => by
    have := ccs_put l us k x u (by simpa using h) (by simpa using hk)
    have e : ∀ j, (k + 1) * 6 + j = k * 6 + j + 1 + 1 + 1 + 1 + 1 + 1 := fun j => by omega
    rw [show (k + 1) * 6 = k * 6 + 1 + 1 + 1 + 1 + 1 + 1 by omega]
    rw [show k * 6 + 1 + 1 + 1 + 1 + 1 + 1 + 1 = (k * 6 + 1) + 1 + 1 + 1 + 1 + 1 + 1 by omega, show k * 6 + 1 + 1 + 1 + 1 + 1 + 1 + 2 = (k * 6 + 2) + 1 + 1 + 1 + 1 + 1 + 1 by omega, show k * 6 + 1 + 1 + 1 + 1 + 1 + 1 + 3 = (k * 6 + 3) + 1 + 1 + 1 + 1 + 1 + 1 by omega, show k * 6 + 1 + 1 + 1 + 1 + 1 + 1 + 4 = (k * 6 + 4) + 1 + 1 + 1 + 1 + 1 + 1 by omega, show k * 6 + 1 + 1 + 1 + 1 + 1 + 1 + 5 = (k * 6 + 5) + 1 + 1 + 1 + 1 + 1 + 1 by omega]
    simpa [ccs] using this
theorem OwZ.put {W : World} {B g cp : Nat} {Z : List ZC} {n : Nat} (h : OwZ W B (.slice (some ⟨g, 0, none⟩) n cp) Z) {k : Nat} (hk : k < Z.length) {z : ZC} (hz : z ∈ Z) :
    OwZ ((((((W.setCell ⟨g, k * 6, none⟩ (.int .i64 z.1.n)).setCell ⟨g, k * 6 + 1, none⟩ z.2.1).setCell ⟨g, k * 6 + 2, none⟩ z.2.2.1).setCell ⟨g, k * 6 + 3, none⟩ z.2.2.2).setCell ⟨g, k * 6 + 4, none⟩ (.int .i64 z.1.c)).setCell ⟨g, k * 6 + 5, none⟩ (.int .i64 z.1.s)) B (.slice (some ⟨g, 0, none⟩) n cp) (Z.set k z) ∧
    W.grownBy ((((((W.setCell ⟨g, k * 6, none⟩ (.int .i64 z.1.n)).setCell ⟨g, k * 6 + 1, none⟩ z.2.1).setCell ⟨g, k * 6 + 2, none⟩ z.2.2.1).setCell ⟨g, k * 6 + 3, none⟩ z.2.2.2).setCell ⟨g, k * 6 + 4, none⟩ (.int .i64 z.1.c)).setCell ⟨g, k * 6 + 5, none⟩ (.int .i64 z.1.s)) (some g) := by
  have hn : n = Z.length := by
    rcases h.row.2 with ⟨e, -⟩ | ⟨_, _, _, e, -⟩
    · cases e
    · simp only [Value.slice.injEq] at e
      omega
  subst hn
  obtain ⟨s0, g0⟩ := h.row.stored (k * 6) (.int .i64 z.1.n)
  obtain ⟨s1, g1⟩ := s0.stored (k * 6 + 1) z.2.1
  obtain ⟨s2, g2⟩ := s1.stored (k * 6 + 2) z.2.2.1
  obtain ⟨s3, g3⟩ := s2.stored (k * 6 + 3) z.2.2.2
  obtain ⟨s4, g4⟩ := s3.stored (k * 6 + 4) (.int .i64 z.1.c)
  obtain ⟨s5, g5⟩ := s4.stored (k * 6 + 5) (.int .i64 z.1.s)
  have hg := gb_transT (gb_transT (gb_transT (gb_transT (gb_transT g0 g1) g2) g3) g4) g5
  have hr := rk_own h.row (W' := ((((((W.setCell ⟨g, k * 6, none⟩ (.int .i64 z.1.n)).setCell ⟨g, k * 6 + 1, none⟩ z.2.1).setCell ⟨g, k * 6 + 2, none⟩ z.2.2.1).setCell ⟨g, k * 6 + 3, none⟩ z.2.2.2).setCell ⟨g, k * 6 + 4, none⟩ (.int .i64 z.1.c)).setCell ⟨g, k * 6 + 5, none⟩ (.int .i64 z.1.s))) hg
  refine ⟨⟨?_, fun y hy => ?_⟩, hg⟩
  · have e : zc (Z.set k z) = ccs ((Z.map (·.1)).set k z.1) ((Z.map (·.2)).set k z.2) := by unfold zc; rw [List.map_set, List.map_set]
    rw [List.length_set, e, ← ccs_put (Z.map (·.1)) (Z.map (·.2)) k z.1 z.2 (by simp) (by simpa using hk)]
    exact s5
  · rcases List.mem_or_eq_of_mem_set hy with hy | rfl
    · exact (h.inn y hy).rk hr (by decide) (by decide)
    · exact (h.inn _ hz).rk hr (by decide) (by decide)

/-! ### slices.IndexFunc, slices.DeleteFunc -/

def inM (M : List Int) (z : ZC) : Bool := decide (z.1.n ∈ M)
def AllM (M : List Int) (Z : List ZC) : Prop := ∀ z ∈ Z, inM M z = true
def NoM (M : List Int) (Z : List ZC) (k : Nat) : Prop := ∃ z, Z[k]? = some z ∧ inM M z = false
set_option maxRecDepth 20000 in
set_option maxHeartbeats 2000000 in
theorem indexFunc_any (v : Value) (Z : List ZC) (B mb bm : Nat) (M : List Int) (w : World) (h : OwZ w B v Z) (hl : Z.length * 96 ≤ 140737488355328) (hm : w.heap[mb]? = some (.cells #[.map (some bm)] 55)) (hk : MkZ w bm M) (hn : ∀ z ∈ Z, InI z.1.n) :
    Calls Try.prog 44 #[v, .func (.func 23) #[] #[.pointer (some ⟨mb, 0, none⟩)]] w fun e w' => ∃ i : Int, e = .returned (.int .i64 i) ∧ Below w.heap.size w w' ∧
      ((i = -1 ∧ AllM M Z) ∨ ∃ k : Nat, i = (k : Int) ∧ AllM M (Z.take k) ∧ NoM M Z k) := by
  obtain ⟨ao, cp, rfl⟩ := own_form h.row
  go_enter Try.func44, Try.ntmps44
  go_wp2_with fail
  go_loopw [8] (fun i wr => ∃ k : Nat, k ≤ Z.length ∧ i = .int .i64 (k : Int) ∧ Below w.heap.size w wr ∧ Hid (AllM M (Z.take k))) (fun i _ => Z.length - (Go.RowKit.intOf i).toNat)
  case atStart => exact ⟨0, by omega, rfl, Below.refl _ _, by show AllM M (Z.take 0); intro z hz; simp at hz⟩
  case round =>
    obtain ⟨k, hk2, rfl, hb, HT⟩ := hrel
    by_cases hlt : k < Z.length
    · have hlt' : (k : Int) < (Z.length : Int) := by omega
      have hw := h.below hb
      obtain ⟨g, rfl, hgB, hgl, hgf⟩ := own_block hw.row (by omega)
      have hzk : Z[k]? = some Z[k] := by simp [hlt]
      have hzm := List.getElem_mem hlt
      obtain ⟨c0, c1, c2, c3, c4, c5⟩ := hw.cells hzk
      obtain ⟨⟨ap, kp, e1⟩, ⟨ad, kd, e2⟩, ⟨ae, ke, e3⟩⟩ := (hw.inn _ hzm).forms
      rw [e1] at c1
      rw [e2] at c2
      rw [e3] at c3
      have cS := sweep1_any Z[k].1.n Z[k].1.c Z[k].1.s ap ad ae Z[k].1.ps.length kp Z[k].1.d.length kd Z[k].1.o.length ke mb bm M wr ((hb.block _ (heap_lt hm)).trans hm) (hk.below hb) (hn _ hzm)
      have eM : inM M Z[k] = decide (Z[k].1.n ∈ M) := rfl
      rw [← eM] at cS
      have eT : Z.take (k + 1) = Z.take k ++ [Z[k]] := List.take_succ_eq_append_getElem hlt
      obtain ⟨HT2⟩ : Nonempty (Hid (Z.take (k + 1) = Z.take k ++ [Z[k]])) := ⟨eT⟩
      obtain ⟨HZ⟩ : Nonempty (Hid (Z[k]? = some Z[k])) := ⟨hzk⟩
      clear eT hzk hzm e1 e2 e3 eM hw h hk hm hn hgf
      generalize Z[k] = z at *
      go_wp2_with fail
      refine cS.mono ?_
      rintro e w2 ⟨rfl, hb2⟩
      have hb3 := hb.trans (hb2.mono hb.size)
      clear c0 c1 c2 c3 c4 c5 cS
      cases hi : inM M z with
      | true =>
        have HN : Hid (AllM M (Z.take (k + 1))) := by
          show AllM M (Z.take (k + 1))
          intro y hy
          rw [HT2.out] at hy
          rcases List.mem_append.1 hy with hy | hy
          · exact HT.out y hy
          · simp at hy; subst hy; exact hi
        clear hi HT HT2 HZ
        go_wp2_with fail
        exact ⟨⟨k + 1, by omega, by go_num, hb3, HN⟩, by simp [Go.RowKit.intOf]; omega⟩
      | false =>
        obtain ⟨HI⟩ : Nonempty (Hid (inM M z = false)) := ⟨hi⟩
        clear hi
        go_wp2_with fail
        go_ret
        exact ⟨_, rfl, hb3, .inr ⟨k, rfl, HT.out, z, HZ.out, HI.out⟩⟩
    · have hlt' : ¬ (k : Int) < (Z.length : Int) := by omega
      have hkl : Z.length ≤ k := by omega
      clear h hk hm hn
      go_wp2_with fail
      go_ret
      exact ⟨_, rfl, hb, .inl ⟨rfl, fun z hz => HT.out z (by rw [List.take_of_length_le hkl]; exact hz)⟩⟩
theorem zeros_one (m : Nat) : ∀ u ∈ (Builtin.zeroCells #[Value.int .i64 0, .slice none 0 0, .slice none 0 0, .slice none 0 0, .int .i64 0, .int .i64 0] m).toList, u.oneCell' = true := by
  intro u hu
  unfold Builtin.zeroCells at hu
  simp only [Array.toList_map, List.mem_map] at hu
  obtain ⟨i, -, rfl⟩ := hu
  have h6 : i % 6 < 6 := Nat.mod_lt _ (by decide)
  show (#[Value.int .i64 0, .slice none 0 0, .slice none 0 0, .slice none 0 0, .int .i64 0, .int .i64 0][i % 6]!).oneCell' = true
  generalize i % 6 = j at *
  match j, h6 with
  | 0, _ => rfl
  | 1, _ => rfl
  | 2, _ => rfl
  | 3, _ => rfl
  | 4, _ => rfl
  | 5, _ => rfl
theorem clear_co (g o m c : Nat) (w : World) (cur : Array Value) (hg : w.heap[g]? = some (.cells cur 40 (0, 0))) (hf : o + (m + 1) * 6 ≤ cur.size) :
    ∃ C : Array Value, (∀ ty, (Builtin.clear_ #[22] ty #[.slice (some ⟨g, o, none⟩) (m + 1) c]).run Try.prog w = .ok (.tuple #[]) (w.setRow g C)) ∧ C.size = cur.size ∧ C.toList.take o = cur.toList.take o := by
  have hlen : (Builtin.zeroCells #[Value.int .i64 0, .slice none 0 0, .slice none 0 0, .slice none 0 0, .int .i64 0, .int .i64 0] (m + 1)).toList.length = (m + 1) * 6 := by simp [Builtin.zeroCells]
  have hst := run_storeCells_at Try.prog g o 40 (Builtin.zeroCells #[Value.int .i64 0, .slice none 0 0, .slice none 0 0, .slice none 0 0, .int .i64 0, .int .i64 0] (m + 1)).toList 0 cur w hg (by rw [hlen]; omega) (zeros_one _)
  simp only [Nat.add_zero] at hst
  obtain ⟨xs, hxs⟩ : ∃ xs, xs = (Builtin.zeroCells #[Value.int .i64 0, .slice none 0 0, .slice none 0 0, .slice none 0 0, .int .i64 0, .int .i64 0] (m + 1)).toList := ⟨_, rfl⟩
  rw [← hxs] at hst hlen
  have hl : cur.toList.length = cur.size := Array.length_toList
  refine ⟨(cur.toList.take o ++ xs ++ cur.toList.drop (o + xs.length)).toArray, fun ty => ?_, ?_, ?_⟩
  · simp [Builtin.clear_, run_underlying Try.underlying22, Value.cells, Result.andThen, ← hxs, hst]
  · simp only [List.size_toArray, List.length_append, List.length_take, List.length_drop, hl, hlen]
    omega
  · show List.take _ (_ ++ _ ++ _) = _
    rw [List.append_assoc, List.take_append_of_le_length (by rw [List.length_take, hl]; omega), List.take_take, Nat.min_self]
theorem ccs_take : ∀ (l : List CoD) (us : List (Value × Value × Value)) (i : Nat), us.length = l.length → ccs (l.take i) (us.take i) = (ccs l us).take (i * 6)
  | [], us, i, h => by simp [ccs]
  | _ :: _, [], _, h => by simp at h
  | y :: l, v :: us, 0, h => by simp [ccs]
  | y :: l, v :: us, i + 1, h => by
    have := ccs_take l us i (by simpa using h)
    rw [show (i + 1) * 6 = i * 6 + 1 + 1 + 1 + 1 + 1 + 1 by omega]
    simpa [ccs] using this
theorem zc_take (Z : List ZC) (i : Nat) : zc (Z.take i) = (zc Z).take (i * 6) := by
  unfold zc
  rw [List.map_take, List.map_take]
  exact ccs_take _ _ _ (by simp)
theorem zc_len (Z : List ZC) : (zc Z).length = Z.length * 6 := by
  unfold zc
  rw [ccs_len _ _ (by simp), List.length_map]
theorem own_fz {W : World} {B z g n m cp : Nat} {e : TypeId} {xs : List Value} (h : W.ownsRow B e z (.slice (some ⟨g, 0, none⟩) n cp) m xs) (o : Nat) : W.frozen? ⟨g, o, none⟩ = false := by
  rcases h.2 with ⟨e0, -⟩ | ⟨g', cap, cur, e0, -, hg, -⟩
  · cases e0
  · simp only [Value.slice.injEq, Option.some.injEq, Addr.mk.injEq, and_true] at e0
    obtain ⟨rfl, -⟩ := e0
    exact frz hg o
/-- Where slices.DeleteFunc is. -/
structure DF (w : World) (B g cp mb bm : Nat) (M : List Int) (Z C : List ZC) (i j : Nat) (W : World) : Prop where
  ow : OwZ W B (.slice (some ⟨g, 0, none⟩) Z.length cp) C
  cl : C.length = Z.length
  ij : i < j
  tk : C.take i = (Z.take j).filter (inM M)
  dr : C.drop j = Z.drop j
  gb : w.grownBy W (some g)
  bx : W.heap[mb]? = some (.cells #[.map (some bm)] 55)
  ms : MkZ W bm M
theorem setRow_gb (w : World) (g : Nat) (C : Array Value) : w.grownBy (w.setRow g C) (some g) := ⟨rfl, rfl, rfl, by simp, fun j _ hj => setRow_other w g j C (fun e => hj (by rw [e]))⟩
/-- The row's rest is cleared, and it is shorter. -/
theorem DF.done {w W : World} {B g cp mb bm i j : Nat} {M : List Int} {Z C : List ZC} (h : DF w B g cp mb bm M Z C i j W) (hj : j = Z.length) :
    ∃ D : Array Value, (∀ ty, (Builtin.clear_ #[22] ty #[.slice (some ⟨g, i * 6, none⟩) (Z.length - i) (cp - i)]).run Try.prog W = .ok (.tuple #[]) (W.setRow g D)) ∧ OwZ (W.setRow g D) B (.slice (some ⟨g, 0, none⟩) i cp) (Z.filter (inM M)) ∧ w.grownBy (W.setRow g D) (some g) ∧ i < Z.length ∧ Z.length ≤ cp := by
  have hij := h.ij
  have hcl := h.cl
  rcases h.ow.row.2 with ⟨e0, -⟩ | ⟨g', cap, cur, e0, hB, hg, h1, h2, h3, h4⟩
  · cases e0
  · simp only [Value.slice.injEq, Option.some.injEq, Addr.mk.injEq, and_true] at e0
    obtain ⟨rfl, -, rfl⟩ := e0
    obtain ⟨D, hD, hs, ht⟩ := clear_co g (i * 6) (Z.length - i - 1) (cp - i) W cur hg (by omega)
    rw [show Z.length - i - 1 + 1 = Z.length - i by omega] at hD
    have hW := setRow_heap W g cur D 40 (0, 0) hg
    have hgb := setRow_gb W g D
    have hrk := rk_own h.ow.row (W' := W.setRow g D) hgb
    have hti := h.tk
    rw [hj, List.take_length] at hti
    have hlen : (Z.filter (inM M)).length = i := by rw [← hti, List.length_take]; omega
    refine ⟨D, hD, ⟨⟨?_, .inr ⟨g, cp, D, by rw [hlen], hB, hW, by omega, h2, by rw [hs, h3], ?_⟩⟩, fun z hz => ?_⟩, gb_transT h.gb hgb, by omega, by omega⟩
    · rw [zc_len]
    · rw [hlen, ht, ← hti, zc_take, ← h4, List.take_take, Nat.min_eq_left (by omega)]
    · rw [← hti] at hz
      exact (h.ow.inn z (List.mem_of_mem_take hz)).rk hrk (by decide) (by decide)
theorem DF.below {w W W' : World} {B g cp mb bm i j : Nat} {M : List Int} {Z C : List ZC} (h : DF w B g cp mb bm M Z C i j W) (hb : Below W.heap.size W W') : DF w B g cp mb bm M Z C i j W' :=
  ⟨h.ow.below hb, h.cl, h.ij, h.tk, h.dr, gb_transT h.gb (gq_below hb), (hb.block _ (heap_lt h.bx)).trans h.bx, h.ms.below hb⟩
/-- One is left out. -/
theorem DF.skip {w W : World} {B g cp mb bm i j : Nat} {M : List Int} {Z C : List ZC} (h : DF w B g cp mb bm M Z C i j W) {z : ZC} (hz : Z[j]? = some z) (hi : inM M z = false) : DF w B g cp mb bm M Z C i (j + 1) W := by
  obtain ⟨hlt, e⟩ := List.getElem?_eq_some_iff.1 hz
  refine ⟨h.ow, h.cl, by have := h.ij; omega, ?_, ?_, h.gb, h.bx, h.ms⟩
  · rw [List.take_succ_eq_append_getElem hlt, List.filter_append, e, h.tk]
    simp [hi]
  · rw [← List.drop_drop, h.dr, List.drop_drop]
/-- One is kept. -/
theorem DF.keep {w W : World} {B g cp mb bm i j : Nat} {M : List Int} {Z C : List ZC} (h : DF w B g cp mb bm M Z C i j W) {z : ZC} (hz : C[j]? = some z) (hi : inM M z = true) :
    DF w B g cp mb bm M Z (C.set i z) (i + 1) (j + 1) ((((((W.setCell ⟨g, i * 6, none⟩ (.int .i64 z.1.n)).setCell ⟨g, i * 6 + 1, none⟩ z.2.1).setCell ⟨g, i * 6 + 2, none⟩ z.2.2.1).setCell ⟨g, i * 6 + 3, none⟩ z.2.2.2).setCell ⟨g, i * 6 + 4, none⟩ (.int .i64 z.1.c)).setCell ⟨g, i * 6 + 5, none⟩ (.int .i64 z.1.s)) := by
  have hij := h.ij
  have hcl := h.cl
  obtain ⟨hlt, e⟩ := List.getElem?_eq_some_iff.1 hz
  have hltZ : j < Z.length := by omega
  have hzZ : Z[j]? = some z := by
    have := congrArg (fun l => l[0]?) h.dr
    simp only [List.getElem?_drop, Nat.add_zero] at this
    rw [← this, hz]
  obtain ⟨_, eZ⟩ := List.getElem?_eq_some_iff.1 hzZ
  obtain ⟨ho, hg⟩ := h.ow.put (k := i) (by omega) (List.mem_of_getElem? hz)
  have hrow : ∃ cur, W.heap[g]? = some (.cells cur 40) := by
    rcases h.ow.row.2 with ⟨e0, -⟩ | ⟨g', cap, cur, e0, -, hgg, -⟩
    · cases e0
    · simp only [Value.slice.injEq, Option.some.injEq, Addr.mk.injEq, and_true] at e0
      obtain ⟨rfl, -⟩ := e0
      exact ⟨cur, hgg⟩
  obtain ⟨cur, hgg⟩ := hrow
  refine ⟨ho, by simpa using hcl, by omega, ?_, ?_, gb_transT h.gb hg, (hg.block _ (heap_lt h.bx) (fun e => ?_)).trans h.bx, h.ms.kept hg (fun e => ?_)⟩
  · rw [List.take_succ_eq_append_getElem (by rw [List.length_set]; omega), List.take_set_of_le (Nat.le_refl _), h.tk, List.getElem_set_self, List.take_succ_eq_append_getElem hltZ, List.filter_append, eZ]
    simp [hi]
  · rw [List.drop_set_of_lt (by omega), ← List.drop_drop, h.dr, List.drop_drop]
  · cases e
    rw [h.bx] at hgg
    simp at hgg
  · cases e
    exact h.ms.box hgg rfl
set_option maxRecDepth 20000 in
set_option maxHeartbeats 3000000 in
theorem deleteFunc_any (v : Value) (Z : List ZC) (B mb bm : Nat) (M : List Int) (w : World) (h : OwZ w B v Z) (hl : Z.length * 96 ≤ 140737488355328) (hm : w.heap[mb]? = some (.cells #[.map (some bm)] 55)) (hk : MkZ w bm M) (hn : ∀ z ∈ Z, InI z.1.n) :
    Calls Try.prog 22 #[v, .func (.func 23) #[] #[.pointer (some ⟨mb, 0, none⟩)]] w fun e w' => ∃ u, e = .returned u ∧ OwZ w' B u (Z.filter (inM M)) ∧ w.grownBy w' v.ownBlock := by
  obtain ⟨ao, cp, rfl⟩ := own_form h.row
  have cI := indexFunc_any _ Z B mb bm M w h hl hm hk hn
  go_enter Try.func22, Try.ntmps22
  go_wp2_with fail
  refine cI.mono ?_
  rintro e w2 ⟨i, rfl, hb2, ⟨rfl, hA⟩ | ⟨k, rfl, hA, hN⟩⟩
  · have hw := h.below hb2
    have hf : Z.filter (inM M) = Z := List.filter_eq_self.2 hA
    have hfin : ∃ u, Ending.returned (.slice ao Z.length cp) = .returned u ∧ OwZ w2 B u (Z.filter (inM M)) ∧ w.grownBy w2 (Value.slice ao Z.length cp).ownBlock :=
      ⟨_, rfl, by rw [hf]; exact hw, ⟨hb2.os, hb2.tape, hb2.output, hb2.size, fun j hj _ => hb2.block j hj⟩⟩
    clear cI h hk hm hn hA hw hf
    go_wp2_with fail
    go_ret
    exact hfin
  · obtain ⟨zk, hzk, hik⟩ := hN
    obtain ⟨hkl, -⟩ := List.getElem?_eq_some_iff.1 hzk
    obtain ⟨g, rfl, hgB, hgl, hgf⟩ := own_block h.row (by omega)
    have hD0 : DF w B g cp mb bm M Z Z k (k + 1) w2 := by
      refine ⟨h.below hb2, rfl, by omega, ?_, rfl, gq_below hb2, (hb2.block _ (heap_lt hm)).trans hm, hk.below hb2⟩
      rw [List.take_succ_eq_append_getElem hkl, List.filter_append, List.filter_eq_self.2 hA]
      obtain ⟨_, e⟩ := List.getElem?_eq_some_iff.1 hzk
      rw [e]
      simp [hik]
    have hne : ((k : Int) == -1) = false := beq_eq_false_iff_ne.2 (by omega)
    clear cI h hk hm hA hzk hik hgB hgl hgf hb2
    go_wp2_with fail
    clear hne
    go_loopw [5, 6] (fun a b wr => ∃ (i j : Nat) (C : List ZC), j ≤ Z.length ∧ a = .int .i64 (i : Int) ∧ b = .int .i64 (j : Int) ∧ DF w B g cp mb bm M Z C i j wr) (fun _ b _ => Z.length - (Go.RowKit.intOf b).toNat)
    case atStart => exact ⟨k, k + 1, Z, by omega, rfl, by go_num, hD0⟩
    case round =>
      clear hD0
      obtain ⟨i, j, C, hj, rfl, rfl, h⟩ := hrel
      have hij := h.ij
      have hcl := h.cl
      by_cases hlt : j < Z.length
      · have hlt' : (j : Int) < (Z.length : Int) := by omega
        have hzk : C[j]? = some (C[j]'(by omega)) := by simp
        have hzZ : Z[j]? = some (C[j]'(by omega)) := by
          have := congrArg (fun l => l[0]?) h.dr
          simp only [List.getElem?_drop, Nat.add_zero] at this
          rw [← this, hzk]
        have hzm := List.mem_of_getElem? hzk
        obtain ⟨c0, c1, c2, c3, c4, c5⟩ := h.ow.cells hzk
        obtain ⟨⟨ap, kp, e1⟩, ⟨ad, kd, e2⟩, ⟨ae, ke, e3⟩⟩ := (h.ow.inn _ hzm).forms
        have hkeep := fun W (hb : Below wr.heap.size wr W) (hi : inM M (C[j]'(by omega)) = true) => (h.below hb).keep hzk hi
        have hskip := fun W (hb : Below wr.heap.size wr W) (hi : inM M (C[j]'(by omega)) = false) => (h.below hb).skip hzZ hi
        have hnz := hn _ (List.mem_of_getElem? hzZ)
        have hxi : C[i]? = some (C[i]'(by omega)) := by simp
        obtain ⟨d0, d1, d2, d3, d4, d5⟩ := h.ow.cells hxi
        obtain ⟨⟨ap', kp', e1'⟩, ⟨ad', kd', e2'⟩, ⟨ae', ke', e3'⟩⟩ := (h.ow.inn _ (List.mem_of_getElem? hxi)).forms
        rw [e1'] at d1
        rw [e2'] at d2
        rw [e3'] at d3
        have hfz := own_fz h.ow.row
        have hgl : g < wr.heap.size := (h.ow.row.lt g rfl).2
        have eM : inM M (C[j]'(by omega)) = decide ((C[j]'(by omega)).1.n ∈ M) := rfl
        generalize (C[j]'(by omega)) = z at *
        generalize (C[i]'(by omega)) = y at *
        obtain ⟨x, p0, q0, r0⟩ := z
        simp only at e1 e2 e3 c0 c1 c2 c3 c4 c5 hkeep eM hnz
        subst e1 e2 e3
        have hal := alloc_bR wr (.cells #[.int .i64 x.n, .slice ap x.ps.length kp, .slice ad x.d.length kd, .slice ae x.o.length ke, .int .i64 x.c, .int .i64 x.s] 40)
        have hnw := heap_alloc_new wr (.cells #[.int .i64 x.n, .slice ap x.ps.length kp, .slice ad x.d.length kd, .slice ae x.o.length ke, .int .i64 x.c, .int .i64 x.s] 40)
        have cS := sweep1_any x.n x.c x.s ap ad ae x.ps.length kp x.d.length kd x.o.length ke mb bm M _ ((h.below hal).bx) ((h.below hal).ms) hnz
        rw [← eM] at cS
        clear h hnz eM hzk hzZ hzm hxi hn hcl
        go_upto_region 8 with fail
        clear c0 c1 c2 c3 c4 c5
        go_wp2_with fail
        refine cS.mono ?_
        rintro e w4 ⟨rfl, hb4⟩
        have hb04 := hal.trans (hb4.mono hal.size)
        have hnw4 := (hb4.block _ (heap_lt hnw)).trans hnw
        have hk4 := hkeep w4 hb04
        have hs4 := hskip w4 hb04
        clear cS hkeep hskip hal hnw hb4
        cases hi : inM M (x, .slice ap x.ps.length kp, .slice ad x.d.length kd, .slice ae x.o.length ke) with
        | true =>
          have hD := hk4 hi
          rw [← hb04.cell (p := ⟨g, _, none⟩) hgl] at d0 d1 d2 d3 d4 d5
          have hf4 := fun o => (hb04.frozen (p := ⟨g, o, none⟩) hgl).trans (hfz o)
          have z0 := hf4 (i * 6)
          have z1 := hf4 (i * 6 + 1)
          have z2 := hf4 (i * 6 + 2)
          have z3 := hf4 (i * 6 + 3)
          have z4 := hf4 (i * 6 + 4)
          have z5 := hf4 (i * 6 + 5)
          have q := fun j => cell_of_row w4 wr.heap.size j _ _ (0, 0) hnw4
          have y0 : w4.cell? ⟨wr.heap.size, 0, none⟩ = some (.int .i64 x.n) := q 0
          have y1 : w4.cell? ⟨wr.heap.size, 1, none⟩ = some (.slice ap x.ps.length kp) := q 1
          have y2 : w4.cell? ⟨wr.heap.size, 2, none⟩ = some (.slice ad x.d.length kd) := q 2
          have y3 : w4.cell? ⟨wr.heap.size, 3, none⟩ = some (.slice ae x.o.length ke) := q 3
          have y4 : w4.cell? ⟨wr.heap.size, 4, none⟩ = some (.int .i64 x.c) := q 4
          have y5 : w4.cell? ⟨wr.heap.size, 5, none⟩ = some (.int .i64 x.s) := q 5
          have hil : (i : Int) < (Z.length : Int) := by omega
          clear hk4 hs4 hi hnw4 hfz hf4 q hb04
          go_wp2_with fail
          exact ⟨⟨i + 1, j + 1, _, by omega, by go_num, by go_num, hD⟩, by simp [Go.RowKit.intOf]; omega⟩
        | false =>
          have hD := hs4 hi
          clear hk4 hs4 hi hnw4 d0 d1 d2 d3 d4 d5 hfz
          go_wp2_with fail
          exact ⟨⟨i, j + 1, C, by omega, rfl, by go_num, hD⟩, by simp [Go.RowKit.intOf]; omega⟩
      · have hlt' : ¬ (j : Int) < (Z.length : Int) := by omega
        obtain ⟨D, hclr, hO, hgb, hin, hcp⟩ := h.done (by omega)
        have c1 : (i : Int) ≤ (Z.length : Int) := by omega
        have c2 : (Z.length : Int) ≤ (cp : Int) := by omega
        have c3 : (i : Int) ≤ (cp : Int) := by omega
        have c8 : ¬ cp = i := by omega
        have c4 : i ≤ cp := by omega
        have c5 : i ≤ Z.length := by omega
        clear h hn hij hcl
        generalize wr.setRow g D = w5 at *
        go_wp2_with fail
        go_ret
        exact ⟨_, rfl, hO, hgb⟩
end Go.Proofs.Ythhdpabelcgfjaa
