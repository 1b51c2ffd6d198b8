/-
  slices.Clone of rows (commits, branches, clients, numbers, operations), strings.Clone, copies.Delta.
-/
import Derived.Test.YthhdpabelcgfjaaStC
import Derived.Lib.BufferWrite
import Derived.Lib.UnsafeStr
import Derived.Deep.RegionLaw
import Derived.Deep.AppendLies
import Derived.Laws.Cover3
namespace Go.Proofs.Ythhdpabelcgfjaa
open Go.ChangeShapes Go.WideShapes Go.ChangeAt Go.RowKit Go.PlainAid

theorem addrC (b o j : Nat) : (⟨b, o, none⟩ : Addr).add j = ⟨b, o + j, none⟩ := by unfold Addr.add; split <;> simp_all
theorem make_u8 (n : Nat) (hn : n ≤ 140737488355328) : ∃ Z : Array Value, Z.size = n ∧ ∀ W : World, (Instr.makeSlice 109 (.int .i64 (n : Int)) (.int .i64 (n : Int))).run Try.prog W = .ok (.slice (some ⟨W.heap.size, 0, none⟩) n n) (W.alloc (.cells Z 5)) := by
  obtain ⟨i0, hi, hz0, hz1, hz2⟩ := info_parts Try.info5
  refine ⟨madeCells (Value.int .u8 0).cells (n * i0.size), ?_, fun W => ?_⟩
  rotate_left
  · have h := run_make (P := Try.prog) W 109 5 i0 _ Try.underlying109 hi hz0 .i64 .i64 (n : Int) (n : Int) (by omega) (by omega) (by rw [hz2]; omega) (by omega)
    simpa using h
  · simp [size_madeCells, hz1]

set_option maxRecDepth 20000 in
set_option maxHeartbeats 1000000 in
theorem liteClone_any (s : ByteArray) (w : World) (h0 : s.size ≠ 0) (hs : s.size ≤ 140737488355328) :
    Calls Try.prog 51 #[.string s] w fun e w' => e = .returned (.string s) ∧ Below w.heap.size w w' := by
  obtain ⟨Z, hZ, hmk⟩ := make_u8 s.size hs
  have hz : ((s.size : Int) == 0) = false := beq_eq_false_iff_ne.2 (by omega)
  have hnew : (w.alloc (.cells Z 5)).heap[w.heap.size]? = some (.cells Z 5 (0, 0)) := heap_alloc_new w _
  have hcp := fun ty => Lib.run_copy_row_string (P := Try.prog) (w.alloc (.cells Z 5)) 109 9 ty 5 w.heap.size 0 s.size s.size s Z 5 Try.underlying109 (by kernel_rfl) hnew (Nat.le_refl _) (by omega)
  have hrow : (Z.toList.take 0 ++ Lib.byteCells s.data.toList ++ Z.toList.drop (0 + s.size)).toArray = (Lib.byteCells s.data.toList).toArray := by
    rw [List.drop_of_length_le (by simp; omega)]
    simp
  rw [hrow] at hcp
  have hset := setRow_heap (w.alloc (.cells Z 5)) w.heap.size Z (Lib.byteCells s.data.toList).toArray 5 (0, 0) hnew
  have hlen : s.data.toList.length = s.size := by rw [Array.length_toList]; rfl
  have hUS := fun ty => Lib.run_unsafeString_row (P := Try.prog) ((w.alloc (.cells Z 5)).setRow w.heap.size (Lib.byteCells s.data.toList).toArray) 110 3 ty 5 Try.underlying110 (by kernel_rfl) w.heap.size s.size (by unfold World.shape?; rw [hset]; simp [Lib.byteCells_length, hlen]) s.data.toList (fun e => by rw [e] at hlen; simp at hlen; omega) (by omega) (by omega)
    (fun j x hx => by
      rw [addrC]
      unfold World.cell?
      simp only [hset]
      simp [Lib.byteCells, hx])
  rw [hlen] at hUS
  have hB1 : Below w.heap.size (w.alloc (.cells Z 5)) ((w.alloc (.cells Z 5)).setRow w.heap.size (Lib.byteCells s.data.toList).toArray) := ⟨rfl, rfl, rfl, by simp, fun k hk => setRow_other _ _ _ _ (by omega)⟩
  have hB : Below w.heap.size w (((w.alloc (.cells Z 5)).setRow w.heap.size (Lib.byteCells s.data.toList).toArray).freeze ⟨w.heap.size, 0, none⟩ s.size) :=
    Lib.below_freeze (((Below.refl _ w).alloc (Nat.le_refl _) _).trans hB1) (p := ⟨w.heap.size, 0, none⟩) (Nat.le_refl _) _
  go_enter Try.func51, Try.ntmps51
  go_wp2_with fail
  go_ret
  exact ⟨rfl, hB⟩

set_option maxRecDepth 20000 in
set_option maxHeartbeats 1000000 in
theorem strClone_any (s : ByteArray) (w : World) (h0 : s.size ≠ 0) (hs : s.size ≤ 140737488355328) :
    Calls Try.prog 42 #[.string s] w fun e w' => e = .returned (.string s) ∧ Below w.heap.size w w' := by
  have h := liteClone_any s w h0 hs
  go_enter Try.func42, Try.ntmps42
  go_wp2_with (go_at_call 51; refine h.mono ?_; rintro e w1 ⟨rfl, hb1⟩)
  go_ret
  exact ⟨rfl, hb1⟩

set_option maxRecDepth 20000 in
theorem clone_all (s : ByteArray) (w : World) (hs : s.size ≤ 140737488355328) :
    Calls Try.prog 42 #[.string s] w fun e w' => e = .returned (.string s) ∧ Below w.heap.size w w' := by
  by_cases h0 : s.size = 0
  · have e : s = ⟨#[]⟩ := by
      apply ByteArray.ext
      exact Array.eq_empty_of_size_eq_zero h0
    subst e
    have h : Calls Try.prog 51 #[.string ⟨#[]⟩] w fun e w' => e = .returned (.string ⟨#[]⟩) ∧ Below w.heap.size w w' := by
      go_enter Try.func51, Try.ntmps51
      go_wp2_with fail
      go_ret
      exact ⟨rfl, Below.refl _ _⟩
    go_enter Try.func42, Try.ntmps42
    go_wp2_with (go_at_call 51; refine h.mono ?_; rintro e w1 ⟨rfl, hb1⟩)
    go_ret
    exact ⟨rfl, hb1⟩
  · exact strClone_any s w h0 hs


/-- Cells that lie where a slice says. -/
def Src (W : World) (ao : Option Addr) (n z : Nat) (xs : List Value) : Prop := xs.length = n * z ∧ (∀ ad, ao = some ad → ∀ j u, xs[j]? = some u → W.cell? (ad.add j) = some u) ∧ (ao = none → n = 0) ∧ ∀ u ∈ xs, u.oneCell' = true
theorem Src.below {W W' : World} {ao : Option Addr} {n z : Nat} {xs : List Value} (h : Src W ao n z xs) (hb : Below W.heap.size W W') : Src W' ao n z xs :=
  ⟨h.1, fun ad had j u hj => by
    have hc := h.2.1 ad had j u hj
    exact (hb.cell (p := ad.add j) (World.block_lt_of_cell? W _ hc)).trans hc, h.2.2⟩
/-- append(an empty row of its own, l...): a row in memory of its own. -/
theorem wp_catG {W : World} {o : Oper} {a : Act} {K : Act → World → Prop} {Q : Exit → Act → World → Prop} (s x : Operand) {T e : TypeId} {i0 : TypeInfo} {zv : Value} {z by8 n cp B : Nat} {ad : Addr} {xs : List Value} {u : Value} (hT : Try.prog.underlying T = some (.slice e)) (hin : Try.prog.info? e = some i0) (hz0 : i0.zero = some zv) (hz1 : i0.size = z) (hz2 : i0.bytes = by8) (hzs : zv.cells.size = z) (hzp : 0 < z)
    (ho : o.op = .call { callee := .builtin .append, args := #[s, x], argTypes := #[T, T] }) (hs : a.eval s = u) (hu : W.ownsRow B e z u 0 []) (hx : a.eval x = .slice (some ad) n cp)
    (hsr : Src W (some ad) n z xs) (h63 : n ≤ maxLen) (hby : n * by8 ≤ 140737488355328) (hB : B ≤ W.heap.size)
    (h : ∀ v' w', w'.ownsRow B e z v' n xs → W.grownBy w' u.ownBlock → K (a.put o.dst v') w') : o.wp Try.prog a W K Q := by
  refine wp_append_own W s x T ho B e i0 zv z by8 hT hin hz0 hz1 hz2 hzs hzp u 0 [] hs hu ad n cp xs hx hsr.1 (hsr.2.1 ad rfl) hsr.2.2.2 (by omega) (by rw [Nat.zero_add]; exact hby) hB ?_
  intro v' w' ho' hg _
  rw [Nat.zero_add, List.nil_append] at ho'
  exact h v' w' ho' hg
theorem own_empty (w : World) (e : TypeId) (z : Nat) : (w.alloc (.cells #[] e)).ownsRow w.heap.size e z (.slice (some ⟨w.heap.size, 0, none⟩) 0 0) 0 [] := ⟨by simp, .inr ⟨_, _, _, rfl, Nat.le_refl _, heap_alloc_new w _, by simp, by unfold maxLen; omega, by simp, by simp⟩⟩
theorem grown_new {w W' : World} {e : TypeId} (h : (w.alloc (.cells #[] e)).grownBy W' (Value.slice (some ⟨w.heap.size, 0, none⟩) 0 0).ownBlock) : Below w.heap.size w W' :=
  (alloc_bR w (.cells #[] e)).grown h (by simp) (fun j hj => by simp [Value.ownBlock] at hj; omega)


set_option maxRecDepth 20000 in
set_option maxHeartbeats 1000000 in
theorem cloneCo_any (ao : Option Addr) (n cp : Nat) (xs : List Value) (w : World) (hs : Src w ao n 6 xs) (hby : n * 96 ≤ 140737488355328) :
    Calls Try.prog 38 #[.slice ao n cp] w fun e w' => ∃ u, e = .returned u ∧ w'.ownsRow w.heap.size 40 6 u n xs ∧ Below w.heap.size w w' := by
  cases ao with
  | none =>
    obtain rfl := hs.2.2.1 rfl
    have hx : xs = [] := List.eq_nil_of_length_eq_zero (by have := hs.1; omega)
    subst hx
    have hq : (binOp .eql 22 (.slice none 0 cp) (.slice none 0 0)).run Try.prog w = .ok (.bool true) w := by
      simp only [binOp]
      simp [run_equal_slice_nil w _ _ none 0 cp Try.underlying22]
    clear hs
    go_enter Try.func38, Try.ntmps38
    go_wp2_with fail
    go_ret
    exact ⟨_, rfl, World.ownsRow_nil _ _ _ _, Below.refl _ _⟩
  | some ad =>
    obtain ⟨i0, hin, hz0, hz1, hz2⟩ := info_parts Try.infoCm
    have hq : (binOp .eql 22 (.slice (some ad) n cp) (.slice none 0 0)).run Try.prog w = .ok (.bool false) w := by
      simp only [binOp]
      simp [run_equal_slice_nil w _ _ (some ad) n cp Try.underlying22]
    have hu := own_empty w 40 6
    have hs2 := hs.below (alloc_bR w (.cells #[] 40))
    clear hs
    go_enter Try.func38, Try.ntmps38
    go_wp2_with (at_builtin; refine wpList_plain rfl (fun K hK => ?_); refine wp_catG (.tmp 5) (.tmp 6) Try.underlying22 hin hz0 hz1 hz2 rfl (by decide) rfl rfl hu rfl hs2 (by unfold maxLen; omega) (by omega) (by simp) ?_; intro v7 w7 ho7 hg7; refine hK _ _ ?_)
    go_ret
    exact ⟨_, rfl, ho7, grown_new hg7⟩


set_option maxRecDepth 20000 in
set_option maxHeartbeats 1000000 in
theorem cloneBr_any (ao : Option Addr) (n cp : Nat) (xs : List Value) (w : World) (hs : Src w ao n 3 xs) (hby : n * 48 ≤ 140737488355328) :
    Calls Try.prog 41 #[.slice ao n cp] w fun e w' => ∃ u, e = .returned u ∧ w'.ownsRow w.heap.size 47 3 u n xs ∧ Below w.heap.size w w' := by
  cases ao with
  | none =>
    obtain rfl := hs.2.2.1 rfl
    have hx : xs = [] := List.eq_nil_of_length_eq_zero (by have := hs.1; omega)
    subst hx
    have hq : (binOp .eql 23 (.slice none 0 cp) (.slice none 0 0)).run Try.prog w = .ok (.bool true) w := by
      simp only [binOp]
      simp [run_equal_slice_nil w _ _ none 0 cp Try.underlying23]
    clear hs
    go_enter Try.func41, Try.ntmps41
    go_wp2_with fail
    go_ret
    exact ⟨_, rfl, World.ownsRow_nil _ _ _ _, Below.refl _ _⟩
  | some ad =>
    obtain ⟨i0, hin, hz0, hz1, hz2⟩ := info_parts Try.infoBr
    have hq : (binOp .eql 23 (.slice (some ad) n cp) (.slice none 0 0)).run Try.prog w = .ok (.bool false) w := by
      simp only [binOp]
      simp [run_equal_slice_nil w _ _ (some ad) n cp Try.underlying23]
    have hu := own_empty w 47 3
    have hs2 := hs.below (alloc_bR w (.cells #[] 47))
    clear hs
    go_enter Try.func41, Try.ntmps41
    go_wp2_with (at_builtin; refine wpList_plain rfl (fun K hK => ?_); refine wp_catG (.tmp 5) (.tmp 6) Try.underlying23 hin hz0 hz1 hz2 rfl (by decide) rfl rfl hu rfl hs2 (by unfold maxLen; omega) (by omega) (by simp) ?_; intro v7 w7 ho7 hg7; refine hK _ _ ?_)
    go_ret
    exact ⟨_, rfl, ho7, grown_new hg7⟩


set_option maxRecDepth 20000 in
set_option maxHeartbeats 1000000 in
theorem cloneCu_any (ao : Option Addr) (n cp : Nat) (xs : List Value) (w : World) (hs : Src w ao n 3 xs) (hby : n * 24 ≤ 140737488355328) :
    Calls Try.prog 43 #[.slice ao n cp] w fun e w' => ∃ u, e = .returned u ∧ w'.ownsRow w.heap.size 65 3 u n xs ∧ Below w.heap.size w w' := by
  cases ao with
  | none =>
    obtain rfl := hs.2.2.1 rfl
    have hx : xs = [] := List.eq_nil_of_length_eq_zero (by have := hs.1; omega)
    subst hx
    have hq : (binOp .eql 24 (.slice none 0 cp) (.slice none 0 0)).run Try.prog w = .ok (.bool true) w := by
      simp only [binOp]
      simp [run_equal_slice_nil w _ _ none 0 cp Try.underlying24]
    clear hs
    go_enter Try.func43, Try.ntmps43
    go_wp2_with fail
    go_ret
    exact ⟨_, rfl, World.ownsRow_nil _ _ _ _, Below.refl _ _⟩
  | some ad =>
    obtain ⟨i0, hin, hz0, hz1, hz2⟩ := info_parts Try.infoCu
    have hq : (binOp .eql 24 (.slice (some ad) n cp) (.slice none 0 0)).run Try.prog w = .ok (.bool false) w := by
      simp only [binOp]
      simp [run_equal_slice_nil w _ _ (some ad) n cp Try.underlying24]
    have hu := own_empty w 65 3
    have hs2 := hs.below (alloc_bR w (.cells #[] 65))
    clear hs
    go_enter Try.func43, Try.ntmps43
    go_wp2_with (at_builtin; refine wpList_plain rfl (fun K hK => ?_); refine wp_catG (.tmp 5) (.tmp 6) Try.underlying24 hin hz0 hz1 hz2 rfl (by decide) rfl rfl hu rfl hs2 (by unfold maxLen; omega) (by omega) (by simp) ?_; intro v7 w7 ho7 hg7; refine hK _ _ ?_)
    go_ret
    exact ⟨_, rfl, ho7, grown_new hg7⟩


set_option maxRecDepth 20000 in
set_option maxHeartbeats 1000000 in
theorem cloneIn_any (ao : Option Addr) (n cp : Nat) (xs : List Value) (w : World) (hs : Src w ao n 1 xs) (hby : n * 8 ≤ 140737488355328) :
    Calls Try.prog 39 #[.slice ao n cp] w fun e w' => ∃ u, e = .returned u ∧ w'.ownsRow w.heap.size 3 1 u n xs ∧ Below w.heap.size w w' := by
  cases ao with
  | none =>
    obtain rfl := hs.2.2.1 rfl
    have hx : xs = [] := List.eq_nil_of_length_eq_zero (by have := hs.1; omega)
    subst hx
    have hq : (binOp .eql 28 (.slice none 0 cp) (.slice none 0 0)).run Try.prog w = .ok (.bool true) w := by
      simp only [binOp]
      simp [run_equal_slice_nil w _ _ none 0 cp Try.underlying28]
    clear hs
    go_enter Try.func39, Try.ntmps39
    go_wp2_with fail
    go_ret
    exact ⟨_, rfl, World.ownsRow_nil _ _ _ _, Below.refl _ _⟩
  | some ad =>
    obtain ⟨i0, hin, hz0, hz1, hz2⟩ := info_parts Try.infoIntR
    have hq : (binOp .eql 28 (.slice (some ad) n cp) (.slice none 0 0)).run Try.prog w = .ok (.bool false) w := by
      simp only [binOp]
      simp [run_equal_slice_nil w _ _ (some ad) n cp Try.underlying28]
    have hu := own_empty w 3 1
    have hs2 := hs.below (alloc_bR w (.cells #[] 3))
    clear hs
    go_enter Try.func39, Try.ntmps39
    go_wp2_with (at_builtin; refine wpList_plain rfl (fun K hK => ?_); refine wp_catG (.tmp 5) (.tmp 6) Try.underlying28 hin hz0 hz1 hz2 rfl (by decide) rfl rfl hu rfl hs2 (by unfold maxLen; omega) (by omega) (by simp) ?_; intro v7 w7 ho7 hg7; refine hK _ _ ?_)
    go_ret
    exact ⟨_, rfl, ho7, grown_new hg7⟩


set_option maxRecDepth 20000 in
set_option maxHeartbeats 1000000 in
theorem cloneOp_any (ao : Option Addr) (n cp : Nat) (xs : List Value) (w : World) (hs : Src w ao n 3 xs) (hby : n * 32 ≤ 140737488355328) :
    Calls Try.prog 50 #[.slice ao n cp] w fun e w' => ∃ u, e = .returned u ∧ w'.ownsRow w.heap.size 67 3 u n xs ∧ Below w.heap.size w w' := by
  cases ao with
  | none =>
    obtain rfl := hs.2.2.1 rfl
    have hx : xs = [] := List.eq_nil_of_length_eq_zero (by have := hs.1; omega)
    subst hx
    have hq : (binOp .eql 38 (.slice none 0 cp) (.slice none 0 0)).run Try.prog w = .ok (.bool true) w := by
      simp only [binOp]
      simp [run_equal_slice_nil w _ _ none 0 cp Try.underlying38]
    clear hs
    go_enter Try.func50, Try.ntmps50
    go_wp2_with fail
    go_ret
    exact ⟨_, rfl, World.ownsRow_nil _ _ _ _, Below.refl _ _⟩
  | some ad =>
    obtain ⟨i0, hin, hz0, hz1, hz2⟩ := info_parts Try.infoOp
    have hq : (binOp .eql 38 (.slice (some ad) n cp) (.slice none 0 0)).run Try.prog w = .ok (.bool false) w := by
      simp only [binOp]
      simp [run_equal_slice_nil w _ _ (some ad) n cp Try.underlying38]
    have hu := own_empty w 67 3
    have hs2 := hs.below (alloc_bR w (.cells #[] 67))
    clear hs
    go_enter Try.func50, Try.ntmps50
    go_wp2_with (at_builtin; refine wpList_plain rfl (fun K hK => ?_); refine wp_catG (.tmp 5) (.tmp 6) Try.underlying38 hin hz0 hz1 hz2 rfl (by decide) rfl rfl hu rfl hs2 (by unfold maxLen; omega) (by omega) (by simp) ?_; intro v7 w7 ho7 hg7; refine hK _ _ ?_)
    go_ret
    exact ⟨_, rfl, ho7, grown_new hg7⟩


theorem src_ints {W : World} {ao : Option Addr} {cp : Nat} {l : List Int} (h : RdI W (.slice ao l.length cp) l) : Src W ao l.length 1 (ivs l) := ⟨by simp [ivs], (rdi_src h).1, (rdi_src h).2, ivs_one l⟩
theorem src_ops {W : World} {ao : Option Addr} {cp : Nat} {l : List OpD} (h : RdD W (.slice ao l.length cp) l) : Src W ao l.length 3 (ocs l) := ⟨ocs_length l, (rdd_src h).1, (rdd_src h).2, ocs_one' l⟩
theorem src_cus {W : World} {ao : Option Addr} {cp : Nat} {l : List CuD} (h : RdCu W (.slice ao l.length cp) l) : Src W ao l.length 3 (ucs l) := ⟨ucs_len l, (rdcu_src h).1, (rdcu_src h).2, ucs_one l⟩
theorem setCell_self {w : World} {b j : Nat} {v : Value} (h : w.cell? ⟨b, j, none⟩ = some v) : w.setCell ⟨b, j, none⟩ v = w := by
  have hh : (w.setCell ⟨b, j, none⟩ v).heap = w.heap := by
    apply Array.ext_getElem?
    intro i
    by_cases hi : i = b
    · subst hi
      unfold World.cell? at h
      cases hb : w.heap[i]? with
      | none => simp [hb] at h
      | some o =>
        cases o with
        | cells c t f =>
          simp [hb] at h
          have hc : c.setIfInBounds j v = c := by
            apply Array.ext_getElem?
            intro q
            by_cases hq : j = q
            · subst hq
              obtain ⟨hlt, -⟩ := Array.getElem?_eq_some_iff.1 h
              rw [Array.getElem?_setIfInBounds_self_of_lt hlt, h]
            · rw [Array.getElem?_setIfInBounds_ne hq]
          simp [World.setCell, Array.getElem?_modify, hb, hc]
        | _ => simp [hb] at h
    · exact Below.heap_setCell w ⟨b, j, none⟩ v i (by simpa using hi)
  cases w
  simp only [World.setCell] at hh ⊢
  rw [hh]
theorem ocs_tx : ∀ (l : List OpD) (i : Nat) (x : OpD), l[i]? = some x → (ocs l)[i * 3 + 2]? = some (.string x.t)
  | y :: l, 0, x, h => by simp at h; subst h; simp [ocs]
  | y :: l, i + 1, x, h => by
    have := ocs_tx l i x (by simpa using h)
    rw [show (i + 1) * 3 + 2 = i * 3 + 2 + 1 + 1 + 1 by omega]
    simpa [ocs] using this
  | [], _, _, h => by simp at h
theorem own_block {W : World} {B z n cp : Nat} {e : TypeId} {ao : Option Addr} {xs : List Value} (h : W.ownsRow B e z (.slice ao n cp) n xs) (hn : n ≠ 0) : ∃ g, ao = some ⟨g, 0, none⟩ ∧ B ≤ g ∧ g < W.heap.size ∧ ∀ o, W.frozen? ⟨g, o, none⟩ = false := by
  rcases h.2 with ⟨e0, h0⟩ | ⟨g, cap, cur, e0, hB, hg, -⟩
  · exact absurd h0 hn
  · simp only [Value.slice.injEq] at e0
    exact ⟨g, e0.1, hB, heap_lt hg, fun o => by simp [World.frozen?, hg]⟩
set_option maxRecDepth 20000 in
set_option maxHeartbeats 1000000 in
theorem cdelta_any (v : Value) (d : List OpD) (w : World) (hr : RdD w v d) (hl : d.length * 32 ≤ 140737488355328) (hi : ∀ o ∈ d, o.In) :
    Calls Try.prog 40 #[v] w fun e w' => ∃ u, e = .returned u ∧ w'.ownsRow w.heap.size 67 3 u d.length (ocs d) ∧ Below w.heap.size w w' := by
  obtain ⟨ao, cp, rfl, -⟩ := id hr
  have cC := cloneOp_any ao d.length cp (ocs d) w (src_ops hr) hl
  clear hr
  go_enter Try.func40, Try.ntmps40
  go_wp2_with fail
  refine cC.mono ?_
  rintro e w2 ⟨u, rfl, ho, hb⟩
  obtain ⟨a, k, rfl⟩ := own_form ho
  clear cC
  go_wp2_with fail
  go_loopw [8] (fun i wr => ∃ q : Nat, q ≤ d.length ∧ i = .int .i64 (q : Int) ∧ wr.ownsRow w.heap.size 67 3 (.slice a d.length k) d.length (ocs d) ∧ Below w.heap.size w wr) (fun i _ => d.length - (Go.RowKit.intOf i).toNat)
  case atStart => exact ⟨0, by omega, rfl, ho, hb⟩
  case round =>
    clear ho hb
    obtain ⟨q, hq, rfl, ho, hb⟩ := hrel
    by_cases hlt : q < d.length
    · have hlt' : (q : Int) < (d.length : Int) := by omega
      obtain ⟨g, rfl, hgB, hgl, hgf⟩ := own_block ho (by omega)
      have c2 := ho.cells (g := g) rfl _ _ (ocs_tx d q d[q] (by simp [hlt]))
      rw [adK, Nat.zero_add] at c2
      have hin := hi d[q] (List.getElem_mem hlt)
      have cS := fun W => clone_all d[q].t W (by unfold OpD.In at hin; omega)
      generalize d[q].t = tx at *
      clear hin
      go_wp2_with fail
      refine (cS wr).mono ?_
      rintro e w3 ⟨rfl, hb3⟩
      have ho3 := own_belowG ho hb3
      have hb4 := hb.trans (hb3.mono hb.size)
      rw [← hb3.cell (p := ⟨g, _, none⟩) hgl] at c2
      have hgf2 := (hb3.frozen (p := ⟨g, q * 3 + 2, none⟩) hgl).trans (hgf _)
      clear hgf
      have hs := setCell_self c2
      go_wp2_with fail
      exact ⟨⟨q + 1, by omega, by go_num, ho3, hb4⟩, by simp [Go.RowKit.intOf]; omega⟩
    · have hlt' : ¬ (q : Int) < (d.length : Int) := by omega
      go_wp2_with fail
      go_ret
      exact ⟨_, rfl, ho, hb⟩

end Go.Proofs.Ythhdpabelcgfjaa
