/-
  Rows of pointers at a message's fields: the contract of behindKind.
-/
import Derived.Test.YtgceileakcjmdaaWrA
import Derived.Test.YtgceileakcjmdaaDlH
import Derived.Deep.RegionLaw
import Derived.Deep.AppendLies
namespace Go.Proofs.Ytgceileakcjmdaa
open Go.ChangeShapes Go.WideShapes Go.ChangeAt Go.RowKit Go.PlainAid

theorem Try.infoPt : (Try.prog.info? 42).map (fun i => (i.zero, i.size, i.bytes)) = some (some (.pointer none), 1, 8) := by kernel_rfl
/-- A row of pointers at fields of the struct at p. -/
def ptV (p : Nat) (fs : List Nat) : List Value := fs.map (fun f => Value.pointer (some ⟨p, f, none⟩))
theorem ptV_len (p : Nat) (fs : List Nat) : (ptV p fs).length = fs.length := by simp [ptV]
theorem ptV_one (p : Nat) (fs : List Nat) : ∀ u ∈ ptV p fs, u.oneCell' = true := by
  intro u hu
  simp only [ptV, List.mem_map] at hu
  obtain ⟨f, -, rfl⟩ := hu
  rfl
/-- A row that is written out is owned. -/
theorem own_lit (u : World) (B e : Nat) (l : List Value) (n : Nat) (hB : B ≤ u.heap.size) (hn : l.length = n) (hm : n ≤ maxLen) : (u.alloc (.cells l.toArray e)).ownsRow B e 1 (.slice (some ⟨u.heap.size, 0, none⟩) n n) n l := by
  subst hn
  exact ⟨by simp, .inr ⟨u.heap.size, l.length, l.toArray, rfl, hB, heap_alloc_new u _, Nat.le_refl _, hm, by simp, by simp⟩⟩

theorem below_appD {base : Nat} {w wr w1 : World} {e n : Nat} {v : Value} {xs : List Value} {o : Obj} (hb : base ≤ w.heap.size) (hbl : Below base w wr) (hown : wr.ownsRow base e 1 v n xs) (hg : (wr.alloc o).drew.grownBy w1 v.ownBlock) : Below base w w1 :=
  ((hbl.alloc (Nat.le_trans hb hbl.size) o).drew).grown hg (by have := hbl.size; show _ ≤ (wr.alloc o).heap.size; simp; omega) (fun k hk => (hown.lt k hk).1)

/-- The fields behind the Kind, in the order of the form. -/
def bkF (k : Int) : List Nat := if k = 1 then [1, 2, 4, 3] else if k = 3 then [1, 2, 4, 5, 3] else [1, 2, 4]
theorem bkF_1 : bkF 1 = [1, 2, 4, 3] := rfl
theorem bkF_3 : bkF 3 = [1, 2, 4, 5, 3] := rfl
theorem bkF_no {k : Int} (h1 : k ≠ 1) (h3 : k ≠ 3) : bkF k = [1, 2, 4] := by rw [bkF, if_neg h1, if_neg h3]

theorem MB.alloc {W : World} {p : Nat} {m : MsD} {v : Value} (h : MB W p m v) (o : Obj) : MB (W.alloc o) p m v := h.below ((Below.refl _ W).alloc (Nat.le_refl _) o)

set_option maxRecDepth 20000 in
set_option maxHeartbeats 1000000 in
theorem behindKind_any (p : Nat) (m : MsD) (v : Value) (w : World) (hM : MB w p m v) :
    Calls Try.prog 17 #[.pointer (some ⟨p, 0, none⟩)] w fun e w' => ∃ u, e = .returned u ∧ w'.ownsRow w.heap.size 42 1 u (bkF m.k).length (ptV p (bkF m.k)) ∧ Below w.heap.size w w' := by
  obtain ⟨i0, hin, hz0, hz1, hz2⟩ := info_parts Try.infoPt
  go_enter Try.func17, Try.ntmps17
  go_wp2_with fail
  go_region
  have hO := own_lit w w.heap.size 42 (ptV p [1, 2, 4]) 3 (Nat.le_refl _) rfl (by decide)
  have hB : Below w.heap.size w (w.alloc (.cells (ptV p [1, 2, 4]).toArray 42)).drew := below_drewN ((Below.refl _ w).alloc (Nat.le_refl _) _) 1
  have hM2 : MB (w.alloc (.cells (ptV p [1, 2, 4]).toArray 42)).drew p m v := hM.alloc _
  have hO2 : (w.alloc (.cells (ptV p [1, 2, 4]).toArray 42)).drew.ownsRow w.heap.size 42 1 (.slice (some ⟨w.heap.size, 0, none⟩) 3 3) 3 (ptV p [1, 2, 4]) := hO
  clear hO hM
  have hz : w.heap.size < (w.alloc (.cells (ptV p [1, 2, 4]).toArray 42)).drew.heap.size := by show _ < (w.alloc _).heap.size; simp
  simp only [ptV, List.map_cons, List.map_nil] at hB hM2 hO2 hz
  generalize (w.alloc _).drew = w1 at *
  obtain ⟨c0, -, -, -, -, -, -⟩ := hM2.cells
  by_cases k1 : m.k = 1
  · have HF : Hid (bkF m.k = [1, 2, 4] ++ [3]) := by show _ = _; rw [k1]; rfl
    rw [k1] at c0
    clear k1
    go_wp2_with (at_builtin; refine wpList_append_own _ rfl (.tmp 20) (.tmp 24) 43 rfl w.heap.size 42 i0 (.pointer none) 1 8 Try.underlying43 hin hz0 hz1 hz2 rfl (by decide) _ _ _ rfl (hO2.alloc _) ⟨_, 0, none⟩ 1 1 (ptV p [3]) rfl rfl (many_new _ _ _) (ptV_one _ _) (by decide) (by decide) (by simp; omega) ?_; intro v4 w4 ho4 hg4 _)
    go_ret
    refine ⟨_, rfl, ?_, below_app (Nat.le_refl _) hB hO2 hg4⟩
    rw [HF.out]
    exact ho4
  by_cases k3 : m.k = 3
  · have HF : Hid (bkF m.k = [1, 2, 4] ++ [5, 3]) := by show _ = _; rw [k3]; rfl
    rw [k3] at c0
    clear k1 k3
    go_wp2_with fail
    go_region_law ((refine step_append_lies _ (by rfl) (.tmp 28) (.tmp 35) 43 (by rfl) w.heap.size 42 i0 (.pointer none) 1 8 Try.underlying43 hin hz0 hz1 hz2 rfl (by decide) (.slice (some ⟨w.heap.size, 0, none⟩) 3 3) 3 _ (by simp [Act.eval]) (hO2.alloc _) ⟨w1.heap.size, 0, none⟩ 2 2 (ptV p [5, 3]) (by simp [Act.eval]) rfl (many_new _ _ _) (ptV_one _ _) (by decide) (by decide) (by decide) (by simp; omega) (w1.heap.size + 1) (by simp) ?_; intro g4 c4 w4 ho4 hg4 _ _))
    all_goals
      go_wp2_with fail
      go_ret
      refine ⟨_, rfl, ?_, below_appD (Nat.le_refl _) hB hO2 hg4⟩
      rw [HF.out]
      exact ho4
  have HF : Hid (bkF m.k = [1, 2, 4]) := bkF_no k1 k3
  go_wp2_with fail
  go_ret
  refine ⟨_, rfl, ?_, hB⟩
  rw [HF.out]
  exact hO2
end Go.Proofs.Ytgceileakcjmdaa
