/-
  The law TraceParts: its pick; which parts it takes.
-/
import Derived.Test.YtjimolafoihnpaaTsI
import Derived.Test.YtjimolafoihnpaaTsD
import Derived.Test.YtjimolafoihnpaaTrQ
namespace Go.Proofs.Ytjimolafoihnpaa.tc
open Go.Maps Go.ChangeShapes Go.WideShapes Go.ChangeAt Go.RowKit Go.PlainAid

theorem rem_i64 (a : Int) (h0 : 0 ≤ a) : ∃ n : Nat, n < 8 ∧ a.tmod 8 = (n : Int) := by
  refine ⟨(a.tmod 8).toNat, ?_, ?_⟩
  · have := Int.tmod_lt_of_pos a (show (0 : Int) < 8 by omega)
    have := Int.tmod_nonneg 8 h0
    omega
  · have := Int.tmod_nonneg 8 h0
    omega
set_option maxRecDepth 20000 in
set_option maxHeartbeats 400000 in
theorem pick_any (c : Int) (w : World) (hc : InI c) :
    Calls Try.prog 12 #[.int .i64 c, .int .i64 8] w fun e w' => ∃ n : Nat, n < 8 ∧ e = .returned (.int .i64 (n : Int)) ∧ w' = w := by
  obtain ⟨h1, h2⟩ := hc
  by_cases hn : c < 0
  · have w1 : IntKind.i64.wrap (c + 1) = c + 1 := by rw [IntKind.wrap_i64]; omega
    have w2 : IntKind.i64.wrap (-(c + 1)) = -(c + 1) := by rw [IntKind.wrap_i64]; omega
    obtain ⟨n, hn8, e⟩ := rem_i64 (-(c + 1)) (by omega)
    go_enter Try.func12, Try.ntmps12
    go_wp2_with fail
    go_ret
    exact ⟨n, hn8, rfl, rfl⟩
  · obtain ⟨n, hn8, e⟩ := rem_i64 c (by omega)
    go_enter Try.func12, Try.ntmps12
    go_wp2_with fail
    go_ret
    exact ⟨n, hn8, rfl, rfl⟩
/-- Numbers that came in. -/
def RdZ (W : World) (v : Value) (l : List Int) : Prop :=
  ∃ (ao : Option Addr) (cp : Nat), v = .slice ao l.length cp ∧ l.length ≤ cp ∧ ∀ (i : Nat) (z : Int), l[i]? = some z → ∃ b off, ao = some ⟨b, off, none⟩ ∧ b < W.heap.size ∧ W.cell? ⟨b, off + i, none⟩ = some (.int .i64 z)
theorem RdZ.below {W W' : World} {v : Value} {l : List Int} (h : RdZ W v l) (hb : Below W.heap.size W W') : RdZ W' v l := by
  obtain ⟨ao, cp, e, hc, h⟩ := h
  refine ⟨ao, cp, e, hc, fun i z hz => ?_⟩
  obtain ⟨b, off, e1, h1, h2⟩ := h i z hz
  exact ⟨b, off, e1, Nat.lt_of_lt_of_le h1 hb.size, (hb.cell (p := ⟨b, off + i, none⟩) h1).trans h2⟩
/-- Numbers by small bulk. -/
theorem open_isu {H : Type} {enc : TypeId × Value → H} {w : World} {spare : Nat → Bool} {held : Bool} {fuel : Nat} {v : Value} {x : DataW H × List MemPlace}
    (h : DataW.trod enc Try.prog w 0 spare held fuel 29 [v] = some x) (hz : Rows.uptoBulk x.1 ≤ 1048576) :
    ∃ l : List Int, RdZ w v l ∧ (l.length ≤ 1048576 ∧ ∀ z ∈ l, InI z) := by
  obtain ⟨l, ao, cp, e, hc, hk, hr⟩ := open_rowK (α := Int) (fun a cs => cs = [.int .i64 a] ∧ InI a) (fun _ _ => True) Try.underlying29 (show Try.prog.cellsOf 3 = 1 by kernel_rfl) (by decide) (fun h => by
    obtain ⟨a, e, -, hw⟩ := DataW.trod_int Try.underlying3 h
    exact ⟨a, ⟨e, wf_bd hw⟩, trivial⟩) h
  injection e with e
  subst e
  refine ⟨l, ⟨ao, cp, rfl, hc, fun i z hi => ?_⟩, ?_, fun z hz2 => ?_⟩
  · obtain ⟨b, off, cs, e1, h1, ⟨rfl, -⟩, h3⟩ := hr i z hi
    have := h3 0 _ rfl
    rw [Nat.mul_one, Nat.add_zero] at this
    exact ⟨b, off, e1, h1, this⟩
  · rcases hk with rfl | ⟨D, sp, hx, -⟩
    · simp
    · rw [hx, Rows.uptoBulk] at hz
      have := bulk_sum (fun _ : Int => 1) l ((List.range l.length).map D) (by simp) (fun _ _ d _ _ => bulk_pos d)
      have h9 : (l.map fun _ => 1).sum = l.length := by
        generalize l = l
        induction l with
        | nil => rfl
        | cons a l ih => rw [List.map_cons, List.sum_cons, ih, List.length_cons]; omega
      omega
  · obtain ⟨i, hi⟩ := List.mem_iff_getElem?.1 hz2
    obtain ⟨-, -, -, -, -, ⟨-, h2⟩, -⟩ := hr i z hi
    exact h2
theorem flat_sub {α : Type} {a b : List (List α)} (h : a.Sublist b) : a.flatten.Sublist b.flatten := by
  induction h with
  | slnil => simp
  | cons x h ih => rw [List.flatten_cons]; exact ih.trans (List.sublist_append_right _ _)
  | cons_cons x h ih => rw [List.flatten_cons, List.flatten_cons]; exact ih.append_left x
theorem aT_sub {a b : List RunD} (h : a.Sublist b) : (aT a).Sublist (aT b) := flat_sub (h.map _)
theorem sum_sub {α : Type} (f : α → Nat) {a b : List α} (h : a.Sublist b) : (a.map f).sum ≤ (b.map f).sum := by
  induction h with
  | slnil => simp
  | cons x h ih => rw [List.map_cons, List.sum_cons]; omega
  | cons_cons x h ih => rw [List.map_cons, List.map_cons, List.sum_cons, List.sum_cons]; omega
theorem wL_sub {a b : List RunD} (h : a.Sublist b) : wL a ≤ wL b := by
  have := sum_sub wR h
  rw [wL, wL]
  omega
end Go.Proofs.Ytjimolafoihnpaa.tc
