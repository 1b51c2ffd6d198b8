/-
  The contract of tableOf.
-/
import Derived.Test.YtfhbkaiioiihjaaDoorDiB
import Derived.Deep.RegionWith
import Derived.Laws.MakeOwn
namespace Go.Proofs.YtfhbkaiioiihjaaDoor
open Go.ChangeShapes Go.WideShapes Go.ChangeAt Go.RowKit Go.PlainAid

/-- The table: row i, place j tells what is common from i and j on. -/
structure Tb (W : World) (g : Nat) (A T : List Int) : Prop where
  tab : ∃ F, Tab W g ((A.length + 1) * 1001) F ∧ ∀ i j, i ≤ A.length → j ≤ T.length → F (i * 1001 + j) = lc (A.drop i) (T.drop j)
/-- What tableOf has on its way: the rows from k on are made. -/
structure Tk (F : Nat → Nat) (A T : List Int) (k : Nat) : Prop where
  le : k ≤ A.length
  new : ∀ i j, k ≤ i → i ≤ A.length → j ≤ T.length → F (i * 1001 + j) = lc (A.drop i) (T.drop j)
  old : ∀ q, q < k * 1001 → F q = 0
theorem tk_start (A T : List Int) : Tk (fun _ => 0) A T A.length :=
  ⟨Nat.le_refl _, fun i j h1 h2 _ => by
    have e : i = A.length := by omega
    subst e
    rw [List.drop_length, lc_nil'], fun _ _ => rfl⟩
theorem row_lt {i j n k : Nat} (hj : j ≤ n) (hn : n ≤ 1000) (hi : i < k) : i * 1001 + j < k * 1001 := by omega
theorem row_ge {i j k : Nat} (hi : k < i) : k * 1001 + 1001 ≤ i * 1001 + j := by omega
theorem Tk.step {F G : Nat → Nat} {A T : List Int} {k : Nat} (h : Tk F A T (k + 1)) (hk : k < A.length) (hf : Fi F G (k * 1001) A[k] (A.drop (k + 1)) T 0) : Tk G A T k := by
  refine ⟨by omega, fun i j h1 h2 h3 => ?_, fun q hq => ?_⟩
  · by_cases c : i = k
    · rw [c, hf.new j (Nat.zero_le _) h3, drop_at hk]
    · rw [hf.out _ (Or.inr (row_ge (by omega))), h.new i j (by omega) h2 h3]
  · rw [hf.out q (Or.inl hq), h.old q (Nat.lt_of_lt_of_le hq (Nat.mul_le_mul_right _ (Nat.le_succ k)))]

theorem tab_zero (N : Nat) : tabC N (fun _ => 0) = Array.replicate N (.int .u16 0) := by
  apply Array.ext_getElem?
  intro k
  rw [tabC_get, Array.getElem?_replicate]
  rfl
set_option maxRecDepth 20000 in
theorem Tryd.infoRow : (Tryd.prog.info? 46).map (fun i => (i.zero, i.size, i.bytes)) = some (some (.agg (Array.replicate 1001 (.int .u16 0))), 1001, 2002) := by kernel_rfl
theorem made_rep (z : Value) (n m : Nat) (hm : 0 < m) : madeCells (Array.replicate m z) n = Array.replicate n z := by
  apply Array.ext_getElem?
  intro k
  unfold madeCells
  rw [Array.getElem?_map, Array.getElem?_range, Array.getElem?_replicate]
  by_cases h : k < n
  · rw [if_pos h, if_pos h]
    have : k % m < m := Nat.mod_lt _ hm
    simp [this]
  · rw [if_neg h, if_neg h]
    rfl
theorem make_rows (n : Nat) (hn : n ≤ 1001) (W : World) : (Instr.makeSlice 42 (.int .i64 (n : Int)) (.int .i64 (n : Int))).run Tryd.prog W = .ok (.slice (some ⟨W.heap.size, 0, none⟩) n n) (W.alloc (.cells (tabC (n * 1001) (fun _ => 0)) 46)) := by
  obtain ⟨i0, hi, hz0, hz1, hz2⟩ := info_parts Tryd.infoRow
  have h := run_make (P := Tryd.prog) W 42 46 i0 _ Tryd.underlying42 hi hz0 .i64 .i64 (n : Int) (n : Int) (by omega) (by omega) (by rw [hz2]; omega) (by omega)
  rw [hz1, show (Value.agg (Array.replicate 1001 (Value.int .u16 0))).cells = Array.replicate 1001 (.int .u16 0) from rfl, made_rep _ _ _ (by omega), Int.toNat_natCast, ← tab_zero] at h
  exact h

set_option maxRecDepth 20000 in
set_option maxHeartbeats 1000000 in
theorem tableOf_any {w : World} {vA vT : Value} {A T : List Int} (hA : RdU w vA A) (hT : RdU w vT T) (mA : A.length ≤ 1000) (mT : T.length ≤ 1000) :
    Calls Tryd.prog 19 #[vA, vT] w fun e w' => ∃ g, e = .returned (.slice (some ⟨g, 0, none⟩) (A.length + 1) (A.length + 1)) ∧ Tb w' g A T ∧ Below w.heap.size w w' ∧ w.heap.size ≤ g := by
  obtain ⟨ao, cp, rfl, hc⟩ := hA
  have mA' : (A.length : Int) ≤ 1000 := by omega
  have hmk := make_rows (A.length + 1) (by omega) w
  rw [show ((A.length + 1 : Nat) : Int) = (A.length : Int) + 1 by omega] at hmk
  have t0 : Tab (w.alloc (.cells (tabC ((A.length + 1) * 1001) (fun _ => 0)) 46)) w.heap.size ((A.length + 1) * 1001) (fun _ => 0) := heap_alloc_new w _
  have b0 : Below w.heap.size w (w.alloc (.cells (tabC ((A.length + 1) * 1001) (fun _ => 0)) 46)) := (Below.refl _ w).alloc (Nat.le_refl _) _
  have k0 := tk_start A T
  generalize w.alloc (.cells (tabC ((A.length + 1) * 1001) (fun _ => 0)) 46) = W1 at *
  generalize (fun _ : Nat => 0) = F0 at *
  have cf := fun (F : Nat → Nat) (a : Nat) (p : Int) (B : List Int) (W : World) h1 h2 h3 h4 h5 => fill_any (w0 := w) (w := W) (g := w.heap.size) (a := a) (N := (A.length + 1) * 1001) (F := F) (v := vT) (T := T) (A := B) p hT mT h1 (Nat.le_refl _) h2 h3 h4 h5
  go_enter Tryd.func19, Tryd.ntmps19
  go_wp2_with fail
  clear hmk
  go_loopw [6] (fun i wr => ∃ (k : Nat) (F : Nat → Nat), i = .int .i64 ((k : Int) - 1) ∧ Tab wr w.heap.size ((A.length + 1) * 1001) F ∧ Tk F A T k ∧ Below w.heap.size w wr) (fun i _ => (Go.RowKit.intOf i + 1).toNat)
  case atStart => exact ⟨A.length, _, by go_num, t0, k0, b0⟩
  case round =>
    obtain ⟨k, F, rfl, hG, hF, hB⟩ := hrel
    clear t0 k0 b0
    rcases k with _ | k
    · have e : (((0 : Nat) : Int) - 1) = -1 := by omega
      rw [e]
      clear hc cf
      go_wp2_with fail
      go_ret
      exact ⟨_, rfl, ⟨F, hG, fun i j h1 h2 => hF.new i j (Nat.zero_le _) h1 h2⟩, hB, Nat.le_refl _⟩
    · have e : (((k + 1 : Nat) : Int) - 1) = (k : Int) := by omega
      rw [e]
      have hk := hF.le
      have hk' : k < A.length := by omega
      have hk2 : (k : Int) < (A.length : Int) := by omega
      obtain ⟨b, off, rfl, hlt, cT⟩ := hc k A[k] (by simp [hk'])
      have cT2 : wr.drew.cell? ⟨b, off + k, none⟩ = some (.int .i32 A[k]) := by rw [hB.drew.cell (p := ⟨b, _, none⟩) hlt]; exact cT
      have cf := cf F (k * 1001) A[k] (A.drop (k + 1)) wr.drew hB.drew hG.drew (by omega) (fun j hj => by have := hF.new (k + 1) j (Nat.le_refl _) hk hj; rw [show (k + 1) * 1001 + j = k * 1001 + 1001 + j by omega] at this; exact this) (hF.old _ (row_lt (Nat.le_refl _) mT (by omega)))
      rw [show k * 1001 + 1001 = (k + 1) * 1001 from (Nat.succ_mul k 1001).symm] at cf
      have hk3 : (k : Int) + 1 < (A.length : Int) + 1 := by omega
      have hk4 : (k : Int) < (A.length : Int) + 1 := by omega
      have hwg : IntKind.i64.wrap ((k : Int) + 1) = (k : Int) + 1 := wraps_i64 _ (by omega) (by omega)
      have HS : Hid (∀ G, Fi F G (k * 1001) A[k] (A.drop (k + 1)) T 0 → Tk G A T k) := fun G h => hF.step hk' h
      generalize A[k] = z at *
      clear hF hG cT hc
      go_upto_region 5 with fail
      go_region_with (go_at_call 34; refine cf.mono ?_; rintro e w1 ⟨rfl, G, g1, g2, g3⟩)
      all_goals
        go_wp2_with fail
        exact ⟨⟨k, G, by go_num, g1, HS.out G g2, g3⟩, by simp only [Go.RowKit.intOf]; omega⟩
end Go.Proofs.YtfhbkaiioiihjaaDoor
