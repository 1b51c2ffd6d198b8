/-
  The contracts of the reference's Base, Target and Apply.
-/
import Derived.Test.YtcdnlkhjlgaaoaaGreatDoorDrA
import Derived.Test.YtcdnlkhjlgaaoaaGreatDoorPkRefW
import Derived.Deep.QuietTactic
import Derived.BigQuiet
namespace Go.Proofs.YtcdnlkhjlgaaoaaGreatDoor
open Go.ChangeShapes Go.WideShapes Go.ChangeAt Go.RowKit Go.PlainAid

theorem op_n (s : St) : s.op.n = (s.b : Int) := by cases s <;> rfl

set_option maxRecDepth 20000 in
set_option maxHeartbeats 2000000 in
theorem refBase_any (v : Value) (ds : List OpD) (w : World) (hr : RdD w v ds) (hm : ds.length ≤ maxLen) (hi : ∀ o ∈ ds, o.Sm) :
    Calls Tryz.prog 43 #[v] w fun e w' => e = .returned (.tuple #[.int .i64 (bsum (stR ds) : Int), .int .i64 (chk ds)]) ∧ Below w.heap.size w w' := by
  have hC := refCheck_any v ds w hr hm hi
  by_cases c : chk ds = 0
  · have hbd := stR_bd ds
    have hln := stR_len ds
    have hds := stR_op c
    rw [c] at hC ⊢
    generalize stR ds = l at *
    subst hds
    obtain ⟨ao, cp, rfl, _, hc⟩ := hr
    rw [List.length_map] at *
    clear hi hm c
    go_enter Tryz.func43, Tryz.ntmps43
    go_wp2_with (go_at_call 47; refine hC.mono ?_; rintro e w1 ⟨rfl, hb1⟩)
    clear hC
    go_loopw [5, 6] (fun b i wr => ∃ k : Nat, k ≤ l.length ∧ i = .int .i64 (k : Int) ∧ b = .int .i64 (bsum (l.take k) : Int) ∧ Below w.heap.size w wr) (fun _ i _ => l.length - (intOf i).toNat)
    case atStart => exact ⟨0, by omega, rfl, rfl, hb1⟩
    case round =>
      obtain ⟨k, hk, rfl, rfl, hbl⟩ := hrel
      have hst := (sum_take l k).1
      have b1 : (bsum (l.take k) : Int) ≤ 1000 := by omega
      by_cases hlt : k < l.length
      · have hlt' : (k : Int) < (l.length : Int) := by omega
        have HB : Hid (bsum (l.take (k + 1)) = bsum (l.take k) + (l[k]).b) := bsum_take l k hlt
        have hst2 := (sum_take l (k + 1)).1
        have n1 : ((l[k]).b : Int) ≤ 1000 := by have := HB.out; omega
        obtain ⟨b, off, rfl, hbb, c0, c1, c2⟩ := hc k (l[k]).op (by simp [hlt])
        have hBc : ∀ o, wr.cell? ⟨b, o, none⟩ = w.cell? ⟨b, o, none⟩ := fun o => hbl.cell (p := ⟨b, o, none⟩) hbb
        rw [← hBc] at c0 c1 c2
        rw [op_n] at c1
        clear hBc hc hst hst2 c0 c2
        generalize (l[k]).b = N at *
        generalize bsum (l.take k) = B at *
        go_wp2
        go_roundw
        case rel => exact ⟨k + 1, by omega, by go_num, by rw [HB.out]; go_num, hbl⟩
        case measure => simp [intOf]; omega
      · have e : k = l.length := by omega
        subst e
        rw [List.take_length]
        clear hc hst
        go_wp2
        go_ret2
        exact ⟨rfl, hbl⟩
  · have hne : (chk ds != 0) = true := by simpa using c
    have e0 : bsum (stR ds) = 0 := by rw [chk_no ds c]; rfl
    rw [e0]
    generalize chk ds = x at *
    go_enter Tryz.func43, Tryz.ntmps43
    go_wp2_with (go_at_call 47; refine hC.mono ?_; rintro e w1 ⟨rfl, hb1⟩)
    go_ret2
    exact ⟨rfl, hb1⟩

set_option maxRecDepth 20000 in
theorem slice_mid (b o len cp lo n : Nat) (hn : lo + n ≤ len) (hc : len ≤ cp) (h0 : 0 < n) (W : World) :
    (Instr.slice 69 (.slice (some ⟨b, o, none⟩) len cp) (some (.int .i64 (lo : Int))) (some (.int .i64 ((lo : Int) + (n : Int)))) none).run Tryz.prog W = .ok (.slice (some ⟨b, o + lo, none⟩) n (cp - lo)) W := by
  rw [run_slice_lh (P := Tryz.prog) W 69 (some ⟨b, o, none⟩) len cp Tryz.underlying69 .i64 .i64 (lo : Int) ((lo : Int) + (n : Int)) (by omega) (by omega) (by omega)]
  have e : Tryz.prog.elem 69 = 3 := by kernel_rfl
  rw [e, sizeInt]
  have e2 : ((lo : Int) + (n : Int)).toNat = lo + n := by omega
  simp only [Result.andThen, sliced, Int.toNat_natCast, Option.map_some, Nat.mul_one, addr_add, e2]
  rw [if_neg (by omega), show lo + n - lo = n by omega]

end Go.Proofs.YtcdnlkhjlgaaoaaGreatDoor
