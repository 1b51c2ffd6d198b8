/-
  The law's same and word (layer 24).
-/
import Derived.Test.YtjimolafoihnpaaTrQ
namespace Go.Proofs.Ytjimolafoihnpaa.tc
open Go.Maps Go.ChangeShapes Go.WideShapes Go.ChangeAt Go.RowKit Go.PlainAid

set_option maxRecDepth 20000 in
set_option maxHeartbeats 1000000 in
theorem same24_any (va vb : Value) (L : List (List RunD)) (w : World) (ha : RdL w va L) (hb : RdL w vb L) (hL : L.length ≤ 1048576) (hl : ∀ l ∈ L, l.length ≤ 1048576) :
    Calls Try.prog 10 #[va, vb] w fun e w' => e = .returned (.bool true) ∧ Below w.heap.size w w' := by
  obtain ⟨ao, ca, rfl, -, hac⟩ := ha
  obtain ⟨bo, cb, rfl, -, hbc⟩ := hb
  go_enter Try.func10, Try.ntmps10
  go_wp2_with fail
  go_loopw [5] (fun iv wr => ∃ k : Nat, k ≤ L.length ∧ iv = .int .i64 (k : Int) ∧ Below w.heap.size w wr) (fun iv _ => L.length - (Go.RowKit.intOf iv).toNat)
  case atStart => exact ⟨0, by omega, rfl, Below.refl _ _⟩
  case round =>
    obtain ⟨k, hk, rfl, hb⟩ := hrel
    by_cases hlt : k < L.length
    · have hlt' : (k : Int) < (L.length : Int) := by omega
      have hd : decide ((k : Int) < (L.length : Int)) = true := decide_eq_true hlt'
      have hLk : L[k]? = some L[k] := by simp [hlt]
      obtain ⟨ga, oa, ua, rfl, hga, cua, hra⟩ := hac k _ hLk
      obtain ⟨gb, ob, ub, rfl, hgb, cub, hrb⟩ := hbc k _ hLk
      have hll := hl L[k] (List.getElem_mem hlt)
      have cS := fun s : Beh wr => docSame_true ua ub L[k] s.it (by omega) (hra.below (chain hb s.h)) (hrb.below (chain hb s.h))
      have x0 : ∀ s : Beh wr, s.it.cell? ⟨ga, oa + k, none⟩ = some ua := fun s => ((chain hb s.h).cell (p := ⟨ga, oa + k, none⟩) hga).trans cua
      have x1 : ∀ s : Beh wr, s.it.cell? ⟨gb, ob + k, none⟩ = some ub := fun s => ((chain hb s.h).cell (p := ⟨gb, ob + k, none⟩) hgb).trans cub
      obtain ⟨a1, k1, rfl, -, -⟩ := id hra
      obtain ⟨b1, k2, rfl, -, -⟩ := id hrb
      clear hac hbc hl hra hrb cua cub hLk
      go_wp2_with fail
      refine wp_region_beh (by kernel_rfl) (by kernel_rfl) ?_
      repeat (go_big_quiet_step ((go_at_call 22; exact Beh.call (cS _))))
      refine wpQuiet_nil ?_
      intro wq hw'
      have hwq := Beh.out hw'
      clear hw' x0 x1 cS
      go_wp2_with fail
      exact ⟨⟨k + 1, by omega, by go_num, chain hb hwq⟩, by simp [Go.RowKit.intOf]; omega⟩
    · obtain rfl : k = L.length := by omega
      have hd : decide ((L.length : Int) < (L.length : Int)) = false := by simp
      clear hac hbc hl
      go_wp2_with fail
      go_ret
      exact ⟨by simp, hb⟩
end Go.Proofs.Ytjimolafoihnpaa.tc
