/-
  Is a device empty?
-/
import Derived.Test.YtkmdjhdininimaaShK
namespace Go.Proofs.Ytkmdjhdininimaa
open Go.RowKit Go.Maps

section
variable {P : Program} {ops : Array Oper} {rest : List Oper} {o : Oper} {a : Act} {w : World} {Q : Exit → Act → World → Prop}
theorem at_build (t : TypeId) (ps : Array (Nat × Operand)) (_ : o.op = .build t ps) (h : wpList P ops Q (o :: rest) a w) : wpList P ops Q (o :: rest) a w := h
theorem wpList_build_zero (hg : o.guard = none) (t : TypeId) (ho : o.op = .build t #[]) (z : Array Value) (hz : P.built t [] = some z) (h : wpList P ops Q rest (a.put o.dst (.agg z)) w) : wpList P ops Q (o :: rest) a w := by
  refine wpList_build hg t #[] ho ?_ ?_
  · simp [hz]
  · simpa [hz] using h
end
theorem Try.builtH : Try.prog.built 81 [] = some zeroC.toArray := by kernel_rfl
/-- Nothing waits, and all sectors are zeros. -/
def DevS.emp (s : DevS) : Bool := s.keys.isEmpty && (List.range s.n).all fun i => s.readAt i == zeroS

set_option maxRecDepth 20000 in
set_option maxHeartbeats 2000000 in
theorem sempty_any {w : World} {q p bs bw : Nat} {s : DevS} {age : Int} {lost : Bool} (h : IsDev w p bs bw s) (hs : SB w q p age lost) (hu : s.up = true) :
    Calls Try.prog 35 #[.pointer (some ⟨q, 0, none⟩)] w fun e w' => e = .returned (.bool s.emp) ∧ Below w.heap.size w w' := by
  have cW := waiting_any h
  have q0 := hs.cells.1
  have hn8 := h.hi
  have hgd := Try.noGuardH
  cases hk : s.keys with
  | cons k0 ks =>
    have he : s.emp = false := by simp [DevS.emp, hk]
    rw [he]
    have hpos : 0 < ((s.keys.length : Nat) : Int) := by rw [hk]; simp
    clear he hk
    go_enter Try.func35, Try.ntmps35
    go_wp2_with (first
      | (go_at_call 16; refine cW.mono ?_; rintro e w1 ⟨v, rfl, hrow, _, hb1⟩; obtain ⟨ao, cp, rfl⟩ := own_formS hrow))
    go_ret
    exact ⟨rfl, hb1⟩
  | nil =>
    have he : s.emp = (List.range s.n).all fun i => s.readAt i == zeroS := by simp [DevS.emp, hk]
    rw [he]
    have hk0 : s.keys.length = 0 := by rw [hk]; rfl
    rw [hk0] at cW
    clear he hk hk0
    go_enter Try.func35, Try.ntmps35
    go_wp2_with (first
      | (go_at_call 16; refine cW.mono ?_; rintro e w1 ⟨v, rfl, hrow, _, hb1⟩; obtain ⟨ao, cp, rfl⟩ := own_formS hrow; have h1 := h.below hb1; have q1 := (hs.below hb1).cells.1)
      | (go_at_call 52; refine (sectors_any h1).mono ?_; rintro e w' ⟨rfl, hw⟩; rw [hw]; clear hw w'))
    clear cW
    go_loopw [16] (fun i wr => ∃ k : Nat, k ≤ s.n ∧ i = .int .i64 (k : Int) ∧ (∀ j, j < k → s.readAt j = zeroS) ∧ Below w.heap.size w wr)
      (fun i _ => s.n - (intOf i).toNat)
    case atStart => exact ⟨0, Nat.zero_le _, rfl, fun j hj => by omega, hb1⟩
    case round =>
      obtain ⟨k, hk, rfl, hall, hB⟩ := hrel
      by_cases hlt : k < s.n
      · have hlt' : (k : Int) < (s.n : Int) := by omega
        have hdk := h.below hB
        have cG := sread_ok hdk (hs.below hB) k hlt hu
        have heq : ∀ w, (Op.equalIn 10000 81 (.agg (bv (s.readAt k)).toArray) (.agg zeroC.toArray)).run Try.prog w = .ok (s.readAt k == zeroS) w := fun w => run_equalIn_bytes w 9998 81 5 64 Try.underlying81 Try.underlying5 Try.sizeU (s.readAt k) zeroS (hdk.readLen k) zeroS_len
        by_cases hzk : s.readAt k = zeroS
        · have hb : (s.readAt k == zeroS) = true := by simpa using hzk
          rw [hb] at heq
          clear hb
          have hall' : ∀ j, j < k + 1 → s.readAt j = zeroS := fun j hj => by
            by_cases e : j = k
            · rw [e]; exact hzk
            · exact hall j (by omega)
          clear hzk hall
          generalize s.readAt k = t at cG heq
          go_wp2_with (first
            | (go_at_call 53; refine cG.mono ?_; rintro e w2 ⟨rfl, hb2⟩)
            | (with_reducible refine at_build 81 _ rfl ?_; refine wpList_build_zero rfl 81 rfl zeroC.toArray Try.builtH ?_))
          have hB2 : Below w.heap.size w w2 := hB.trans (hb2.mono hB.size)
          go_roundw
          case rel => exact ⟨k + 1, by omega, by go_num, hall', hB2⟩
          case measure => simp [intOf]; omega
        · have hb : (s.readAt k == zeroS) = false := by simpa using hzk
          rw [hb] at heq
          clear hb
          have hA : ((List.range s.n).all fun i => s.readAt i == zeroS) = false := by
            rw [List.all_eq_false]
            exact ⟨k, List.mem_range.2 hlt, by simpa using hzk⟩
          clear hzk hall
          generalize s.readAt k = t at cG heq
          go_wp2_with (first
            | (go_at_call 53; refine cG.mono ?_; rintro e w2 ⟨rfl, hb2⟩)
            | (with_reducible refine at_build 81 _ rfl ?_; refine wpList_build_zero rfl 81 rfl zeroC.toArray Try.builtH ?_))
          have hB2 : Below w.heap.size w w2 := hB.trans (hb2.mono hB.size)
          go_ret
          exact ⟨by rw [hA]; rfl, hB2⟩
      · obtain rfl : k = s.n := by omega
        have hlt' : ¬ (s.n : Int) < (s.n : Int) := by omega
        have hA : ((List.range s.n).all fun i => s.readAt i == zeroS) = true := by
          rw [List.all_eq_true]
          intro j hj
          simpa using hall j (List.mem_range.1 hj)
        clear hall
        go_wp2_with fail
        go_ret
        exact ⟨rfl, hB⟩
end Go.Proofs.Ytkmdjhdininimaa
