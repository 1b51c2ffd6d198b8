/-
  empty, New.
-/
import Derived.Test.YtblhmfkohbdmeaaWalB
import Derived.Stop.BytesEq
namespace Go.Proofs.Ytblhmfkohbdmeaa
open Go.RowKit Go.Maps

theorem Try.infoU : (Try.prog.info? 5).map (fun i => (i.zero, i.size, i.bytes)) = some (some (.int .u8 0), 1, 1) := by kernel_rfl
theorem Try.sizeU (w : World) : (sizeOf 5).run Try.prog w = .ok 1 w := by
  obtain ⟨i0, hi, hz0, hz1, hz2⟩ := info_parts Try.infoU
  simp [sizeOf, typeInfo, hi, hz1]

/-- Blocks are compared. -/
theorem eq_blocks (xs ys : Sec) (hx : xs.length = 64) (hy : ys.length = 64) (w : World) : (Op.equalIn 10000 97 (.agg (bv xs).toArray) (.agg (bv ys).toArray)).run Try.prog w = .ok (xs == ys) w :=
  run_equalIn_bytes w 9998 97 5 64 Try.underlying97 Try.underlying5 Try.sizeU xs ys hx hy
theorem Try.noGuard : Try.prog.eqGuardType Try.prog.depth 97 = false := by kernel_rfl

section
variable {P : Program} {ops : Array Oper} {rest : List Oper} {o : Oper} {a : Act} {w : World} {Q : Exit → Act → World → Prop}
theorem at_build (t : TypeId) (ps : Array (Nat × Operand)) (_ : o.op = .build t ps) (h : wpList P ops Q (o :: rest) a w) : wpList P ops Q (o :: rest) a w := h
theorem wpList_build_zero (hg : o.guard = none) (t : TypeId) (ho : o.op = .build t #[]) (z : Array Value) (hz : P.built t [] = some z) (h : wpList P ops Q rest (a.put o.dst (.agg z)) w) : wpList P ops Q (o :: rest) a w := by
  refine wpList_build hg t #[] ho ?_ ?_
  · simp [hz]
  · simpa [hz] using h
end
theorem Try.builtW : Try.prog.built 97 [] = some zeroC.toArray := by kernel_rfl

/-- Nothing waits, and all sectors are zeros. -/
def DevS.empty (s : DevS) : Bool := s.keys.isEmpty && (List.range s.n).all fun i => s.readAt i == zeroS

set_option maxRecDepth 20000 in
set_option maxHeartbeats 2000000 in
theorem empty_any {w : World} {p bs bw : Nat} {s : DevS} (h : IsDev w p bs bw s) (hu : s.up = true) :
    Calls Try.prog 38 #[.pointer (some ⟨p, 0, none⟩)] w fun e w' => e = .returned (.bool s.empty) ∧ Below w.heap.size w w' := by
  have cW := waiting_any h
  have hn8 := h.hi
  have hgd := Try.noGuard
  cases hk : s.keys with
  | cons k0 ks =>
    have he : s.empty = false := by simp [DevS.empty, hk]
    rw [he]
    have hpos : 0 < ((s.keys.length : Nat) : Int) := by rw [hk]; simp
    clear he hk
    go_enter Try.func38, Try.ntmps38
    go_wp2_with (first
      | (go_at_call 17; refine cW.mono ?_; rintro e w1 ⟨v, rfl, hrow, _, hb1⟩; obtain ⟨ao, cp, rfl, _⟩ := own_shape hrow))
    go_ret
    exact ⟨rfl, hb1⟩
  | nil =>
    have he : s.empty = (List.range s.n).all fun i => s.readAt i == zeroS := by simp [DevS.empty, hk]
    rw [he]
    have hk0 : s.keys.length = 0 := by rw [hk]; rfl
    rw [hk0] at cW
    clear he hk hk0
    go_enter Try.func38, Try.ntmps38
    go_wp2_with (first
      | (go_at_call 17; refine cW.mono ?_; rintro e w1 ⟨v, rfl, hrow, _, hb1⟩; obtain ⟨ao, cp, rfl, _⟩ := own_shape hrow; have h1 := h.below hb1)
      | (go_at_call 57; refine (sectors_any h1).mono ?_; rintro e w' ⟨rfl, hw⟩; rw [hw]; clear hw w'))
    clear cW
    go_loopw [10] (fun i wr => ∃ k : Nat, k ≤ s.n ∧ i = .int .i64 (k : Int) ∧ (∀ j, j < k → s.readAt j = zeroS) ∧ Below w.heap.size w wr)
      (fun i _ => s.n - (intOf i).toNat)
    case atStart => exact ⟨0, Nat.zero_le _, rfl, fun j hj => by omega, hb1⟩
    case round =>
      obtain ⟨k, hk, rfl, hall, hB⟩ := hrel
      by_cases hlt : k < s.n
      · have hlt' : (k : Int) < (s.n : Int) := by omega
        have hdk := h.below hB
        have cG := get_any hdk k hlt hu
        have heq : ∀ w, (Op.equalIn 10000 97 (.agg (bv (s.readAt k)).toArray) (.agg zeroC.toArray)).run Try.prog w = .ok (s.readAt k == zeroS) w := eq_blocks (s.readAt k) zeroS (hdk.readLen k) zeroS_len
        by_cases hzk : s.readAt k = zeroS
        · have hb : (s.readAt k == zeroS) = true := by simpa using hzk
          rw [hb] at heq
          clear hb
          have hall' : ∀ j, j < k + 1 → s.readAt j = zeroS := fun j hj => by
            by_cases e : j = k
            · rw [e]; exact hzk
            · exact hall j (by omega)
          clear hzk hall
          generalize s.readAt k = t at cG heq
          go_wp2_with (first
            | (go_at_call 58; refine cG.mono ?_; rintro e w2 ⟨rfl, hb2⟩)
            | (with_reducible refine at_build 97 _ rfl ?_; refine wpList_build_zero rfl 97 rfl zeroC.toArray Try.builtW ?_))
          have hB2 : Below w.heap.size w w2 := hB.trans (hb2.mono hB.size)
          go_roundw
          case rel => exact ⟨k + 1, by omega, by go_num, hall', hB2⟩
          case measure => simp [intOf]; omega
        · have hb : (s.readAt k == zeroS) = false := by simpa using hzk
          rw [hb] at heq
          clear hb
          have hA : ((List.range s.n).all fun i => s.readAt i == zeroS) = false := by
            rw [List.all_eq_false]
            exact ⟨k, List.mem_range.2 hlt, by simpa using hzk⟩
          clear hzk hall
          generalize s.readAt k = t at cG heq
          go_wp2_with (first
            | (go_at_call 58; refine cG.mono ?_; rintro e w2 ⟨rfl, hb2⟩)
            | (with_reducible refine at_build 97 _ rfl ?_; refine wpList_build_zero rfl 97 rfl zeroC.toArray Try.builtW ?_))
          have hB2 : Below w.heap.size w w2 := hB.trans (hb2.mono hB.size)
          go_ret
          exact ⟨by rw [hA]; rfl, hB2⟩
      · obtain rfl : k = s.n := by omega
        have hlt' : ¬ (s.n : Int) < (s.n : Int) := by omega
        have hA : ((List.range s.n).all fun i => s.readAt i == zeroS) = true := by
          rw [List.all_eq_true]
          intro j hj
          simpa using hall j (List.mem_range.1 hj)
        clear hall
        go_wp2_with fail
        go_ret
        exact ⟨rfl, hB⟩

/-- What New answers on a device. -/
def newE (s : DevS) : Int := if fitE s ≠ 0 then fitE s else if s.empty then 0 else 40

set_option maxHeartbeats 400000 in
theorem wnew_nil (w : World) : Calls Try.prog 16 #[.pointer none] w fun e w' => e = .returned (.tuple #[.pointer none, .int .i64 1]) ∧ w' = w := by
  have cF := fit_nil (w := w)
  go_enter Try.func16, Try.ntmps16
  go_wp2_with (first | (go_at_call 37; refine cF.mono ?_; rintro e w' ⟨rfl, hw⟩; rw [hw]; clear hw w'))
  go_ret2
  exact ⟨rfl, rfl⟩

set_option maxHeartbeats 400000 in
theorem wnew_no {w : World} {p bs bw : Nat} {s : DevS} (h : IsDev w p bs bw s) (he : newE s ≠ 0) :
    Calls Try.prog 16 #[.pointer (some ⟨p, 0, none⟩)] w fun e w' => e = .returned (.tuple #[.pointer none, .int .i64 (newE s)]) ∧ Below w.heap.size w w' := by
  have cF := fit_any h
  unfold newE at *
  by_cases hf : fitE s ≠ 0
  · rw [if_pos hf] at *
    have hb : (fitE s != 0) = true := by simpa using hf
    clear he hf h
    generalize fitE s = f at *
    go_enter Try.func16, Try.ntmps16
    go_wp2_with (first | (go_at_call 37; refine cF.mono ?_; rintro e w' ⟨rfl, hw⟩; rw [hw]; clear hw w'))
    go_ret2
    exact ⟨rfl, Below.refl _ _⟩
  · rw [if_neg hf] at *
    have hf0 : fitE s = 0 := by simpa using hf
    have hu : s.up = true := by
      unfold fitE at hf0
      cases hu : s.up with
      | true => rfl
      | false => rw [hu, if_pos rfl] at hf0; omega
    have cE := empty_any h hu
    cases hem : s.empty with
    | true => rw [hem] at he; simp at he
    | false =>
      rw [hem] at cE
      rw [hf0] at cF
      clear he hf hf0 h hu hem
      go_enter Try.func16, Try.ntmps16
      go_wp2_with (first | (go_at_call 37; refine cF.mono ?_; rintro e w' ⟨rfl, hw⟩; rw [hw]; clear hw w') | (go_at_call 38; refine cE.mono ?_; rintro e w1 ⟨rfl, hb1⟩))
      go_ret2
      exact ⟨rfl, hb1⟩

set_option maxHeartbeats 400000 in
theorem wnew_ok {w : World} {p bs bw : Nat} {s : DevS} (h : IsDev w p bs bw s) (he : newE s = 0) :
    Calls Try.prog 16 #[.pointer (some ⟨p, 0, none⟩)] w fun e w' => ∃ r, e = .returned (.tuple #[.pointer (some ⟨r, 0, none⟩), .int .i64 0]) ∧ IsWal w' r p s.age false ∧ w.heap.size ≤ r ∧ Below w.heap.size w w' := by
  have cF := fit_any h
  unfold newE at he
  by_cases hf : fitE s ≠ 0
  · rw [if_pos hf] at he
    exact absurd he hf
  · rw [if_neg hf] at he
    have hf0 : fitE s = 0 := by simpa using hf
    have hu : s.up = true := by
      unfold fitE at hf0
      cases hu : s.up with
      | true => rfl
      | false => rw [hu, if_pos rfl] at hf0; omega
    have cE := empty_any h hu
    cases hem : s.empty with
    | false => rw [hem] at he; simp at he
    | true =>
      rw [hem] at cE
      rw [hf0] at cF
      clear he hf hf0 hu hem
      go_enter Try.func16, Try.ntmps16
      go_wp2_with (first
        | (go_at_call 37; refine cF.mono ?_; rintro e w' ⟨rfl, hw⟩; rw [hw]; clear hw w')
        | (go_at_call 38; refine cE.mono ?_; rintro e w1 ⟨rfl, hb1⟩; have h1 := h.below hb1)
        | (go_at_call 39; refine (age_any h1).mono ?_; rintro e w' ⟨rfl, hw⟩; rw [hw]; clear hw w'))
      go_ret2
      exact ⟨w1.heap.size, rfl, heap_alloc_last w1 _, hb1.size, hb1.trans ((Only.alloc [] w1 _).below hb1.size (by simp))⟩
end Go.Proofs.Ytblhmfkohbdmeaa
