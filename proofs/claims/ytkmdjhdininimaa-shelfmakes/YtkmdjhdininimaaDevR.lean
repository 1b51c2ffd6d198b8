/-
  Contracts: Safe, Read.
-/
import Derived.Test.YtkmdjhdininimaaDev
namespace Go.Proofs.Ytkmdjhdininimaa
open Go.RowKit Go.Maps

def zeroS : Sec := List.replicate 64 0
theorem zeroS_len : zeroS.length = 64 := by simp [zeroS]
def zeroC : List Value := bv zeroS
theorem zeroC_len : zeroC.length = 64 := by simp [zeroC, bv_len, zeroS_len]

/-- Bytes as a text. -/
def mk (l : List UInt8) : ByteArray := ⟨l.toArray⟩

theorem Try.infoB : (Try.prog.info? 63).map (fun i => (i.zero, i.size)) = some (some (.agg zeroC.toArray), 64) := by kernel_rfl
theorem Try.zeroB (u : World) : (zeroValue 63).run Try.prog u = .ok (.agg zeroC.toArray) u := (zero_of_info Try.infoB).1 u
theorem Try.sizeB : (Try.prog.info? 63).map (·.size) = some 64 := (zero_of_info Try.infoB).2
theorem sizeC : (Try.prog.info? 63).map (·.size) = some zeroC.toArray.size := by
  rw [Try.sizeB, List.size_toArray, zeroC_len]
theorem zeroV : Value.agg zeroC.toArray = secV zeroS := rfl

theorem bv_one (s : Sec) : (bv s).toArray.all (·.oneCell') = true := by
  simp [bv, Value.oneCell']

theorem zeroC_one : zeroC.toArray.all (·.oneCell') = true := by unfold zeroC; exact bv_one zeroS

theorem wf_i64 {k : Int} (h0 : -9223372036854775808 ≤ k) (h1 : k ≤ 9223372036854775807) : (Lit.int .i64 k).wf = true := by
  have e0 : IntKind.i64.min = -9223372036854775808 := by decide
  have e1 : IntKind.i64.max = 9223372036854775807 := by decide
  simp only [Lit.wf, e0, e1, h0, h1, decide_true, Bool.and_self]

theorem keyed : Keyed Try.prog 3 := int_keyed Try.underlying3

theorem key_nat (i : Nat) (h : i ≤ 8192) : keyOf Try.prog 3 (.int .i64 (i : Int)) = some (.int .i64 (i : Int)) :=
  keyOf_int_mk Try.underlying3 (wf_i64 (by omega) (by omega))

theorem key_int (k : Int) (h0 : -9223372036854775808 ≤ k) (h1 : k ≤ 9223372036854775807) : keyOf Try.prog 3 (.int .i64 k) = some (.int .i64 k) :=
  keyOf_int_mk Try.underlying3 (wf_i64 (by omega) (by omega))

/-- m[k] of a map of sectors. -/
theorem sec_lookup {w : World} {b N : Nat} {f : SecF} (h : w.ownsMap Try.prog 3 secR b N (DF N f)) (i : Nat) (hi : i < N) (hN : N ≤ 8192) :
    (Instr.lookup 58 (.map (some b)) (.int .i64 (i : Int)) false).run Try.prog w = .ok (secV ((f i).getD zeroS)) w := by
  obtain ⟨v, ps, hrun, hR⟩ := h.lookup keyed Try.underlying58 (Try.zeroB w) (secR_mk zeroS_len) (key_nat i (by omega))
  obtain ⟨s, rfl, _, hz⟩ := secR_inv hR
  rw [hrun]
  cases hf : f i with
  | none =>
    rw [atKey_of_not_has (by rw [has_DF_at]; simp [hf])] at hz
    simp only [Prod.mk.injEq, DataW.lit.injEq, Lit.string.injEq] at hz
    rw [← hz.1]
    rfl
  | some t =>
    rw [atKey_DF hi hf] at hz
    simp only [Prod.mk.injEq, DataW.lit.injEq, Lit.string.injEq] at hz
    rw [← hz.1]
    rfl

/-- v, ok := m[k]. -/
theorem sec_look_ok {w : World} {b N : Nat} {f : SecF} (h : w.ownsMap Try.prog 3 secR b N (DF N f)) (k : Int) (h0 : -9223372036854775808 ≤ k) (h1 : k ≤ 9223372036854775807) :
    ((k < 0 ∨ (N : Int) ≤ k ∨ f k.toNat = none) ∧ (Instr.lookup 58 (.map (some b)) (.int .i64 k) true).run Try.prog w = .ok (.tuple #[secV zeroS, .bool false]) w) ∨
    (∃ s, 0 ≤ k ∧ k < (N : Int) ∧ f k.toNat = some s ∧ (Instr.lookup 58 (.map (some b)) (.int .i64 k) true).run Try.prog w = .ok (.tuple #[secV s, .bool true]) w) := by
  obtain ⟨v, ps, hrun, hR⟩ := h.look_ok keyed Try.underlying58 (Try.zeroB w) (secR_mk zeroS_len) (key_int k h0 h1)
  obtain ⟨s, rfl, _, hz⟩ := secR_inv hR
  by_cases hk : 0 ≤ k ∧ k < (N : Int)
  · obtain ⟨i, rfl⟩ := Int.eq_ofNat_of_zero_le hk.1
    have hi : i < N := by omega
    cases hf : f i with
    | none =>
      left
      refine ⟨.inr (.inr (by simpa using hf)), ?_⟩
      rw [atKey_of_not_has (by rw [has_DF_at]; simp [hf])] at hz
      simp only [Prod.mk.injEq, DataW.lit.injEq, Lit.string.injEq] at hz
      rw [hrun, ← hz.1, has_DF_at, hf]
      simp
    | some t =>
      right
      refine ⟨t, hk.1, hk.2, by simpa using hf, ?_⟩
      rw [atKey_DF hi hf] at hz
      simp only [Prod.mk.injEq, DataW.lit.injEq, Lit.string.injEq] at hz
      rw [hrun, ← hz.1, has_DF_at, hf]
      simp [hi]
  · left
    have hn := not_has_DF N f (k := k) (by omega)
    refine ⟨by omega, ?_⟩
    rw [atKey_of_not_has hn] at hz
    simp only [Prod.mk.injEq, DataW.lit.injEq, Lit.string.injEq] at hz
    rw [hrun, ← hz.1, hn]

/-- A block of bytes as a text. -/
theorem conv_blk (u : World) (s : Sec) (h : s.length = 64) :
    (convert 28 9 (.slice (some ⟨u.heap.size, 0, none⟩) 64 64)).run Try.prog (u.alloc (.cells (bv s).toArray 63)) = .ok (.string (mk s)) (u.alloc (.cells (bv s).toArray 63)) := by
  have := run_convert_bytes_back (P := Try.prog) (u.alloc (.cells (bv s).toArray 63)) 28 9 5 ⟨u.heap.size, 0, none⟩ 64 s Try.underlying28 Try.underlying5 Try.underlying9 (fun j hj => by
    have hadd : (⟨u.heap.size, 0, none⟩ : Addr).add j = ⟨u.heap.size, j, none⟩ := by unfold Addr.add; split <;> simp_all
    rw [hadd, cell_at (heap_alloc_last u _)]
    simp [bv, hj])
  rw [h] at this
  exact this

/-- What is safe of a sector. -/
def DevS.safeAt (s : DevS) (i : Nat) : Sec := (s.safe i).getD zeroS
/-- What is read of a sector. -/
def DevS.readAt (s : DevS) (i : Nat) : Sec := (s.waits i).getD (s.safeAt i)

theorem IsDev.safeLen {w : World} {p bs bw : Nat} {s : DevS} (h : IsDev w p bs bw s) (i : Nat) : (s.safeAt i).length = 64 := by
  unfold DevS.safeAt
  cases hf : s.safe i with
  | none => exact zeroS_len
  | some t => exact h.fs i t hf
theorem IsDev.readLen {w : World} {p bs bw : Nat} {s : DevS} (h : IsDev w p bs bw s) (i : Nat) : (s.readAt i).length = 64 := by
  unfold DevS.readAt
  cases hf : s.waits i with
  | none => exact h.safeLen i
  | some t => exact h.fw i t hf

set_option maxHeartbeats 1000000 in
theorem safe_ok {w : World} {p bs bw : Nat} {s : DevS} (h : IsDev w p bs bw s) (i : Nat) (hi : i < s.n) :
    Calls Try.prog 73 #[.pointer (some ⟨p, 0, none⟩), .int .i64 (i : Int)] w fun e w' => e = .returned (.tuple #[.string (mk (s.safeAt i)), .int .i64 0]) ∧ Below w.heap.size w w' := by
  have hl := sec_lookup h.safe i hi h.hi
  have hcv := fun u => conv_blk u (s.safeAt i) (h.safeLen i)
  have hsz : (bv (s.safeAt i)).length = 64 := by rw [bv_len, h.safeLen]
  have h1 := h.c1
  have hb := has_any h i
  have e : s.inB i = true := by simp [DevS.inB]; omega
  rw [e] at hb
  clear e h
  rw [show (s.safe i).getD zeroS = s.safeAt i from rfl] at hl
  generalize s.safeAt i = t at *
  unfold secV at hl
  go_enter Try.func73, Try.ntmps73
  go_wp2_with (first
    | (go_at_call 29; refine hb.mono ?_; rintro e w' ⟨rfl, rfl⟩)
    | (with_reducible refine at_alloc 63 rfl ?_; refine wpList_alloc_arr rfl 63 rfl zeroC.toArray Try.zeroB ?_)
    | (with_reducible refine at_store 63 _ _ rfl ?_; refine wpList_store_new _ rfl 63 _ _ rfl zeroC.toArray (bv t).toArray rfl rfl rfl (by simpa [hsz] using Try.sizeB) (by simp [zeroC_len, hsz]) (bv_one t) ?_))
  go_ret2
  exact ⟨rfl, (Below.refl _ _).alloc (Nat.le_refl _) _⟩

set_option maxHeartbeats 400000 in
theorem safe_no {w : World} {p bs bw : Nat} {s : DevS} (h : IsDev w p bs bw s) (k : Int) (hk : s.inB k = false) :
    Calls Try.prog 73 #[.pointer (some ⟨p, 0, none⟩), .int .i64 k] w fun e w' => e = .returned (.tuple #[.string ⟨#[]⟩, .int .i64 1]) ∧ w' = w := by
  have hb := has_any h k
  rw [hk] at hb
  clear h hk
  go_enter Try.func73, Try.ntmps73
  go_wp2_with (first | (go_at_call 29; refine hb.mono ?_; rintro e w' ⟨rfl, rfl⟩))
  go_ret2
  exact ⟨rfl, rfl⟩

set_option maxHeartbeats 400000 in
theorem read_down {w : World} {p bs bw : Nat} {s : DevS} (h : IsDev w p bs bw s) (k : Int) (hu : s.up = false) :
    Calls Try.prog 68 #[.pointer (some ⟨p, 0, none⟩), .int .i64 k] w fun e w' => e = .returned (.tuple #[.string ⟨#[]⟩, .int .i64 3]) ∧ w' = w := by
  have hb := up_any h
  rw [hu] at hb
  clear h hu
  go_enter Try.func68, Try.ntmps68
  go_wp2_with (first | (go_at_call 28; refine hb.mono ?_; rintro e w' ⟨rfl, rfl⟩))
  go_ret2
  exact ⟨rfl, rfl⟩

set_option maxHeartbeats 1000000 in
theorem read_waits {w : World} {p bs bw : Nat} {s : DevS} (h : IsDev w p bs bw s) (i : Nat) (hi : i < s.n) (hu : s.up = true) (t : Sec) (hf : s.waits i = some t) :
    Calls Try.prog 68 #[.pointer (some ⟨p, 0, none⟩), .int .i64 (i : Int)] w fun e w' => e = .returned (.tuple #[.string (mk t), .int .i64 0]) ∧ Below w.heap.size w w' := by
  have hN := h.hi
  have hl : (Instr.lookup 58 (.map (some bw)) (.int .i64 (i : Int)) true).run Try.prog w = .ok (.tuple #[secV t, .bool true]) w := by
    rcases sec_look_ok h.waits (i : Int) (by omega) (by omega) with ⟨h1, _⟩ | ⟨t', _, _, h2, h3⟩
    · exfalso
      rcases h1 with h1 | h1 | h1
      · omega
      · omega
      · simp [hf] at h1
    · simp only [Int.toNat_natCast, hf, Option.some.injEq] at h2
      subst h2
      exact h3
  have h64 := h.fw i t hf
  have hcv := fun u => conv_blk u t h64
  have hsz : (bv t).length = 64 := by rw [bv_len, h64]
  have h1 := h.c2
  have hb := up_any h
  rw [hu] at hb
  clear h hu hf hN h64 hi
  unfold secV at hl
  go_enter Try.func68, Try.ntmps68
  go_wp2_with (first
    | (go_at_call 28; refine hb.mono ?_; rintro e w' ⟨rfl, rfl⟩)
    | (with_reducible refine at_alloc 63 rfl ?_; refine wpList_alloc_arr rfl 63 rfl zeroC.toArray Try.zeroB ?_)
    | (with_reducible refine at_store 63 _ _ rfl ?_; refine wpList_store_new _ rfl 63 _ _ rfl zeroC.toArray (bv t).toArray rfl rfl rfl (by simpa [hsz] using Try.sizeB) (by simp [zeroC_len, hsz]) (bv_one t) ?_))
  go_ret2
  exact ⟨rfl, (Below.refl _ _).alloc (Nat.le_refl _) _⟩

set_option maxHeartbeats 1000000 in
/-- Nothing waits there: what Safe answers. -/
theorem read_safe {w : World} {p bs bw : Nat} {s : DevS} (h : IsDev w p bs bw s) (k : Int) (h0 : -9223372036854775808 ≤ k) (h1 : k ≤ 9223372036854775807) (hu : s.up = true) (hf : k < 0 ∨ (s.n : Int) ≤ k ∨ s.waits k.toNat = none) (x : ByteArray) (er : Int)
    (hS : ∀ W, IsDev W p bs bw s → Calls Try.prog 73 #[.pointer (some ⟨p, 0, none⟩), .int .i64 k] W fun e w' => e = .returned (.tuple #[.string x, .int .i64 er]) ∧ Below W.heap.size W w') :
    Calls Try.prog 68 #[.pointer (some ⟨p, 0, none⟩), .int .i64 k] w fun e w' => e = .returned (.tuple #[.string x, .int .i64 er]) ∧ Below w.heap.size w w' := by
  have hl : (Instr.lookup 58 (.map (some bw)) (.int .i64 k) true).run Try.prog w = .ok (.tuple #[secV zeroS, .bool false]) w := by
    rcases sec_look_ok h.waits k h0 h1 with ⟨_, h2⟩ | ⟨t', h2, h3, h4, _⟩
    · exact h2
    · exfalso
      rcases hf with hf | hf | hf
      · omega
      · omega
      · rw [hf] at h4; cases h4
  have cS := hS _ (h.below ((Below.refl w.heap.size w).alloc (Nat.le_refl _) (.cells zeroC.toArray 63)))
  have hz : Value.agg zeroC.toArray = secV zeroS := rfl
  have h2 := h.c2
  have hb := up_any h
  rw [hu] at hb
  clear h hu hf hS h0 h1
  rw [← hz] at hl
  clear hz
  go_enter Try.func68, Try.ntmps68
  go_wp2_with (first
    | (go_at_call 28; refine hb.mono ?_; rintro e w' ⟨rfl, hw⟩; subst hw)
    | (go_at_call 73; refine cS.mono ?_; rintro e w2 ⟨rfl, hb2⟩)
    | (with_reducible refine at_alloc 63 rfl ?_; refine wpList_alloc_arr rfl 63 rfl zeroC.toArray Try.zeroB ?_)
    | (with_reducible refine at_store 63 _ _ rfl ?_; refine wpList_store_new _ rfl 63 _ _ rfl zeroC.toArray zeroC.toArray rfl rfl rfl sizeC rfl zeroC_one ?_))
  go_ret2
  exact ⟨rfl, ((Below.refl _ _).alloc (Nat.le_refl _) _).trans (hb2.mono (by simp))⟩

/-- Read, whatever the number: up. -/
theorem read_ok {w : World} {p bs bw : Nat} {s : DevS} (h : IsDev w p bs bw s) (i : Nat) (hi : i < s.n) (hu : s.up = true) :
    Calls Try.prog 68 #[.pointer (some ⟨p, 0, none⟩), .int .i64 (i : Int)] w fun e w' => e = .returned (.tuple #[.string (mk (s.readAt i)), .int .i64 0]) ∧ Below w.heap.size w w' := by
  have hN := h.hi
  unfold DevS.readAt
  cases hf : s.waits i with
  | some t => exact read_waits h i hi hu t hf
  | none => exact read_safe h i (by omega) (by omega) hu (.inr (.inr (by simpa using hf))) _ _ (fun W hW => safe_ok hW i hi)

theorem read_arg {w : World} {p bs bw : Nat} {s : DevS} (h : IsDev w p bs bw s) (k : Int) (h0 : -9223372036854775808 ≤ k) (h1 : k ≤ 9223372036854775807) (hk : s.inB k = false) (hu : s.up = true) :
    Calls Try.prog 68 #[.pointer (some ⟨p, 0, none⟩), .int .i64 k] w fun e w' => e = .returned (.tuple #[.string ⟨#[]⟩, .int .i64 1]) ∧ Below w.heap.size w w' := by
  refine read_safe h k h0 h1 hu ?_ _ _ (fun W hW => (safe_no hW k hk).mono fun e w' ⟨h1, h2⟩ => ⟨h1, by rw [h2]; exact Below.refl _ _⟩)
  simp only [DevS.inB, Bool.and_eq_false_iff, decide_eq_false_iff_not] at hk
  omega
end Go.Proofs.Ytkmdjhdininimaa
