/-
  The contract of unitsOf.
-/
import Derived.Test.YtgabanndjiegdabOtC
import Derived.WalkSmall
import Derived.Lib.OthersKept
namespace Go.Proofs.Ytgabanndjiegdab
open Go.ChangeShapes Go.WideShapes Go.ChangeAt Go.RowKit Go.PlainAid

/-- The operation of one code point. -/
def uop : U → OpD
  | .K => ⟨1, 1, ⟨#[]⟩⟩
  | .R => ⟨3, 1, ⟨#[]⟩⟩
  | .I z => ⟨2, 0, mk (ptB z.toNat)⟩
def iop (z : Int) : OpD := uop (.I z)

/-- unitsOf on its way: k code points of s have been seen. -/
structure Uo (w W : World) (s : ByteArray) (k : Nat) (l : Value) : Prop where
  own : W.ownsRow (w.heap.size + 2) 35 3 l k (ocs ((ptL s k).map iop))
  it : W.heap[w.heap.size + 1]? = some (.stringIter s (pos s k))
  bel : Below w.heap.size w W
  le : w.heap.size + 2 ≤ W.heap.size

/-- As that, when the next code point has been taken. -/
structure Un (w W : World) (s : ByteArray) (k : Nat) (l : Value) : Prop where
  own : W.ownsRow (w.heap.size + 2) 35 3 l k (ocs ((ptL s k).map iop))
  it : W.heap[w.heap.size + 1]? = some (.stringIter s (pos s (k + 1)))
  bel : Below w.heap.size w W
  le : w.heap.size + 2 ≤ W.heap.size

theorem Uo.next {w W : World} {s : ByteArray} {k : Nat} {l : Value} (h : Uo w W s k l) : Un w (W.iterAt (w.heap.size + 1) s (pos s (k + 1))) s k l :=
  ⟨ownsRow_iterAt h.own (by omega) _ _, Lib.iterAt_heap _ _ _ _ _ h.it, h.bel.trans ⟨rfl, rfl, rfl, by simp [World.iterAt], fun j hj => Lib.iterAt_other _ _ _ _ _ (by omega)⟩, by have := h.le; simp [World.iterAt]; omega⟩
theorem Un.below {w W W' : World} {s : ByteArray} {k : Nat} {l : Value} (h : Un w W s k l) (hb : Below W.heap.size W W') : Un w W' s k l :=
  ⟨own_belowG h.own hb, (hb.block _ (heap_lt h.it)).trans h.it, h.bel.trans (hb.mono (by have := h.le; omega)), Nat.le_trans h.le hb.size⟩
theorem un_app {w W W' : World} {s : ByteArray} {k : Nat} {l l' : Value} {x : Obj} (h : Un w W s k l)
    (ho : W'.ownsRow (w.heap.size + 2) 35 3 l' (k + 1) (ocs ((ptL s k).map iop) ++ [Value.int .i64 2, .int .i64 0, .string (mk (ptB (pt s k).toNat))])) (hg : (W.alloc x).grownBy W' l.ownBlock) : Uo w W' s (k + 1) l' := by
  have hle := h.le
  have hs := hg.size
  rw [World.size_alloc] at hs
  have hit : (W.alloc x).heap[w.heap.size + 1]? = some (.stringIter s (pos s (k + 1))) := (Below.heap_alloc W x _ (heap_lt h.it)).trans h.it
  refine ⟨?_, ?_, ?_, by omega⟩
  · have := own_op (L := (ptL s k).map iop) (o := iop (pt s k)) ho (by rw [List.length_map, ptL_length])
    rw [ptL_succ, List.map_append]
    rw [List.length_append, List.length_map, ptL_length] at this
    exact this
  · rw [hg.block _ (heap_lt hit) (fun e => by have := (h.own.lt _ e.symm).1; omega)]
    exact hit
  · exact (h.bel.alloc (by omega) x).grown hg (by simp; omega) (fun j hj => by have := (h.own.lt j hj).1; omega)

theorem src_new (W : World) (o : OpD) : ∀ j v, (ocs [o])[j]? = some v → (W.alloc (.cells #[.int .i64 o.k, .int .i64 o.n, .string o.t] 35)).cell? ((⟨W.heap.size, 0, none⟩ : Addr).add j) = some v := by
  intro j v h
  rw [ocs_one] at h
  exact many_new W _ 35 j v h

theorem ocs_rep (n : Nat) (u : U) : (List.replicate n u).map uop = List.replicate n (uop u) := by simp

set_option maxRecDepth 20000 in
set_option maxHeartbeats 1500000 in
theorem unitsOf_num (k : Int) (hk : k ≠ 2) (n : Nat) (w : World) (h0 : 1 ≤ n) (hn : n ≤ 1000) :
    Calls Try.prog 59 #[.agg #[.int .i64 k, .int .i64 (n : Int), .string ⟨#[]⟩]] w fun e w' => ∃ u, e = .returned u ∧ w'.ownsRow w.heap.size 35 3 u n (ocs (List.replicate n ⟨k, 1, ⟨#[]⟩⟩)) ∧ Below w.heap.size w w' := by
  have hk' : (k != 2) = true := by simpa using hk
  have hB : Below w.heap.size w ((w.alloc (.cells #[.int .i64 k, .int .i64 (n : Int), .string ⟨#[]⟩] 35)).alloc (.cells #[.int .i64 k, .int .i64 1, .string ⟨#[]⟩] 35)) := ((Below.refl _ w).alloc (Nat.le_refl _) _).alloc (by simp) _
  have hsz : ((w.alloc (.cells #[.int .i64 k, .int .i64 (n : Int), .string ⟨#[]⟩] 35)).alloc (.cells #[.int .i64 k, .int .i64 1, .string ⟨#[]⟩] 35)).heap.size = w.heap.size + 2 := by simp
  have hC := repeat_any ⟨(w.alloc (.cells #[.int .i64 k, .int .i64 (n : Int), .string ⟨#[]⟩] 35)).heap.size, 0, none⟩ 1 ⟨k, 1, ⟨#[]⟩⟩ n ((w.alloc (.cells #[.int .i64 k, .int .i64 (n : Int), .string ⟨#[]⟩] 35)).alloc (.cells #[.int .i64 k, .int .i64 1, .string ⟨#[]⟩] 35)) h0 (by omega) (src_new _ ⟨k, 1, ⟨#[]⟩⟩) (by simp)
  rw [World.size_alloc] at hC
  go_enter Try.func59, Try.ntmps59
  go_wp2_with (go_at_call 63; refine hC.mono ?_; rintro e w1 ⟨u, rfl, ho1, hb1⟩)
  go_ret
  exact ⟨u, rfl, own_lower ho1 (by omega), hB.trans (hb1.mono (by omega))⟩

def lenV : Value → Nat
  | .slice _ n _ => n
  | _ => 0

set_option maxRecDepth 20000 in
set_option maxHeartbeats 1500000 in
theorem unitsOf_ins (s : ByteArray) (w : World) (h0 : 0 < cpl s) (hs : s.size ≤ 1048576) :
    Calls Try.prog 59 #[.agg #[.int .i64 2, .int .i64 0, .string s]] w fun e w' => ∃ u, e = .returned u ∧ w'.ownsRow w.heap.size 35 3 u (cpl s).toNat (ocs ((pts s).map iop)) ∧ Below w.heap.size w w' := by
  obtain ⟨i0, hin, hz0, hz1, hz2⟩ := info_parts Try.infoOp
  have hv := cpl_valid (s := s) (by omega)
  unfold pts
  generalize (cpl s).toNat = n at *
  have hnp := pos_le hv.1 n (Nat.le_refl _)
  clear h0
  have hU : Uo w ((w.alloc (.cells #[.int .i64 2, .int .i64 0, .string s] 35)).iter s 0) s 0 (.slice none 0 0) :=
    ⟨World.ownsRow_nil _ _ _ _, by have := World.iter_heap (w.alloc (.cells #[.int .i64 2, .int .i64 0, .string s] 35)) s 0; rw [World.size_alloc] at this; exact this, ((Below.refl _ w).alloc (Nat.le_refl _) _).alloc (by simp) _, by show _ ≤ (World.alloc _ _).heap.size; simp⟩
  go_enter Try.func59, Try.ntmps59
  go_wp2_with fail
  go_loopw [3, 5] (fun l _ wr => ∃ k : Nat, k ≤ n ∧ Uo w wr s k l) (fun l _ _ => n - lenV l)
  case atStart => exact ⟨0, by omega, hU⟩
  case round =>
    obtain ⟨k, hk, hu⟩ := hrel
    clear hU
    obtain ⟨ao, cp, rfl⟩ := own_form hu.own
    by_cases hlt : k < n
    · have h1 := (hv.1 k hlt).1
      have hd := dec_pos hv hlt
      have henc := enc_rune hd.2.2
      have hnx : ∀ ty, (Instr.next (.pointer (some ⟨w.heap.size + 1, 0, none⟩)) true ty).run Try.prog wr = _ := fun ty => Lib.run_next_any_at wr (w.heap.size + 1) s (pos s k) ty hu.it h1
      rw [hd.2.1, hd.1] at hnx
      have hM := hu.next
      clear hd h1 hu
      have hkk : k ≤ 1048576 := by omega
      generalize hW : wr.iterAt (w.heap.size + 1) s (pos s (k + 1)) = W1 at *
      clear hW hv hs
      go_wp2_with (first | (go_at_call 37; refine (otIns_any _ _).mono ?_; rintro e w1 ⟨rfl, hb1⟩; have hM := hM.below hb1; clear hb1) | (at_builtin; refine wpList_append_own _ rfl (.tmp 22) (.tmp 26) 22 rfl (w.heap.size + 2) 35 i0 (.agg #[.int .i64 0, .int .i64 0, .string ⟨#[]⟩]) 3 32 Try.underlying22 hin hz0 hz1 hz2 rfl (by decide) _ k _ rfl (hM.own.alloc _) ⟨_, 0, none⟩ 1 1 [.int .i64 2, .int .i64 0, .string (mk (ptB (pt s k).toNat))] rfl rfl (many_new _ _ _) (three_one _ _ _) (by unfold maxLen; omega) (by omega) (by have := hM.le; simp; omega) ?_; intro v2 w2 ho2 hg2 _; have hM2 := un_app hM ho2 hg2; clear ho2 hg2 hM))
      obtain ⟨ao2, cp2, rfl⟩ := own_form hM2.own
      exact ⟨⟨k + 1, by omega, hM2⟩, by simp only [lenV]; omega⟩
    · obtain rfl : k = n := by omega
      have hne : ¬ pos s k < s.size := by rw [hv.2]; omega
      have hnx : ∀ ty, (Instr.next (.pointer (some ⟨w.heap.size + 1, 0, none⟩)) true ty).run Try.prog wr = _ := fun ty => Lib.run_next_end_at wr (w.heap.size + 1) s (pos s k) ty hu.it hne
      clear hv hnp
      go_wp2_with fail
      go_ret
      exact ⟨_, rfl, own_lower hu.own (by omega), hu.bel⟩

theorem size_small {s : ByteArray} (h0 : 0 < cpl s) (h : cpl s ≤ 1000) : s.size ≤ 4000 := by
  have := size_cpl h0
  omega

/-- unitsOf of a step. -/
theorem unitsOf_any (s : St) (w : World) (ho : s.Ok) (hc : s.c ≤ 1000) :
    Calls Try.prog 59 #[s.op.val] w fun e w' => ∃ u, e = .returned u ∧ w'.ownsRow w.heap.size 35 3 u s.u.length (ocs (s.u.map uop)) ∧ Below w.heap.size w w' := by
  cases s with
  | keep n =>
    simp only [St.u, ocs_rep, List.length_replicate]
    exact unitsOf_num 1 (by decide) n w ho.1 ho.2
  | rem n =>
    simp only [St.u, ocs_rep, List.length_replicate]
    exact unitsOf_num 3 (by decide) n w ho.1 ho.2
  | ins t =>
    have h1 : cpl t ≤ 1000 := by simp only [St.c] at hc; omega
    have h2 := size_small ho.1 h1
    have h3 := unitsOf_ins t w ho.1 (by omega)
    simp only [St.u, List.length_map, List.map_map]
    rw [show (pts t).length = (cpl t).toNat by unfold pts; exact ptL_length _ _]
    exact h3
end Go.Proofs.Ytgabanndjiegdab
