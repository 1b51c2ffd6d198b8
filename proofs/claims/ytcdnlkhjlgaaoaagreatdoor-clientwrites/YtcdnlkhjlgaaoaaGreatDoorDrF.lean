/-
  The contracts of the reference's Target and put.
-/
import Derived.Test.YtcdnlkhjlgaaoaaGreatDoorDrE
import Derived.Test.YtcdnlkhjlgaaoaaGreatDoorDrB
import Derived.Laws.OwnMore
import Derived.StillTail
import Derived.StillTactics
namespace Go.Proofs.YtcdnlkhjlgaaoaaGreatDoor
open Go.ChangeShapes Go.WideShapes Go.ChangeAt Go.RowKit Go.PlainAid

theorem Tryz.mixedR : Tryz.prog.follows .mixedOrders = true := by kernel_rfl
theorem region_tailR {P : Program} {id : Nat} {Q : Exit → Act → World → Prop} {a : Act} {w : World} {l : List Oper} (n : Nat) (hm : P.follows .mixedOrders = true) (hB : Region.lexTailB .any l.toArray n = true)
    (h : wpStill P l.toArray w.drew (fun a' => wpList P l.toArray Q (l.drop n) a' w.drew) (l.take n) a) : (Code.region id l.toArray true).wp P Q a w :=
  wp_region_still_tail n hm hB h

set_option maxRecDepth 20000 in
set_option maxHeartbeats 2000000 in
theorem refTarget_any (v : Value) (ds : List OpD) (w : World) (hr : RdD w v ds) (hm : ds.length ≤ maxLen) (hi : ∀ o ∈ ds, o.Sm) :
    Calls Tryz.prog 44 #[v] w fun e w' => e = .returned (.tuple #[.int .i64 (tsum (stR ds) : Int), .int .i64 (chk ds)]) ∧ Below w.heap.size w w' := by
  have hC := refCheck_any v ds w hr hm hi
  by_cases c : chk ds = 0
  · have hbd := stR_bd ds
    have hln := stR_len ds
    have hds := stR_op c
    have hok := stR_ok (fun o ho => sm_in (hi o ho))
    rw [c] at hC ⊢
    generalize stR ds = l at *
    subst hds
    obtain ⟨ao, cp, rfl, _, hc⟩ := hr
    rw [List.length_map] at *
    clear hm c
    go_enter Tryz.func44, Tryz.ntmps44
    go_wp2_with (go_at_call 47; refine hC.mono ?_; rintro e w1 ⟨rfl, hb1⟩)
    clear hC
    go_loopw [5, 6] (fun b i wr => ∃ k : Nat, k ≤ l.length ∧ i = .int .i64 (k : Int) ∧ b = .int .i64 (tsum (l.take k) : Int) ∧ Below w.heap.size w wr) (fun _ i _ => l.length - (intOf i).toNat)
    case atStart => exact ⟨0, by omega, rfl, rfl, hb1⟩
    case round =>
      obtain ⟨k, hk, rfl, rfl, hbl⟩ := hrel
      have hst := (sum_take l k).2
      have hsz := hbl.size
      have b1 : (tsum (l.take k) : Int) ≤ 1000 := by omega
      by_cases hlt : k < l.length
      · have hlt' : (k : Int) < (l.length : Int) := by omega
        have HB : Hid (tsum (l.take (k + 1)) = tsum (l.take k) + (l[k]).c) := tsum_take l k hlt
        have hsk := hok l[k] (List.getElem_mem hlt)
        have hsm := hi (l[k]).op (List.mem_map.2 ⟨_, List.getElem_mem hlt, rfl⟩)
        obtain ⟨b, off, rfl, hbb, c0, c1, c2⟩ := hc k (l[k]).op (by simp [hlt])
        have hBc : ∀ o, wr.cell? ⟨b, o, none⟩ = w.cell? ⟨b, o, none⟩ := fun o => hbl.cell (p := ⟨b, o, none⟩) hbb
        rw [← hBc] at c0 c1 c2
        clear hBc hc hst hi hok
        generalize l[k] = s at *
        generalize tsum (l.take k) = B at *
        cases s with
        | keep n =>
          simp only [St.op, St.Ok, St.c] at *
          have n1 : (n : Int) ≤ 1000 := by omega
          go_wp2
          go_roundw
          case rel => exact ⟨k + 1, by omega, by go_num, by rw [HB.out]; go_num, hbl⟩
          case measure => simp [intOf]; omega
        | rem n =>
          simp only [St.op, St.Ok, St.c] at *
          go_wp2
          go_roundw
          case rel => exact ⟨k + 1, by omega, by go_num, by rw [HB.out]; go_num, hbl⟩
          case measure => simp [intOf]; omega
        | ins t =>
          simp only [St.op, St.Ok, St.c, OpD.Sm] at *
          have hL := fun W => refLen_any t W hsm
          have hcl := cpl_le t
          obtain ⟨n, hn⟩ := Int.eq_ofNat_of_zero_le (show 0 ≤ cpl t by omega)
          rw [hn] at hL hcl HB
          rw [Int.toNat_natCast] at HB
          have n1 : (n : Int) ≤ 1048576 := by omega
          clear hn hsk hcl
          go_wp2_with (go_at_call 40; refine (hL _).mono ?_; rintro e w3 ⟨rfl, hb3⟩)
          go_roundw
          case rel => exact ⟨k + 1, by omega, by go_num, by rw [HB.out]; go_num, hbl.trans (hb3.mono hsz)⟩
          case measure => simp [intOf]; omega
      · have e : k = l.length := by omega
        subst e
        rw [List.take_length]
        clear hc hst hi hok
        go_wp2
        go_ret2
        exact ⟨rfl, hbl⟩
  · have hne : (chk ds != 0) = true := by simpa using c
    have e0 : tsum (stR ds) = 0 := by rw [chk_no ds c]; rfl
    rw [e0]
    generalize chk ds = x at *
    go_enter Tryz.func44, Tryz.ntmps44
    go_wp2_with (go_at_call 47; refine hC.mono ?_; rintro e w1 ⟨rfl, hb1⟩)
    go_ret2
    exact ⟨rfl, hb1⟩

set_option maxRecDepth 20000 in
set_option maxHeartbeats 1000000 in
/-- put behind nothing. -/
theorem put_nil (base : Nat) (d : Value) (x : OpD) (w : World) (hb : base ≤ w.heap.size) (ho : w.ownsRow base 59 3 d 0 (ocs [])) :
    Calls Tryz.prog 90 #[d, .agg #[.int .i64 x.k, .int .i64 x.n, .string x.t]] w fun e w' => ∃ u, e = .returned u ∧ w'.ownsRow base 59 3 u 1 (ocs [x]) ∧ Below base w w' := by
  obtain ⟨i0, hin, hz0, hz1, hz2⟩ := info_parts Tryz.infoOp
  obtain ⟨ao, cp, rfl⟩ := own_form ho
  go_enter Tryz.func90, Tryz.ntmps90
  go_wp2
  go_quiet (fail)
  go_wp2_with (at_builtin; refine wpList_append_own _ rfl (.tmp 53) (.tmp 55) 39 rfl base 59 i0 (.agg #[.int .i64 0, .int .i64 0, .string ⟨#[]⟩]) 3 32 Tryz.underlying39 hin hz0 hz1 hz2 rfl (by decide) _ _ _ rfl ((ho.alloc _).alloc _) ⟨_, 0, none⟩ 1 1 [.int .i64 x.k, .int .i64 x.n, .string x.t] rfl rfl (many_new2 _ _ _ _) (three_one _ _ _) (by unfold maxLen; omega) (by omega) (by simp; omega) ?_; intro v4 w4 ho4 hg4 _)
  have R1 := own_op (L := []) (o := x) ho4 rfl
  have R2 : Below base w w4 := ((below_drewN ((Below.refl _ w).alloc hb _) _).alloc (by simp; omega) _).grown hg4 (by simp; omega) (fun k hk => (ho.lt k hk).1)
  go_ret
  exact ⟨_, rfl, R1, R2⟩

theorem last_cells {w : World} {base g m cap : Nat} {L : List OpD} {y : OpD} (ho : w.ownsRow base 59 3 (.slice (some ⟨g, 0, none⟩) (m + 1) cap) (m + 1) (ocs (L ++ [y]))) (hm : L.length = m) :
    w.cell? ⟨g, m * 3, none⟩ = some (.int .i64 y.k) ∧ w.cell? ⟨g, m * 3 + 1, none⟩ = some (.int .i64 y.n) ∧ w.cell? ⟨g, m * 3 + 2, none⟩ = some (.string y.t) := by
  subst hm
  obtain ⟨c0, c1, c2⟩ := ocs_at (L ++ [y]) L.length y (by simp)
  refine ⟨?_, ?_, ?_⟩
  · rw [ho.cellAt _ (by omega)]; exact c0
  · rw [ho.cellAt _ (by omega)]; exact c1
  · rw [ho.cellAt _ (by omega)]; exact c2
theorem own_some {w : World} {base e z n : Nat} {v : Value} {xs : List Value} (h : w.ownsRow base e z v n xs) (hn : 0 < n) : ∃ g cap, v = .slice (some ⟨g, 0, none⟩) n cap := by
  rcases h.2 with ⟨_, h0⟩ | ⟨g, cap, cur, rfl, _⟩
  · omega
  · exact ⟨g, cap, rfl⟩

set_option maxRecDepth 20000 in
set_option maxHeartbeats 1000000 in
/-- put behind an operation of another kind. -/
theorem put_new (base : Nat) (d : Value) (L : List OpD) (y x : OpD) (w : World) (hb : base ≤ w.heap.size) (hl : L.length ≤ 100000) (ho : w.ownsRow base 59 3 d (L ++ [y]).length (ocs (L ++ [y]))) (hk : y.k ≠ x.k) :
    Calls Tryz.prog 90 #[d, .agg #[.int .i64 x.k, .int .i64 x.n, .string x.t]] w fun e w' => ∃ u, e = .returned u ∧ w'.ownsRow base 59 3 u (L ++ [y] ++ [x]).length (ocs (L ++ [y] ++ [x])) ∧ Below base w w' := by
  obtain ⟨i0, hin, hz0, hz1, hz2⟩ := info_parts Tryz.infoOp
  obtain ⟨m, hm⟩ : ∃ m, L.length = m := ⟨_, rfl⟩
  have hlen : (L ++ [y]).length = m + 1 := by simp [hm]
  rw [hlen] at ho
  obtain ⟨g, cap, rfl⟩ := own_some ho (by omega)
  have hoA := ho.alloc (.cells #[.int .i64 x.k, .int .i64 x.n, .string x.t] 59)
  obtain ⟨c0, c1, c2⟩ := last_cells hoA hm
  have hne : (y.k == x.k) = false := by simpa using hk
  have hm1 : m ≤ 100000 := by omega
  have HL : Hid ((L ++ [y]).length = m + 1) := hlen
  clear hk hm hlen hl c1 c2
  go_enter Tryz.func90, Tryz.ntmps90
  go_wp2
  go_quiet (fail)
  clear c0
  go_wp2_with (at_builtin; refine wpList_append_own _ rfl (.tmp 53) (.tmp 55) 39 rfl base 59 i0 (.agg #[.int .i64 0, .int .i64 0, .string ⟨#[]⟩]) 3 32 Tryz.underlying39 hin hz0 hz1 hz2 rfl (by decide) _ _ _ rfl ((ho.alloc _).alloc _) ⟨_, 0, none⟩ 1 1 [.int .i64 x.k, .int .i64 x.n, .string x.t] rfl rfl (many_new2 _ _ _ _) (three_one _ _ _) (by unfold maxLen; omega) (by omega) (by simp; omega) ?_; intro v4 w4 ho4 hg4 _)
  have R1 := own_op (L := L ++ [y]) (o := x) ho4 HL.out
  have R2 : Below base w w4 := ((below_drewN ((Below.refl _ w).alloc hb _) _).alloc (by simp; omega) _).grown hg4 (by simp; omega) (fun k hk => (ho.lt k hk).1)
  go_ret
  exact ⟨_, rfl, R1, R2⟩

theorem ocs_set (L : List OpD) (y : OpD) (N : Int) (t : ByteArray) : ((ocs (L ++ [y])).set (L.length * 3 + 1) (.int .i64 N)).set (L.length * 3 + 2) (.string t) = ocs (L ++ [⟨y.k, N, t⟩]) := by
  rw [ocs_append, ocs_append, ocs_one, ocs_one]
  have e := ocs_length L
  rw [List.set_append_right _ _ (by omega), List.set_append_right _ _ (by omega), e]
  simp

def kOp (N : Nat) : OpD := ⟨1, (N : Int), ⟨#[]⟩⟩
set_option maxRecDepth 20000 in
set_option maxHeartbeats 2000000 in
/-- put of a keep behind a keep. -/
theorem put_join (base : Nat) (d : Value) (L : List OpD) (N : Nat) (w : World) (hb : base ≤ w.heap.size) (hl : L.length ≤ 100000) (hN : N ≤ 100000) (ho : w.ownsRow base 59 3 d (L ++ [kOp N]).length (ocs (L ++ [kOp N]))) :
    Calls Tryz.prog 90 #[d, .agg #[.int .i64 1, .int .i64 1, .string ⟨#[]⟩]] w fun e w' => ∃ u, e = .returned u ∧ w'.ownsRow base 59 3 u (L ++ [kOp (N + 1)]).length (ocs (L ++ [kOp (N + 1)])) ∧ Below base w w' := by
  obtain ⟨m, hm⟩ : ∃ m, L.length = m := ⟨_, rfl⟩
  have hlen : (L ++ [kOp N]).length = m + 1 := by simp [hm]
  rw [hlen] at ho
  obtain ⟨g, cap, rfl⟩ := own_some ho (by omega)
  have hoA := ho.alloc (.cells #[.int .i64 1, .int .i64 1, .string ⟨#[]⟩] 59)
  obtain ⟨c0, c1, c2⟩ := last_cells hoA hm
  simp only [kOp] at c0 c1 c2
  have hm1 : m ≤ 100000 := by omega
  have hN1 : (N : Int) ≤ 100000 := by omega
  have ha : ∀ W : World, (Op.stringOp .add (⟨#[]⟩ : ByteArray) ⟨#[]⟩).run Tryz.prog W = .ok (.string ⟨#[]⟩) W := fun W => pk.add_mk [] [] W (by simp)
  clear hl
  go_enter Tryz.func90, Tryz.ntmps90
  go_wp2
  go_quiet (fail)
  go_wp2
  have hoB : ((w.alloc (.cells #[.int .i64 1, .int .i64 1, .string ⟨#[]⟩] 59)).drewN nq).ownsRow base 59 3 (.slice (some ⟨g, 0, none⟩) (m + 1) cap) (m + 1) (ocs (L ++ [kOp N])) := hoA
  have hbx : ((w.alloc (.cells #[.int .i64 1, .int .i64 1, .string ⟨#[]⟩] 59)).drewN nq).heap[w.heap.size]? = some (.cells #[.int .i64 1, .int .i64 1, .string ⟨#[]⟩] 59) := heap_alloc_new w _
  have hBB : Below base w ((w.alloc (.cells #[.int .i64 1, .int .i64 1, .string ⟨#[]⟩] 59)).drewN nq) := below_drewN ((Below.refl _ w).alloc hb _) _
  have hbs : base ≤ ((w.alloc (.cells #[.int .i64 1, .int .i64 1, .string ⟨#[]⟩] 59)).drewN nq).heap.size := by show base ≤ (w.alloc _).heap.size; simp; omega
  clear c0 c1 c2 hoA
  generalize (w.alloc (.cells #[.int .i64 1, .int .i64 1, .string ⟨#[]⟩] 59)).drewN nq = W0 at *
  obtain ⟨c0, c1, c2⟩ := last_cells hoB hm
  simp only [kOp] at c0 c1 c2
  have b1 := cell_of_row _ _ 1 _ _ (0, 0) hbx
  have b2 := cell_of_row _ _ 2 _ _ (0, 0) hbx
  simp at b1 b2
  have f1 := hoB.frozenAt (m * 3 + 1)
  have hwm : IntKind.i64.wrap (m : Int) = (m : Int) := wraps_i64 _ (by omega) (by omega)
  have hmm : (m : Int) < (m : Int) + 1 := by omega
  have hwN : IntKind.i64.wrap ((N : Int) + 1) = (N : Int) + 1 := wraps_i64 _ (by omega) (by omega)
  refine region_tailR 16 Tryz.mixedR (by kernel_rfl) ?_
  simp only [List.take_succ_cons, List.take_zero, List.drop_succ_cons, List.drop_zero]
  iterate 16 still_step
  refine wpStill_nil ?_
  go_wp2
  have hoC : (W0.setCell ⟨g, m * 3 + 1, none⟩ (.int .i64 ((N : Int) + 1))).drew.ownsRow base 59 3 (.slice (some ⟨g, 0, none⟩) (m + 1) cap) (m + 1) ((ocs (L ++ [kOp N])).set (m * 3 + 1) (.int .i64 ((N : Int) + 1))) := (hoB.stored (m * 3 + 1) (.int .i64 ((N : Int) + 1))).1
  have hbd : some w.heap.size ≠ (some g : Option Nat) := fun e => by
    have h1 := ho.lt g rfl
    simp at e
    omega
  have hgg := hoB.lt g rfl
  have hbxC : (W0.setCell ⟨g, m * 3 + 1, none⟩ (.int .i64 ((N : Int) + 1))).drew.heap[w.heap.size]? = some (.cells #[.int .i64 1, .int .i64 1, .string ⟨#[]⟩] 59) := by
    rw [← hbx]
    exact (hoB.stored (m * 3 + 1) (.int .i64 ((N : Int) + 1))).2.block _ (heap_lt hbx) hbd
  have hBC : Below base w (W0.setCell ⟨g, m * 3 + 1, none⟩ (.int .i64 ((N : Int) + 1))).drew := (below_set hBB hgg.1 hbs).drew
  have hsC : (W0.setCell ⟨g, m * 3 + 1, none⟩ (.int .i64 ((N : Int) + 1))).drew.heap.size = W0.heap.size := by simp [World.setCell]
  have c2C : (W0.setCell ⟨g, m * 3 + 1, none⟩ (.int .i64 ((N : Int) + 1))).drew.cell? ⟨g, m * 3 + 2, none⟩ = some (.string ⟨#[]⟩) := by
    rw [hoC.cellAt _ (by omega), List.getElem?_set_ne (by omega)]
    have := (ocs_at (L ++ [kOp N]) m (kOp N) (by rw [← hm]; simp)).2.2
    exact this
  have hbsC : base ≤ (W0.setCell ⟨g, m * 3 + 1, none⟩ (.int .i64 ((N : Int) + 1))).drew.heap.size := by rw [hsC]; exact hbs
  clear c0 c1 c2 b1 b2 f1 hoB hbx hBB hsC hwN
  generalize (W0.setCell ⟨g, m * 3 + 1, none⟩ (.int .i64 ((N : Int) + 1))).drew = W1 at *
  have b2 := cell_of_row _ _ 2 _ _ (0, 0) hbxC
  simp at b2
  have f2 := hoC.frozenAt (m * 3 + 2)
  refine region_tailR 16 Tryz.mixedR (by kernel_rfl) ?_
  simp only [List.take_succ_cons, List.take_zero, List.drop_succ_cons, List.drop_zero]
  iterate 16 still_step
  refine wpStill_nil ?_
  go_wp2
  have hoD := (hoC.stored (m * 3 + 2) (.string ⟨#[]⟩)).1
  rw [← hm, ocs_set] at hoD
  have hBD := below_set (j := m * 3 + 2) (x := .string ⟨#[]⟩) hBC hgg.1 hbsC
  have e1 : (L ++ [kOp (N + 1)]).length = m + 1 := by simp [hm]
  go_ret
  refine ⟨_, rfl, ?_, hBD.drew⟩
  rw [e1, ← hm]
  exact hoD
end Go.Proofs.YtcdnlkhjlgaaoaaGreatDoor
