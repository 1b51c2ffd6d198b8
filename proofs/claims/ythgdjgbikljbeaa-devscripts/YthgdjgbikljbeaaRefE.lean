/-
  The reference's zero, New.
-/
import Derived.Test.YthgdjgbikljbeaaRefD
namespace Go.Proofs.Ythgdjgbikljbeaa
open Go.RowKit Go.Maps

set_option maxHeartbeats 1000000 in
theorem zero_any (w : World) :
    Calls Try.prog 29 #[] w fun e w' => e = .returned (.string (mk zeroS)) ∧ Below w.heap.size w w' := by
  obtain ⟨i0, hi, hz0, hz1, hz2⟩ := info_parts Try.infoU8
  have hb1 : i0.bytes * 64 ≤ 281474976710656 := by rw [hz2]; decide
  go_enter Try.func29, Try.ntmps29
  go_wp2_with (first | (at_make; refine wpList_make_full _ rfl _ _ 66 rfl w.heap.size 5 i0 (.int .u8 0) 1 Try.underlying66 hi hz0 hz1 _ _ _ _ 64 rfl rfl rfl rfl hb1 (by unfold maxLen; omega) (Nat.le_refl _) ?_; rw [made64]; intro w1 hown hg1; have hcv := conv_row zeroS zeroS_len (row_all hown); clear hown; go_frame))
  have hO1 : Only [] w w1 := Only.of_grown hg1 (by simp)
  go_ret
  exact ⟨rfl, hO1.nil_below⟩

/-- Rows as make lays them. -/
def madeB (n : Nat) : Obj := .cells (madeCells #[.bool false] n) 4
def madeS (n : Nat) : Obj := .cells (madeCells #[.string ⟨#[]⟩] n) 9
theorem run_madeB (n : Nat) (hn : n ≤ 8192) (w : World) : (Instr.makeSlice 59 (.int .i64 (n : Int)) (.int .i64 (n : Int))).run Try.prog w = .ok (.slice (some ⟨w.heap.size, 0, none⟩) n n) (w.alloc (madeB n)) := by
  obtain ⟨i0, hi, hz0, hz1, hz2⟩ := info_parts Try.infoBo
  rw [run_make (P := Try.prog) w 59 4 i0 (.bool false) Try.underlying59 hi hz0 .i64 .i64 n n (by omega) (by omega) (by rw [hz2]; omega) (by omega), hz1]
  simp [madeB, Value.cells]
theorem run_madeS (n : Nat) (hn : n ≤ 8192) (w : World) : (Instr.makeSlice 60 (.int .i64 (n : Int)) (.int .i64 (n : Int))).run Try.prog w = .ok (.slice (some ⟨w.heap.size, 0, none⟩) n n) (w.alloc (madeS n)) := by
  obtain ⟨i0, hi, hz0, hz1, hz2⟩ := info_parts Try.infoS
  rw [run_make (P := Try.prog) w 60 9 i0 (.string ⟨#[]⟩) Try.underlying60 hi hz0 .i64 .i64 n n (by omega) (by omega) (by rw [hz2]; omega) (by omega), hz1]
  simp [madeS, Value.cells]
theorem row_madeB {w : World} {g n : Nat} (h : w.heap[g]? = some (madeB n)) : Row w g 4 n fun _ => .bool false :=
  ⟨_, h, fun i hi => by simp [madeCells, hi, Nat.mod_one]⟩
theorem row_madeS {w : World} {g n : Nat} (h : w.heap[g]? = some (madeS n)) : Row w g 9 n fun _ => .string ⟨#[]⟩ :=
  ⟨_, h, fun i hi => by simp [madeCells, hi, Nat.mod_one]⟩

set_option maxHeartbeats 400000 in
theorem rnew_no (n : Int) (w : World) (h : n < 8 ∨ 8192 < n) :
    Calls Try.prog 9 #[.int .i64 n] w fun e w' => e = .returned (.tuple #[.pointer none, .int .i64 1]) ∧ w' = w := by
  rcases h with h | h
  · go_enter Try.func9, Try.ntmps9
    go_wp2
    go_ret2
    exact ⟨rfl, rfl⟩
  · have h' : ¬ n < 8 := by omega
    go_enter Try.func9, Try.ntmps9
    go_wp2
    go_ret2
    exact ⟨rfl, rfl⟩

theorem own_only {w w' : World} {B n : Nat} {e : TypeId} {v : Value} {xs : List Value} {S : List Nat} (h : w.ownsRow B e 1 v n xs) (ho : Only S w w') (hS : ∀ k ∈ S, k < B) : w'.ownsRow B e 1 v n xs :=
  ⟨h.1, h.2.imp id fun ⟨g, cap, cur, hv, hb, hg, r⟩ => ⟨g, cap, cur, hv, hb, only_heap hg ho (fun hk => by have := hS g hk; omega), r⟩⟩

/-- In the midst of New: k sectors are laid. -/
structure Mid (w : World) (c gi gx n k : Nat) : Prop where
  str : ∃ v, w.heap[c]? = some (.cells #[v, .slice (some ⟨gi, 0, none⟩) n n, .slice (some ⟨gx, 0, none⟩) n n, .int .i64 (-1), .int .i64 0] 62) ∧ w.ownsRow (c + 1) 9 1 v k (fromF k fun _ => .string (mk zeroS))
  ri : Row w gi 4 n fun _ => .bool false
  rx : Row w gx 9 n fun _ => .string ⟨#[]⟩
  li : gi < c
  lx : gx < c

theorem Mid.whole {w : World} {c gi gx n : Nat} (h : Mid w c gi gx n n) (h0 : 8 ≤ n) (h8 : n ≤ 8192) (B : Nat) (hc : B ≤ c) (hi : B ≤ gi) (hx : B ≤ gx) : FreshRef B w c (newS n) := by
  obtain ⟨v, hb, ho⟩ := h.str
  obtain ⟨g, cap, rfl, _, _⟩ := ho.form (by omega)
  obtain ⟨hr, hcap, hg⟩ := row_of_own ho
  have hl := h.lx
  exact ⟨g, gi, gx, ⟨fun _ => ⟨#[]⟩, ⟨⟨cap, n, n, hb, hcap, Nat.le_refl _, Nat.le_refl _⟩, hr.congr (fun _ _ => rfl), h.ri.congr (fun _ _ => rfl), h.rx.congr (fun _ _ => rfl), by omega, h0, h8⟩, (fun i t _ ht => by cases ht), by simp [newS], by simp [newS]⟩, hc, by omega, hi, hx⟩

theorem mid1 (w : World) (n : Nat) : Mid (((w.alloc (madeB n)).alloc (madeS n)).alloc (.cells #[.slice none 0 0, .slice (some ⟨w.heap.size, 0, none⟩) n n, .slice (some ⟨w.heap.size + 1, 0, none⟩) n n, .int .i64 (-1), .int .i64 0] 62)).drew (w.heap.size + 1 + 1) w.heap.size (w.heap.size + 1) n 0 ∧ Below w.heap.size w (((w.alloc (madeB n)).alloc (madeS n)).alloc (.cells #[.slice none 0 0, .slice (some ⟨w.heap.size, 0, none⟩) n n, .slice (some ⟨w.heap.size + 1, 0, none⟩) n n, .int .i64 (-1), .int .i64 0] 62)).drew := by
  have h1 : Only [] (w.alloc (madeB n)) (((w.alloc (madeB n)).alloc (madeS n)).alloc (.cells #[.slice none 0 0, .slice (some ⟨w.heap.size, 0, none⟩) n n, .slice (some ⟨w.heap.size + 1, 0, none⟩) n n, .int .i64 (-1), .int .i64 0] 62)).drew := ((Only.alloc _ _ _).trans (Only.alloc _ _ _)).trans (Only.drew _ _)
  have h2 : Only [] ((w.alloc (madeB n)).alloc (madeS n)) (((w.alloc (madeB n)).alloc (madeS n)).alloc (.cells #[.slice none 0 0, .slice (some ⟨w.heap.size, 0, none⟩) n n, .slice (some ⟨w.heap.size + 1, 0, none⟩) n n, .int .i64 (-1), .int .i64 0] 62)).drew := (Only.alloc _ _ _).trans (Only.drew _ _)
  have e2 := heap_alloc_last (w.alloc (madeB n)) (madeS n)
  have e3 := heap_alloc_last ((w.alloc (madeB n)).alloc (madeS n)) (.cells #[.slice none 0 0, .slice (some ⟨w.heap.size, 0, none⟩) n n, .slice (some ⟨w.heap.size + 1, 0, none⟩) n n, .int .i64 (-1), .int .i64 0] 62)
  simp only [World.size_alloc] at e2 e3
  exact ⟨⟨⟨_, e3, World.ownsRow_nil _ _ _ _⟩, row_madeB (only_heap (heap_alloc_last w _) h1 (by simp)), row_madeS (only_heap e2 h2 (by simp)), by omega, by omega⟩, ((((Only.alloc [] _ _).trans (Only.alloc [] _ _)).trans (Only.alloc [] _ _)).trans (Only.drew [] _)).nil_below⟩
theorem mid2 (w : World) (n : Nat) : Mid (((w.alloc (madeS n)).alloc (madeB n)).alloc (.cells #[.slice none 0 0, .slice (some ⟨w.heap.size + 1, 0, none⟩) n n, .slice (some ⟨w.heap.size, 0, none⟩) n n, .int .i64 (-1), .int .i64 0] 62)).drew (w.heap.size + 1 + 1) (w.heap.size + 1) w.heap.size n 0 ∧ Below w.heap.size w (((w.alloc (madeS n)).alloc (madeB n)).alloc (.cells #[.slice none 0 0, .slice (some ⟨w.heap.size + 1, 0, none⟩) n n, .slice (some ⟨w.heap.size, 0, none⟩) n n, .int .i64 (-1), .int .i64 0] 62)).drew := by
  have h1 : Only [] (w.alloc (madeS n)) (((w.alloc (madeS n)).alloc (madeB n)).alloc (.cells #[.slice none 0 0, .slice (some ⟨w.heap.size + 1, 0, none⟩) n n, .slice (some ⟨w.heap.size, 0, none⟩) n n, .int .i64 (-1), .int .i64 0] 62)).drew := ((Only.alloc _ _ _).trans (Only.alloc _ _ _)).trans (Only.drew _ _)
  have h2 : Only [] ((w.alloc (madeS n)).alloc (madeB n)) (((w.alloc (madeS n)).alloc (madeB n)).alloc (.cells #[.slice none 0 0, .slice (some ⟨w.heap.size + 1, 0, none⟩) n n, .slice (some ⟨w.heap.size, 0, none⟩) n n, .int .i64 (-1), .int .i64 0] 62)).drew := (Only.alloc _ _ _).trans (Only.drew _ _)
  have e2 := heap_alloc_last (w.alloc (madeS n)) (madeB n)
  have e3 := heap_alloc_last ((w.alloc (madeS n)).alloc (madeB n)) (.cells #[.slice none 0 0, .slice (some ⟨w.heap.size + 1, 0, none⟩) n n, .slice (some ⟨w.heap.size, 0, none⟩) n n, .int .i64 (-1), .int .i64 0] 62)
  simp only [World.size_alloc] at e2 e3
  exact ⟨⟨⟨_, e3, World.ownsRow_nil _ _ _ _⟩, row_madeB (only_heap e2 h2 (by simp)), row_madeS (only_heap (heap_alloc_last w _) h1 (by simp)), by omega, by omega⟩, ((((Only.alloc [] _ _).trans (Only.alloc [] _ _)).trans (Only.alloc [] _ _)).trans (Only.drew [] _)).nil_below⟩

/-- One sector more. -/
theorem Mid.step {w w3 w4 : World} {c gi gx n k g cap : Nat} {v : Value} (h : Mid w c gi gx n k) (hb : w.heap[c]? = some (.cells #[v, .slice (some ⟨gi, 0, none⟩) n n, .slice (some ⟨gx, 0, none⟩) n n, .int .i64 (-1), .int .i64 0] 62)) (hown : w.ownsRow (c + 1) 9 1 v k (fromF k fun _ => .string (Go.Proofs.Ythgdjgbikljbeaa.mk zeroS)))
    (h3 : Only [] w w3) (hg : w3.grownBy w4 v.ownBlock) (ho : w4.ownsRow (c + 1) 9 1 (.slice (some ⟨g, 0, none⟩) (k + 1) cap) (k + 1) (fromF k (fun _ => .string (Go.Proofs.Ythgdjgbikljbeaa.mk zeroS)) ++ [.string (Go.Proofs.Ythgdjgbikljbeaa.mk zeroS)])) :
    Mid (w4.setCell ⟨c, 0, none⟩ (.slice (some ⟨g, 0, none⟩) (k + 1) cap)) c gi gx n (k + 1) := by
  have hr1 := h.ri.lt
  have hr2 := h.rx.lt
  have hlt := heap_lt hb
  have hne : ∀ j, j ≤ c → some j ≠ v.ownBlock := fun j hj e => by have := (hown.lt j e.symm).1; omega
  have hs3 := h3.size
  have h34 : ∀ j, j ≤ c → w4.heap[j]? = w.heap[j]? := fun j hj => (hg.block j (by omega) (hne j hj)).trans (h3.block j (by omega) (by simp))
  have hO : Only [c] w4 (w4.setCell ⟨c, 0, none⟩ (.slice (some ⟨g, 0, none⟩) (k + 1) cap)) := Only.setCell _ (by simp) _
  have l1 := h.li
  have l2 := h.lx
  obtain ⟨c1, e1, r1⟩ := h.ri
  obtain ⟨c2, e2, r2⟩ := h.rx
  refine ⟨⟨_, heap_setCell ((h34 c (Nat.le_refl _)).trans hb) 0 _, ?_⟩, ⟨c1, only_heap ((h34 gi (by omega)).trans e1) hO (by simp; omega), r1⟩, ⟨c2, only_heap ((h34 gx (by omega)).trans e2) hO (by simp; omega), r2⟩, l1, l2⟩
  rw [fromF_succ]
  exact own_only ho hO (by simp)

theorem mid_call {wr w3 : World} {c gi gx n k : Nat} {v : Value} (hstr : wr.heap[c]? = some (.cells #[v, .slice (some ⟨gi, 0, none⟩) n n, .slice (some ⟨gx, 0, none⟩) n n, .int .i64 (-1), .int .i64 0] 62)) (hown : wr.ownsRow (c + 1) 9 1 v k (fromF k fun _ => .string (mk zeroS)))
    (hb : Below wr.drew.heap.size wr.drew w3) : Only [] wr w3 ∧ w3.heap[c]? = some (.cells #[v, .slice (some ⟨gi, 0, none⟩) n n, .slice (some ⟨gx, 0, none⟩) n n, .int .i64 (-1), .int .i64 0] 62) ∧ w3.cell? ⟨c, 0, none⟩ = some v ∧ w3.ownsRow (c + 1) 9 1 v k (fromF k fun _ => .string (mk zeroS)) ∧ w3.heap.size ≠ c ∧ c < w3.heap.size := by
  have hO3 : Only [] wr w3 := (Only.drew _ _).trans (Only.of_below hb)
  have h3 := only_heap hstr hO3 (by simp)
  have hl := heap_lt h3
  exact ⟨hO3, h3, cell_at h3 0, own_only hown hO3 (by simp), by omega, hl⟩

theorem mid_app {w w3 w4 : World} {c gi gx n k g cap : Nat} {v : Value} {o : Obj} (h : Mid w c gi gx n k) (hb : w.heap[c]? = some (.cells #[v, .slice (some ⟨gi, 0, none⟩) n n, .slice (some ⟨gx, 0, none⟩) n n, .int .i64 (-1), .int .i64 0] 62)) (hown : w.ownsRow (c + 1) 9 1 v k (fromF k fun _ => .string (mk zeroS)))
    (h3 : Only [] w w3) (hg : (w3.alloc o).grownBy w4 v.ownBlock) (ho : w4.ownsRow (c + 1) 9 1 (.slice (some ⟨g, 0, none⟩) (k + 1) cap) (k + 1) (fromF k (fun _ => .string (mk zeroS)) ++ [.string (mk zeroS)])) :
    Mid (w4.setCell ⟨c, 0, none⟩ (.slice (some ⟨g, 0, none⟩) (k + 1) cap)) c gi gx n (k + 1) ∧ w4.cell? ⟨c, 0, none⟩ = some v ∧ w4.frozen? ⟨c, 0, none⟩ = false ∧ ∀ B w0, B ≤ c → Below B w0 w → B ≤ w.heap.size → Below B w0 (w4.setCell ⟨c, 0, none⟩ (.slice (some ⟨g, 0, none⟩) (k + 1) cap)) := by
  have h3' := h3.trans (Only.alloc [] w3 o)
  have hs := h3'.size
  have hl := heap_lt hb
  have hne : ∀ j, j ≤ c → some j ≠ v.ownBlock := fun j hj e => by have := (hown.lt j e.symm).1; omega
  have h4 : w4.heap[c]? = some _ := (hg.block c (by omega) (hne c (Nat.le_refl _))).trans (only_heap hb h3' (by simp))
  refine ⟨h.step hb hown h3' hg ho, cell_at h4 0, frozen_at h4 0, fun B w0 hB hw hs0 => ?_⟩
  have h5 : Below B w w4 := (h3'.below hs0 (by simp)).grown hg (Nat.le_trans hs0 hs) (fun j hj => by have := (hown.lt j hj).1; omega)
  exact (hw.trans h5).trans ((Only.setCell (S := [c]) (p := ⟨c, 0, none⟩) w4 (by simp) _).below (Nat.le_trans hs0 h5.size) (by simpa using hB))

set_option maxRecDepth 20000 in
set_option maxHeartbeats 4000000 in
theorem rnew_ok (n : Nat) (w : World) (hn0 : 8 ≤ n) (hn8 : n ≤ 8192) :
    Calls Try.prog 9 #[.int .i64 (n : Int)] w fun e w' => ∃ c, e = .returned (.tuple #[.pointer (some ⟨c, 0, none⟩), .int .i64 0]) ∧ FreshRef w.heap.size w' c (newS n) ∧ Below w.heap.size w w' := by
  obtain ⟨iS, hiS, hzS0, hzS1, hzS2⟩ := info_parts Try.infoS
  have q0 : ¬ (n : Int) < 8 := by omega
  have q1 : ¬ 8192 < (n : Int) := by omega
  have mB := run_madeB n hn8
  have mS := run_madeS n hn8
  go_enter Try.func9, Try.ntmps9
  go_wp2_with fail
  go_region
  · obtain ⟨hM0, hB0⟩ := mid1 w n
    clear mB mS q0 q1
    go_wp2_with fail
    go_loopw [5] (fun i wr => ∃ k : Nat, k ≤ n ∧ i = .int .i64 (k : Int) ∧ Mid wr (w.heap.size + 1 + 1) w.heap.size (w.heap.size + 1) n k ∧ Below w.heap.size w wr)
      (fun i _ => n - (intOf i).toNat)
    case atStart => exact ⟨0, Nat.zero_le _, rfl, hM0, hB0⟩
    case round =>
      obtain ⟨k, hk, rfl, hM, hB⟩ := hrel
      clear hM0 hB0
      by_cases hlt : k < n
      · have hlt' : (k : Int) < (n : Int) := by omega
        obtain ⟨v, hstr, hown⟩ := hM.str
        have hcl := heap_lt hstr
        have c0 := cell_at hstr 0
        go_wp2_with fail
        go_region_law (first
          | (refine step_append_lies _ (by rfl) (.tmp 27) (.tmp 29) 60 (by rfl) (w.heap.size + 1 + 1 + 1) 9 iS (.string ⟨#[]⟩) 1 16 Try.underlying60 hiS hzS0 hzS1 hzS2 rfl (by decide) v k (fromF k fun _ => .string (mk zeroS)) (by simp [Act.eval]) (hown3.alloc _) ⟨w3.heap.size, 0, none⟩ 1 1 [.string (mk zeroS)] (by simp [Act.eval]) rfl (one_new _ _ _) (one_one _ rfl) (by decide) (by unfold maxLen; omega) (by omega) (by simp; omega) (w3.heap.size + 1) (by simp) ?_; intro g cap w4 hown4 hgr4 hat4 hlt4; obtain ⟨hM4, e4, z4, hB4⟩ := mid_app hM hstr hown hO3 hgr4 hown4)
          | (go_simp; go_at_call 29; refine (zero_any _).mono ?_; rintro e w3 ⟨rfl, hb3⟩; obtain ⟨hO3, hstr3, c3, hown3, n3, l3⟩ := mid_call hstr hown hb3))
        all_goals
          have hB5 := hB4 w.heap.size w (by omega) hB (Nat.le_trans (by omega) (Nat.le_of_lt hcl))
          clear hM hstr hown hcl c0 hb3 hO3 hstr3 c3 hown3 n3 l3 hown4 hgr4 hat4 hlt4 hB4 e4 z4
          go_wp2_with fail
          go_roundw
          case rel => exact ⟨k + 1, by omega, by go_num, hM4, hB5⟩
          case measure => simp [intOf]; omega
      · obtain rfl : k = n := by omega
        have hlt' : ¬ (k : Int) < (k : Int) := by omega
        have hR := hM.whole hn0 hn8 w.heap.size (by omega) (by omega) (by omega)
        clear hM
        go_wp2_with fail
        go_ret2
        exact ⟨_, rfl, hR, hB⟩
  · obtain ⟨hM0, hB0⟩ := mid2 w n
    clear mB mS q0 q1
    go_wp2_with fail
    go_loopw [5] (fun i wr => ∃ k : Nat, k ≤ n ∧ i = .int .i64 (k : Int) ∧ Mid wr (w.heap.size + 1 + 1) (w.heap.size + 1) w.heap.size n k ∧ Below w.heap.size w wr)
      (fun i _ => n - (intOf i).toNat)
    case atStart => exact ⟨0, Nat.zero_le _, rfl, hM0, hB0⟩
    case round =>
      obtain ⟨k, hk, rfl, hM, hB⟩ := hrel
      clear hM0 hB0
      by_cases hlt : k < n
      · have hlt' : (k : Int) < (n : Int) := by omega
        obtain ⟨v, hstr, hown⟩ := hM.str
        have hcl := heap_lt hstr
        have c0 := cell_at hstr 0
        go_wp2_with fail
        go_region_law (first
          | (refine step_append_lies _ (by rfl) (.tmp 27) (.tmp 29) 60 (by rfl) (w.heap.size + 1 + 1 + 1) 9 iS (.string ⟨#[]⟩) 1 16 Try.underlying60 hiS hzS0 hzS1 hzS2 rfl (by decide) v k (fromF k fun _ => .string (mk zeroS)) (by simp [Act.eval]) (hown3.alloc _) ⟨w3.heap.size, 0, none⟩ 1 1 [.string (mk zeroS)] (by simp [Act.eval]) rfl (one_new _ _ _) (one_one _ rfl) (by decide) (by unfold maxLen; omega) (by omega) (by simp; omega) (w3.heap.size + 1) (by simp) ?_; intro g cap w4 hown4 hgr4 hat4 hlt4; obtain ⟨hM4, e4, z4, hB4⟩ := mid_app hM hstr hown hO3 hgr4 hown4)
          | (go_simp; go_at_call 29; refine (zero_any _).mono ?_; rintro e w3 ⟨rfl, hb3⟩; obtain ⟨hO3, hstr3, c3, hown3, n3, l3⟩ := mid_call hstr hown hb3))
        all_goals
          have hB5 := hB4 w.heap.size w (by omega) hB (Nat.le_trans (by omega) (Nat.le_of_lt hcl))
          clear hM hstr hown hcl c0 hb3 hO3 hstr3 c3 hown3 n3 l3 hown4 hgr4 hat4 hlt4 hB4 e4 z4
          go_wp2_with fail
          go_roundw
          case rel => exact ⟨k + 1, by omega, by go_num, hM4, hB5⟩
          case measure => simp [intOf]; omega
      · obtain rfl : k = n := by omega
        have hlt' : ¬ (k : Int) < (k : Int) := by omega
        have hR := hM.whole hn0 hn8 w.heap.size (by omega) (by omega) (by omega)
        clear hM
        go_wp2_with fail
        go_ret2
        exact ⟨_, rfl, hR, hB⟩
end Go.Proofs.Ythgdjgbikljbeaa
