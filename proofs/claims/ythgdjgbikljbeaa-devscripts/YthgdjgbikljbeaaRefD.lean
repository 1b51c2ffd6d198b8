/-
  The reference's Copy.
-/
import Derived.Test.YthgdjgbikljbeaaRefC
import Derived.Deep.AppendLies
import Derived.Deep.RegionLaw
namespace Go.Proofs.Ythgdjgbikljbeaa
open Go.RowKit Go.Maps

/-- The first n of f. -/
def fromF (n : Nat) (f : Nat → Value) : List Value := (List.range n).map f
theorem fromF_len (n : Nat) (f : Nat → Value) : (fromF n f).length = n := by simp [fromF]
theorem fromF_at {n : Nat} {f : Nat → Value} {i : Nat} (h : i < n) : (fromF n f)[i]? = some (f i) := by simp [fromF, h]
theorem fromF_succ (n : Nat) (f : Nat → Value) : fromF (n + 1) f = fromF n f ++ [f n] := by simp [fromF, List.range_succ]

theorem row_of_own {w : World} {base e n g cap : Nat} {f : Nat → Value} (h : w.ownsRow base e 1 (.slice (some ⟨g, 0, none⟩) n cap) n (fromF n f)) : Row w g e n f ∧ n ≤ cap ∧ base ≤ g := by
  have h' := h
  rcases h.2 with ⟨hv, _⟩ | ⟨g', cap', cur, hv, hb, hg, hn', _⟩
  · cases hv
  · cases hv
    refine ⟨⟨cur, hg, fun i hi => ?_⟩, hn', hb⟩
    have := h'.cellAt i (by omega)
    rw [cell_at hg, fromF_at hi] at this
    exact this

theorem Row.news {w : World} {g : Nat} {t : TypeId} {n : Nat} {f : Nat → Value} (h : Row w g t n f) : ∀ j u, (fromF n f)[j]? = some u → w.cell? ((⟨g, 0, none⟩ : Addr).add j) = some u := by
  intro j u hu
  have hj : j < n := by
    have := (List.getElem?_eq_some_iff.1 hu).1
    rwa [fromF_len] at this
  rw [fromF_at hj] at hu
  cases hu
  have e : (⟨g, 0, none⟩ : Addr).add j = ⟨g, j, none⟩ := by unfold Addr.add; split <;> simp_all
  rw [e]
  exact h.cell hj

/-- append(nil, row...) at a step of a region that draws. -/
theorem step_dup {P : Program} {w : World} {ops : Array Oper} {o : Oper} {a : Act} {K : Act → World → Prop} {Q : Exit → Act → World → Prop} {E : Prop} (hgd : o.guard = none) (s x : Operand) (t : TypeId)
    (ho : o.op = .call { callee := .builtin .append, args := #[s, x], argTypes := #[t, t] }) (e : TypeId) (i : TypeInfo) (z : Value) (bytes : Nat) (ht : P.underlying t = some (.slice e)) (hi : P.info? e = some i) (hz : i.zero = some z)
    (hsize : i.size = 1) (hby : i.bytes = bytes) (hzs : z.cells.size = 1) (hs : a.eval s = .slice none 0 0) (g n c : Nat) (f : Nat → Value) (hx : a.eval x = .slice (some ⟨g, 0, none⟩) n c)
    (hr : Row w g e n f) (h1 : ∀ j, (f j).oneCell' = true) (hn : 0 < n) (hn' : n ≤ 8192) (hb : bytes ≤ 64)
    (h : ∀ g' cap w', (Row w' g' e n f ∧ n ≤ cap ∧ w.heap.size ≤ g') → Below w.heap.size w w' → K (a.put o.dst (.slice (some ⟨g', 0, none⟩) n cap)) w') :
    if Region.wanted o (yielded ops a.tmps) = true then Oper.wp P o a w K Q else E := by
  have hb2 : n * bytes ≤ 8192 * 64 := Nat.mul_le_mul hn' hb
  refine step_append_lies w hgd s x t ho w.heap.size e i z 1 bytes ht hi hz hsize hby hzs (by decide) (.slice none 0 0) 0 [] hs (World.ownsRow_nil _ _ _ _) ⟨g, 0, none⟩ n c (fromF n f) hx (by simp [fromF_len]) hr.news (fun u hu => ?_) hn (by unfold maxLen; omega) (by rw [Nat.zero_add]; omega) (Nat.le_refl _) w.heap.size rfl ?_
  · obtain ⟨j, _, rfl⟩ := List.mem_map.1 hu
    exact h1 j
  · intro g' cap w' hown hgr _ _
    rw [Nat.zero_add, List.nil_append] at hown
    rw [Nat.zero_add]
    exact h g' cap w' (row_of_own hown) (Only.of_grown (S := []) hgr (by intro k hk; cases hk)).nil_below

/-- The reference's device s lies at c, all of it at B or above. -/
def FreshRef (B : Nat) (w : World) (c : Nat) (s : DevS) : Prop := ∃ hs hi hw, IsRef w c hs hi hw s ∧ B ≤ c ∧ B ≤ hs ∧ B ≤ hi ∧ B ≤ hw

theorem Try.infoS : (Try.prog.info? 9).map (fun i => (i.zero, i.size, i.bytes)) = some (some (.string ⟨#[]⟩), 1, 16) := by kernel_rfl
theorem Try.infoBo : (Try.prog.info? 4).map (fun i => (i.zero, i.size, i.bytes)) = some (some (.bool false), 1, 1) := by kernel_rfl

set_option maxRecDepth 20000 in
set_option maxHeartbeats 2000000 in
theorem rcopy_any {w : World} {q gs gi gw : Nat} {s : DevS} (h : IsRef w q gs gi gw s) :
    Calls Try.prog 15 #[.pointer (some ⟨q, 0, none⟩)] w fun e w' => ∃ c, e = .returned (.pointer (some ⟨c, 0, none⟩)) ∧ FreshRef w.heap.size w' c s ∧ Below w.heap.size w w' := by
  obtain ⟨X, h, hX, hf0, hf1⟩ := h
  obtain ⟨iS, hiS, hzS0, hzS1, hzS2⟩ := info_parts Try.infoS
  obtain ⟨iB, hiB, hzB0, hzB1, hzB2⟩ := info_parts Try.infoBo
  obtain ⟨cs0, ci0, cw0, h0, h1, h2, h3, h4, hcs, hci, hcw⟩ := h.cells
  have hn8 := h.hi
  have hn0 := h.lo
  obtain ⟨_, _, _, hq, _⟩ := h.str
  have hql := heap_lt hq
  clear hq h0 h1 h2
  go_enter Try.func15, Try.ntmps15
  go_wp2_with fail
  refine region_tail 8 Try.mixed (by kernel_rfl) ?_
  simp only [List.take_succ_cons, List.take_zero, List.drop_succ_cons, List.drop_zero]
  iterate 8 still_step
  refine wpStill_nil ?_
  clear h3 h4
  go_wp2_with fail
  have hO : Only [] w (w.alloc (.cells #[.slice none 0 0, .slice none 0 0, .slice none 0 0, .int .i64 s.fuse, .int .i64 s.age] 62)).drew := (Only.alloc _ _ _).trans (Only.drew _ _)
  have hbox0 : (w.alloc (.cells #[.slice none 0 0, .slice none 0 0, .slice none 0 0, .int .i64 s.fuse, .int .i64 s.age] 62)).drew.heap[w.heap.size]? = some _ := heap_alloc_last w _
  have hr0 := h.kept hO (by simp) (by simp) (by simp) (by simp)
  have HB0 : Hid (Below w.heap.size w _) := hO.nil_below
  have nq : q ∉ [w.heap.size] := by simp; omega
  have ns : gs ∉ [w.heap.size] := by have := h.rs.lt; simp; omega
  have ni : gi ∉ [w.heap.size] := by have := h.ri.lt; simp; omega
  have nx : gw ∉ [w.heap.size] := by have := h.rx.lt; simp; omega
  clear hO h
  generalize (w.alloc (.cells #[.slice none 0 0, .slice none 0 0, .slice none 0 0, .int .i64 s.fuse, .int .i64 s.age] 62)).drew = w0 at *
  obtain ⟨cs, ci, cw, h0, h1, h2, h3, h4, _, _, _⟩ := hr0.cells
  have hcl0 := heap_lt hbox0
  have b0 := cell_at hbox0 0
  have hqq := h0
  clear h0 h1 h2 h3 h4
  go_region_law ((refine step_dup (by rfl) (.tmp 18) (.tmp 22) 60 (by rfl) 9 iS (.string ⟨#[]⟩) 16 Try.underlying60 hiS hzS0 hzS1 hzS2 rfl (by simp [Act.eval]) gs s.n cs (fun i => .string (mk (s.safeAt i))) (by simp [Act.eval]) hr0.drew.rs (fun _ => rfl) (by omega) hn8 (by decide) ?_; intro g1 cp1 w1 hrow1 hb1; have hbox1' := (hb1.block w.heap.size hcl0).trans hbox0; have e1 := cell_at hbox1' 0; have z1 := frozen_at hbox1' 0))
  all_goals
    have hO : Only [w.heap.size] w0 (w1.setCell ⟨w.heap.size, 0, none⟩ (.slice (some ⟨g1, 0, none⟩) s.n cp1)) := ((Only.drew _ _).trans (Only.of_below hb1)).trans (Only.setCell (p := ⟨w.heap.size, 0, none⟩) _ (by simp) _)
    have hbox1 : (w1.setCell ⟨w.heap.size, 0, none⟩ (.slice (some ⟨g1, 0, none⟩) s.n cp1)).heap[w.heap.size]? = some (.cells #[.slice (some ⟨g1, 0, none⟩) s.n cp1, .slice none 0 0, .slice none 0 0, .int .i64 s.fuse, .int .i64 s.age] 62) := heap_setCell hbox1' 0 _
    have hr1 := hr0.kept hO nq ns ni nx
    have HB1 : Hid (Below w.heap.size w _) := HB0.out.trans (hO.below (Nat.le_of_lt hcl0) (by simp))
    obtain ⟨rR, rC1, rG⟩ := hrow1
    have ng1 : g1 ∉ [w.heap.size] := by have : w0.heap.size ≤ g1 := rG; simp; omega
    have lg1 : w.heap.size ≤ g1 := Nat.le_trans HB0.out.size rG
    have hR1 := rR.kept (Only.setCell (S := [w.heap.size]) (p := ⟨w.heap.size, 0, none⟩) w1 (by simp) (.slice (some ⟨g1, 0, none⟩) s.n cp1)) ng1
    clear hO hr0 HB0 hbox0 hbox1' b0 e1 z1 hb1 rR rG hcl0 hqq
    generalize (w1.setCell ⟨w.heap.size, 0, none⟩ (.slice (some ⟨g1, 0, none⟩) s.n cp1)) = w1 at *
    go_wp2_with fail
    obtain ⟨cs, ci, cw, h0, h1, h2, h3, h4, _, _, _⟩ := hr1.cells
    have hcl1 := heap_lt hbox1
    have b1 := cell_at hbox1 1
    have hqq := h1
    clear h0 h1 h2 h3 h4
    go_region_law ((refine step_dup (by rfl) (.tmp 30) (.tmp 34) 59 (by rfl) 4 iB (.bool false) 1 Try.underlying59 hiB hzB0 hzB1 hzB2 rfl (by simp [Act.eval]) gi s.n ci (fun i => .bool (s.waits i).isSome) (by simp [Act.eval]) hr1.drew.ri (fun _ => rfl) (by omega) hn8 (by decide) ?_; intro g2 cp2 w2 hrow2 hb2; have hbox2' := (hb2.block w.heap.size hcl1).trans hbox1; have e2 := cell_at hbox2' 1; have z2 := frozen_at hbox2' 1))
    all_goals
      have hO : Only [w.heap.size] w1 (w2.setCell ⟨w.heap.size, 1, none⟩ (.slice (some ⟨g2, 0, none⟩) s.n cp2)) := ((Only.drew _ _).trans (Only.of_below hb2)).trans (Only.setCell (p := ⟨w.heap.size, 1, none⟩) _ (by simp) _)
      have hbox2 : (w2.setCell ⟨w.heap.size, 1, none⟩ (.slice (some ⟨g2, 0, none⟩) s.n cp2)).heap[w.heap.size]? = some (.cells #[.slice (some ⟨g1, 0, none⟩) s.n cp1, .slice (some ⟨g2, 0, none⟩) s.n cp2, .slice none 0 0, .int .i64 s.fuse, .int .i64 s.age] 62) := heap_setCell hbox2' 1 _
      have hr2 := hr1.kept hO nq ns ni nx
      have HB2 : Hid (Below w.heap.size w _) := HB1.out.trans (hO.below (Nat.le_of_lt hcl1) (by simp))
      obtain ⟨rR, rC2, rG⟩ := hrow2
      have ng2 : g2 ∉ [w.heap.size] := by have : w1.heap.size ≤ g2 := rG; simp; omega
      have lg2 : w.heap.size ≤ g2 := Nat.le_trans HB1.out.size rG
      have hR2 := rR.kept (Only.setCell (S := [w.heap.size]) (p := ⟨w.heap.size, 1, none⟩) w2 (by simp) (.slice (some ⟨g2, 0, none⟩) s.n cp2)) ng2
      have hR1_2 := hR1.kept hO ng1
      clear hO hr1 HB1 hbox1 hbox2' b1 e2 z2 hb2 rR rG hcl1 hqq
      generalize (w2.setCell ⟨w.heap.size, 1, none⟩ (.slice (some ⟨g2, 0, none⟩) s.n cp2)) = w2 at *
      go_wp2_with fail
      obtain ⟨cs, ci, cw, h0, h1, h2, h3, h4, _, _, _⟩ := hr2.cells
      have hcl2 := heap_lt hbox2
      have b2 := cell_at hbox2 2
      have hqq := h2
      clear h0 h1 h2 h3 h4
      go_region_law ((refine step_dup (by rfl) (.tmp 42) (.tmp 46) 60 (by rfl) 9 iS (.string ⟨#[]⟩) 16 Try.underlying60 hiS hzS0 hzS1 hzS2 rfl (by simp [Act.eval]) gw s.n cw (fun i => .string (X i)) (by simp [Act.eval]) hr2.drew.rx (fun _ => rfl) (by omega) hn8 (by decide) ?_; intro g3 cp3 w3 hrow3 hb3; have hbox3' := (hb3.block w.heap.size hcl2).trans hbox2; have e3 := cell_at hbox3' 2; have z3 := frozen_at hbox3' 2))
      all_goals
        have hO : Only [w.heap.size] w2 (w3.setCell ⟨w.heap.size, 2, none⟩ (.slice (some ⟨g3, 0, none⟩) s.n cp3)) := ((Only.drew _ _).trans (Only.of_below hb3)).trans (Only.setCell (p := ⟨w.heap.size, 2, none⟩) _ (by simp) _)
        have hbox3 : (w3.setCell ⟨w.heap.size, 2, none⟩ (.slice (some ⟨g3, 0, none⟩) s.n cp3)).heap[w.heap.size]? = some (.cells #[.slice (some ⟨g1, 0, none⟩) s.n cp1, .slice (some ⟨g2, 0, none⟩) s.n cp2, .slice (some ⟨g3, 0, none⟩) s.n cp3, .int .i64 s.fuse, .int .i64 s.age] 62) := heap_setCell hbox3' 2 _
        have hr3 := hr2.kept hO nq ns ni nx
        have HB3 : Hid (Below w.heap.size w _) := HB2.out.trans (hO.below (Nat.le_of_lt hcl2) (by simp))
        obtain ⟨rR, rC3, rG⟩ := hrow3
        have ng3 : g3 ∉ [w.heap.size] := by have : w2.heap.size ≤ g3 := rG; simp; omega
        have lg3 : w.heap.size ≤ g3 := Nat.le_trans HB2.out.size rG
        have hR3 := rR.kept (Only.setCell (S := [w.heap.size]) (p := ⟨w.heap.size, 2, none⟩) w3 (by simp) (.slice (some ⟨g3, 0, none⟩) s.n cp3)) ng3
        have hR1_3 := hR1_2.kept hO ng1
        have hR2_3 := hR2.kept hO ng2
        have ne13 : g1 ≠ g3 := by have h1 := hR1_2.lt; have : w2.heap.size ≤ g3 := rG; omega
        clear hO hr2 HB2 hbox2 hbox3' b2 e3 z3 hb3 rR rG hcl2 hqq
        generalize (w3.setCell ⟨w.heap.size, 2, none⟩ (.slice (some ⟨g3, 0, none⟩) s.n cp3)) = w3 at *
        go_wp2_with fail
        go_ret
        exact ⟨w.heap.size, rfl, ⟨g1, g2, g3, ⟨X, ⟨⟨cp1, cp2, cp3, hbox3, rC1, rC2, rC3⟩, hR1_3, hR2_3, hR3, ne13, hn0, hn8⟩, hX, hf0, hf1⟩, Nat.le_refl _, lg1, lg2, lg3⟩, HB3.out⟩
end Go.Proofs.Ythgdjgbikljbeaa
