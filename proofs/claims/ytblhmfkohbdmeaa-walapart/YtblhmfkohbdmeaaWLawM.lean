/-
  stages.
-/
import Derived.Test.YtblhmfkohbdmeaaWLawL
namespace Go.Proofs.Ytblhmfkohbdmeaa
open Go.RowKit Go.Maps

theorem rdT_src {W : World} {ao : Option Addr} {N cp : Nat} {T : List ByteArray} (h : RdT W (.slice ao N cp) T) (h0 : 0 < N) : T.length = N ∧ ∃ g, ao = some ⟨g, 0, none⟩ ∧ g < W.heap.size ∧ ∀ (j : Nat) (u : Value), (sv T)[j]? = some u → W.cell? ((⟨g, 0, none⟩ : Addr).add j) = some u := by
  obtain ⟨ao', cp', e, hc, h1⟩ := h
  cases e
  obtain ⟨g, cur, e1, hg, _⟩ := h1 0 T[0] (by simp [h0])
  refine ⟨rfl, g, e1, heap_lt hg, fun j u hu => ?_⟩
  have hj : j < T.length := by
    have := (List.getElem?_eq_some_iff.1 hu).1
    simpa [sv] using this
  have hu' : u = .string T[j] := by
    simp [sv, hj] at hu
    exact hu.symm
  subst hu'
  obtain ⟨g', cur', e2, hg', hc'⟩ := h1 j T[j] (by simp [hj])
  rw [e1] at e2
  cases e2
  rw [Addr.add_mid, cell_at hg', Nat.zero_add]
  exact hc'


section
variable {W0 W : World} {A : PA} {pl : Bool} {s : DevS} {M : Nat → List ByteArray} {vl : Value} {late : List WrD} {B : Nat} {o : WrD}

set_option maxRecDepth 20000 in
set_option maxHeartbeats 2000000 in
theorem stages_down (h : IsP W0 W A pl pl s M vl late) (hI : PI A.N pl s M late B) (hox : o.Ok) (hd : (s.up && !pl) = false) :
    Calls Try.prog 50 #[.pointer (some ⟨A.q, 0, none⟩), .agg #[.int .i64 o.k, .string o.x]] W fun e w' => e = .returned (.bool true) ∧ After W0 w' A (B + 1) := by
  have hA : Below W.heap.size W (W.alloc (wrO o)) := (Below.refl _ _).alloc (Nat.le_refl _) _
  have hP1 := h.below hA
  have hbx := heap_alloc_last W (wrO o)
  have hNn := h.n
  have hN8 : A.N ≤ 8192 := by have := h.dev.hi; omega
  have hcap := h.cap
  have k0 := hox.k0
  have k1 := hox.k1
  have x1 : (o.x.size : Int) ≤ 9223372036854775807 := by have := hox.x1; unfold maxLen at this; omega
  obtain ⟨b0, b1⟩ := box_cells hbx
  obtain ⟨c0, c1, c2, c3, c4⟩ := hP1.cells
  have cU := up_any hP1.dev
  have HBX : Hid ((W.alloc (wrO o)).heap[W.heap.size]? = some (wrO o)) := hbx
  clear h hA hbx hox
  unfold wrO at *
  have HI : Hid (PI A.N true s M late (B + 1)) := ⟨fun h => (by cases h), hI.cr, fun i => Nat.le_succ_of_le (hI.len i), by omega, hI.ll⟩
  have hrd : rdy s s.age pl = false := by
    unfold rdy
    cases hu : s.up <;> cases hp : pl <;> simp_all
  have hPd := hP1.below (Below.refl _ _).drew
  have cS := stage_down hPd.wal hPd.dev o.k o.x hrd
  have HPd : Hid _ := hPd
  clear hI hP1 hPd hrd
  cases hu : s.up with
  | true =>
    rw [hu] at cU hd
    obtain rfl : pl = true := by simpa using hd
    clear hd hu
    go_enter Try.func50, Try.ntmps50
    go_wp2_with fail
    refine cU.mono ?_
    rintro e w' ⟨rfl, hw⟩
    rw [hw]
    clear hw w' cU
    go_wp2_with fail
    refine region_tail 8 Try.mixed (by kernel_rfl) ?_
    simp only [List.take_succ_cons, List.take_zero, List.drop_succ_cons, List.drop_zero]
    iterate 8 still_step
    refine wpStill_nil ?_
    go_wp2_with fail
    refine cS.mono ?_
    rintro e w3 ⟨rfl, hw3, hd3, ho3⟩
    have hP3 := HPd.out.step hd3 hw3 ho3 rfl
    obtain ⟨d0, d1, d2, d3, d4⟩ := hP3.cells
    have hz := hP3.frz 4
    have hP4 := hP3.setLost true
    clear cS HPd hP3 hw3 hd3 ho3
    go_wp2_with fail
    go_ret
    exact ⟨rfl, true, s, M, vl, late, hP4, HI.out⟩
  | false =>
    rw [hu] at cU
    clear hd hu
    go_enter Try.func50, Try.ntmps50
    go_wp2_with fail
    refine cU.mono ?_
    rintro e w' ⟨rfl, hw⟩
    rw [hw]
    clear hw w' cU
    go_wp2_with fail
    refine region_tail 8 Try.mixed (by kernel_rfl) ?_
    simp only [List.take_succ_cons, List.take_zero, List.drop_succ_cons, List.drop_zero]
    iterate 8 still_step
    refine wpStill_nil ?_
    go_wp2_with fail
    refine cS.mono ?_
    rintro e w3 ⟨rfl, hw3, hd3, ho3⟩
    have hP3 := HPd.out.step hd3 hw3 ho3 rfl
    obtain ⟨d0, d1, d2, d3, d4⟩ := hP3.cells
    have hz := hP3.frz 4
    have hP4 := hP3.setLost true
    clear cS HPd hP3 hw3 hd3 ho3
    go_wp2_with fail
    go_ret
    exact ⟨rfl, true, s, M, vl, late, hP4, HI.out⟩
set_option maxRecDepth 20000 in
set_option maxHeartbeats 2000000 in
theorem stages_neg (h : IsP W0 W A false false s M vl late) (hI : PI A.N false s M late B) (hox : o.Ok) (hu : s.up = true) (hk : o.k < 0) :
    Calls Try.prog 50 #[.pointer (some ⟨A.q, 0, none⟩), .agg #[.int .i64 o.k, .string o.x]] W fun e w' => e = .returned (.bool true) ∧ After W0 w' A (B + 1) := by
  have hA : Below W.heap.size W (W.alloc (wrO o)) := (Below.refl _ _).alloc (Nat.le_refl _) _
  have hP1 := h.below hA
  have hbx := heap_alloc_last W (wrO o)
  have hNn := h.n
  have hN8 : A.N ≤ 8192 := by have := h.dev.hi; omega
  have hcap := h.cap
  have k0 := hox.k0
  have k1 := hox.k1
  have x1 : (o.x.size : Int) ≤ 9223372036854775807 := by have := hox.x1; unfold maxLen at this; omega
  obtain ⟨b0, b1⟩ := box_cells hbx
  obtain ⟨c0, c1, c2, c3, c4⟩ := hP1.cells
  have cU := up_any hP1.dev
  have HBX : Hid ((W.alloc (wrO o)).heap[W.heap.size]? = some (wrO o)) := hbx
  clear h hA hbx hox
  unfold wrO at *
  have HI : Hid (PI A.N false s M late (B + 1)) := ⟨hI.live, hI.cr, fun i => Nat.le_succ_of_le (hI.len i), by omega, hI.ll⟩
  rw [hu] at cU
  have hPd := hP1.below (Below.refl _ _).drew
  have cS := stage_arg hPd.wal hPd.dev o.k o.x (rdy_true hu) (by simp; omega)
  have HPd : Hid _ := hPd
  clear hI hP1 hPd
  go_enter Try.func50, Try.ntmps50
  go_wp2_with fail
  refine cU.mono ?_
  rintro e w' ⟨rfl, hw⟩
  rw [hw]
  clear hw w' cU
  go_wp2_with fail
  refine region_tail 8 Try.mixed (by kernel_rfl) ?_
  simp only [List.take_succ_cons, List.take_zero, List.drop_succ_cons, List.drop_zero]
  iterate 8 still_step
  refine wpStill_nil ?_
  go_wp2_with fail
  refine cS.mono ?_
  rintro e w3 ⟨rfl, hw3, hd3, ho3⟩
  have hP3 := HPd.out.step hd3 hw3 ho3 rfl
  have hbx3 := (HPd.out.keepT ho3) _ _ _ (.inr rfl) HBX.out
  obtain ⟨d0, d1, d2, d3, d4⟩ := hP3.cells
  obtain ⟨f0, f1⟩ := box_cells (o := o) hbx3
  clear cS HPd hw3 hd3 ho3 b0 b1 c0 c1 c2 c3 c4
  have hPq : ∀ n, IsP W0 (w3.drewN n) A false false s M vl late := fun n => hP3.below (Only.drewN [] w3 n).nil_below
  have HPq : Hid (∀ n, IsP W0 (w3.drewN n) A false false s M vl late) := hPq
  clear hP3 hPq hbx3
  go_wp2_with fail
  go_quiet (fail)
  go_wp2_with fail
  go_ret
  exact ⟨rfl, false, s, M, vl, late, HPq.out _, HI.out⟩

set_option maxRecDepth 20000 in
set_option maxHeartbeats 2000000 in
theorem stages_big (h : IsP W0 W A false false s M vl late) (hI : PI A.N false s M late B) (hox : o.Ok) (hu : s.up = true) (hk0 : ¬ o.k < 0) (hk : (A.N : Int) ≤ o.k) :
    Calls Try.prog 50 #[.pointer (some ⟨A.q, 0, none⟩), .agg #[.int .i64 o.k, .string o.x]] W fun e w' => e = .returned (.bool true) ∧ After W0 w' A (B + 1) := by
  have hA : Below W.heap.size W (W.alloc (wrO o)) := (Below.refl _ _).alloc (Nat.le_refl _) _
  have hP1 := h.below hA
  have hbx := heap_alloc_last W (wrO o)
  have hNn := h.n
  have hN8 : A.N ≤ 8192 := by have := h.dev.hi; omega
  have hcap := h.cap
  have k0 := hox.k0
  have k1 := hox.k1
  have x1 : (o.x.size : Int) ≤ 9223372036854775807 := by have := hox.x1; unfold maxLen at this; omega
  obtain ⟨b0, b1⟩ := box_cells hbx
  obtain ⟨c0, c1, c2, c3, c4⟩ := hP1.cells
  have cU := up_any hP1.dev
  have HBX : Hid ((W.alloc (wrO o)).heap[W.heap.size]? = some (wrO o)) := hbx
  clear h hA hbx hox
  unfold wrO at *
  have HI : Hid (PI A.N false s M late (B + 1)) := ⟨hI.live, hI.cr, fun i => Nat.le_succ_of_le (hI.len i), by omega, hI.ll⟩
  rw [hu] at cU
  have hPd := hP1.below (Below.refl _ _).drew
  have cS := stage_arg hPd.wal hPd.dev o.k o.x (rdy_true hu) (by simp; omega)
  have HPd : Hid _ := hPd
  clear hI hP1 hPd
  go_enter Try.func50, Try.ntmps50
  go_wp2_with fail
  refine cU.mono ?_
  rintro e w' ⟨rfl, hw⟩
  rw [hw]
  clear hw w' cU
  go_wp2_with fail
  refine region_tail 8 Try.mixed (by kernel_rfl) ?_
  simp only [List.take_succ_cons, List.take_zero, List.drop_succ_cons, List.drop_zero]
  iterate 8 still_step
  refine wpStill_nil ?_
  go_wp2_with fail
  refine cS.mono ?_
  rintro e w3 ⟨rfl, hw3, hd3, ho3⟩
  have hP3 := HPd.out.step hd3 hw3 ho3 rfl
  have hbx3 := (HPd.out.keepT ho3) _ _ _ (.inr rfl) HBX.out
  obtain ⟨d0, d1, d2, d3, d4⟩ := hP3.cells
  obtain ⟨f0, f1⟩ := box_cells (o := o) hbx3
  clear cS HPd hw3 hd3 ho3 b0 b1 c0 c1 c2 c3 c4
  have hPq : ∀ n, IsP W0 (w3.drewN n) A false false s M vl late := fun n => hP3.below (Only.drewN [] w3 n).nil_below
  have HPq : Hid (∀ n, IsP W0 (w3.drewN n) A false false s M vl late) := hPq
  clear hP3 hPq hbx3
  go_wp2_with fail
  go_quiet (fail)
  go_wp2_with fail
  go_ret
  exact ⟨rfl, false, s, M, vl, late, HPq.out _, HI.out⟩

set_option maxRecDepth 20000 in
set_option maxHeartbeats 2000000 in
theorem stages_odd (h : IsP W0 W A false false s M vl late) (hI : PI A.N false s M late B) (hox : o.Ok) (hu : s.up = true) (hk0 : ¬ o.k < 0) (hk : ¬ (A.N : Int) ≤ o.k) (h64 : o.x.size ≠ 64) :
    Calls Try.prog 50 #[.pointer (some ⟨A.q, 0, none⟩), .agg #[.int .i64 o.k, .string o.x]] W fun e w' => e = .returned (.bool true) ∧ After W0 w' A (B + 1) := by
  have hA : Below W.heap.size W (W.alloc (wrO o)) := (Below.refl _ _).alloc (Nat.le_refl _) _
  have hP1 := h.below hA
  have hbx := heap_alloc_last W (wrO o)
  have hNn := h.n
  have hN8 : A.N ≤ 8192 := by have := h.dev.hi; omega
  have hcap := h.cap
  have k0 := hox.k0
  have k1 := hox.k1
  have x1 : (o.x.size : Int) ≤ 9223372036854775807 := by have := hox.x1; unfold maxLen at this; omega
  obtain ⟨b0, b1⟩ := box_cells hbx
  obtain ⟨c0, c1, c2, c3, c4⟩ := hP1.cells
  have cU := up_any hP1.dev
  have HBX : Hid ((W.alloc (wrO o)).heap[W.heap.size]? = some (wrO o)) := hbx
  clear h hA hbx hox
  unfold wrO at *
  have HI : Hid (PI A.N false s M late (B + 1)) := ⟨hI.live, hI.cr, fun i => Nat.le_succ_of_le (hI.len i), by omega, hI.ll⟩
  rw [hu] at cU
  have hPd := hP1.below (Below.refl _ _).drew
  have hwr : s.write o.k o.x = (1, s) := by
    unfold DevS.write
    rw [if_neg (by simp [hu]), if_pos (.inr h64)]
  have cS := stage_go hPd.wal hPd.dev o.k o.x (rdy_true hu) (by simp; omega)
  rw [hwr] at cS
  have hsx : ((o.x.size : Int) != 64) = true := by rw [bne_iff_ne]; omega
  have HPd : Hid _ := hPd
  clear hI hP1 hPd
  go_enter Try.func50, Try.ntmps50
  go_wp2_with fail
  refine cU.mono ?_
  rintro e w' ⟨rfl, hw⟩
  rw [hw]
  clear hw w' cU
  go_wp2_with fail
  refine region_tail 8 Try.mixed (by kernel_rfl) ?_
  simp only [List.take_succ_cons, List.take_zero, List.drop_succ_cons, List.drop_zero]
  iterate 8 still_step
  refine wpStill_nil ?_
  go_wp2_with fail
  refine cS.mono ?_
  rintro e w3 ⟨rfl, hw3, hd3, ho3⟩
  have hP3 := HPd.out.step hd3 hw3 ho3 rfl
  have hbx3 := (HPd.out.keepT ho3) _ _ _ (.inr rfl) HBX.out
  obtain ⟨d0, d1, d2, d3, d4⟩ := hP3.cells
  obtain ⟨f0, f1⟩ := box_cells (o := o) hbx3
  clear cS HPd hw3 hd3 ho3 b0 b1 c0 c1 c2 c3 c4
  have hPq : ∀ n, IsP W0 (w3.drewN n) A false false s M vl late := fun n => hP3.below (Only.drewN [] w3 n).nil_below
  have HPq : Hid (∀ n, IsP W0 (w3.drewN n) A false false s M vl late) := hPq
  clear hP3 hPq hbx3
  go_wp2_with fail
  go_quiet (fail)
  go_wp2_with fail
  go_ret
  exact ⟨rfl, false, s, M, vl, late, HPq.out _, HI.out⟩

end
end Go.Proofs.Ytblhmfkohbdmeaa
