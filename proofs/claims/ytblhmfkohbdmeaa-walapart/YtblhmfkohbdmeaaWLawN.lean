/-
  stages that go.
-/
import Derived.Test.YtblhmfkohbdmeaaWLawM
import Derived.Deep.DeepCutAuto
namespace Go.Proofs.Ytblhmfkohbdmeaa
open Go.RowKit Go.Maps

section
variable {W0 W : World} {A : PA} {pl : Bool} {s : DevS} {M : Nat → List ByteArray} {vl : Value} {late : List WrD} {B : Nat} {o : WrD}

theorem live_stage {N : Nat} {s : DevS} {M : Nat → List ByteArray} (h : Live N s M) (j : Nat) (hj : j < N) (t : Sec) (g : Int) (x : ByteArray) (hx : x = Go.Proofs.Ytblhmfkohbdmeaa.mk t) : Live N { s with waits := putF s.waits j t, fuse := g } (setM M j (x :: M j)) := by
  refine ⟨h.n, h.hs, ?_, fun i hi => ?_, fun i hi => ?_⟩
  · rw [readAt_write, if_neg (by omega)]; exact h.hr
  · rw [readAt_write]
    unfold setM
    by_cases e : i = j
    · subst e
      rw [if_pos rfl, if_pos rfl, hx]
      exact ⟨_, rfl⟩
    · rw [if_neg e, if_neg e]
      exact h.hd i hi
  · unfold setM
    rw [safeAt_write]
    by_cases e : i = j
    · subst e
      rw [if_pos rfl]
      exact List.mem_cons_of_mem _ (h.sf i hi)
    · rw [if_neg e]
      exact h.sf i hi

set_option maxRecDepth 20000 in
set_option maxHeartbeats 2000000 in
theorem stages_go (h : IsP W0 W A false false s M vl late) (hI : PI A.N false s M late B) (hox : o.Ok) (hu : s.up = true) (j : Nat) (hj : o.k = (j : Int)) (hjN : j < A.N) (h64 : o.x.size = 64) (hB : B ≤ 4000000000000) :
    Calls Try.prog 50 #[.pointer (some ⟨A.q, 0, none⟩), .agg #[.int .i64 o.k, .string o.x]] W fun e w' => e = .returned (.bool true) ∧ After W0 w' A (B + 1) := by
  have hA : Below W.heap.size W (W.alloc (wrO o)) := (Below.refl _ _).alloc (Nat.le_refl _) _
  have hP1 := h.below hA
  have hbx := heap_alloc_last W (wrO o)
  have hNn := h.n
  have hN8 : A.N ≤ 8192 := by have := h.dev.hi; omega
  have hcap := h.cap
  have k0 := hox.k0
  have k1 := hox.k1
  have x1 : (o.x.size : Int) ≤ 9223372036854775807 := by have := hox.x1; unfold maxLen at this; omega
  obtain ⟨b0, b1⟩ := box_cells hbx
  obtain ⟨c0, c1, c2, c3, c4⟩ := hP1.cells
  have cU := up_any hP1.dev
  have HBX : Hid ((W.alloc (wrO o)).heap[W.heap.size]? = some (wrO o)) := hbx
  clear h hA hbx hox
  unfold wrO at *
  obtain ⟨hLv, hl0⟩ := hI.live rfl
  have hx64 : o.x.data.toList.length = 64 := by rw [Array.length_toList]; exact h64
  have hwr : s.write o.k o.x = (0, { s with waits := putF s.waits j o.x.data.toList, fuse := burnt s.fuse }) := by
    have := write_go hu j (by omega) o.x.data.toList hx64
    rw [mk_data, ← hj] at this
    exact this
  have hLn := live_stage hLv j hjN o.x.data.toList (burnt s.fuse) o.x (mk_data o.x).symm
  have HI : Hid (PI A.N false { s with waits := putF s.waits j o.x.data.toList, fuse := burnt s.fuse } (setM M j (o.x :: M j)) late (B + 1)) := ⟨fun _ => ⟨hLn, hl0⟩, hLn.cr late, fun i => by
    unfold setM
    split
    · simp; exact hI.len j
    · exact Nat.le_succ_of_le (hI.len i), by omega, hI.ll⟩
  have HLn : Hid _ := hLn
  have hMl : (M j).length ≤ 4000000000000 := Nat.le_trans (hI.len j) hB
  obtain ⟨L0, hL0⟩ := hLv.hd j hjN
  have hMpos : 0 < (M j).length := by rw [hL0]; simp
  rw [hu] at cU
  have hPd := hP1.below (Below.refl _ _).drew
  have cS := stage_go hPd.wal hPd.dev o.k o.x (rdy_true hu) (by simp; omega)
  rw [hwr] at cS
  have hsx : ((o.x.size : Int) != 64) = false := by rw [h64]; rfl
  have hj0 : ¬ (o.k : Int) < 0 := by omega
  have hj1 : ¬ (A.N : Int) ≤ o.k := by omega
  have HPd : Hid _ := hPd
  have hjt : o.k.toNat = j := by omega
  have HJ : Hid (o.k = (j : Int)) := hj
  clear hI hP1 hPd hwr hLv hl0 hLn hL0 hx64 hj
  go_enter Try.func50, Try.ntmps50
  go_wp2_with fail
  refine cU.mono ?_
  rintro e w' ⟨rfl, hw⟩
  rw [hw]
  clear hw w' cU
  go_wp2_with fail
  refine region_tail 8 Try.mixed (by kernel_rfl) ?_
  simp only [List.take_succ_cons, List.take_zero, List.drop_succ_cons, List.drop_zero]
  iterate 8 still_step
  refine wpStill_nil ?_
  go_wp2_with fail
  refine cS.mono ?_
  rintro e w3 ⟨rfl, hw3, hd3, ho3⟩
  have hP3 := HPd.out.step hd3 hw3 ho3 rfl
  have hbx3 := (HPd.out.keepT ho3) _ _ _ (.inr rfl) HBX.out
  obtain ⟨d0, d1, d2, d3, d4⟩ := hP3.cells
  obtain ⟨f0, f1⟩ := box_cells (o := o) hbx3
  clear cS HPd hw3 hd3 ho3 b0 b1 c0 c1 c2 c3 c4
  have hP3' : IsP W0 w3 A false false ({ s with waits := putF s.waits j o.x.data.toList, fuse := burnt s.fuse } : DevS) M vl late := hP3
  clear hP3
  generalize HS : ({ s with waits := putF s.waits j o.x.data.toList, fuse := burnt s.fuse } : DevS) = s' at *
  clear HS
  have hPq : ∀ n, IsP W0 (w3.drewN n) A false false s' M vl late := fun n => hP3'.below (Only.drewN [] w3 n).nil_below
  have HPq : Hid (∀ n, IsP W0 (w3.drewN n) A false false s' M vl late) := hPq
  clear hP3' hPq
  obtain ⟨iS, hiS, hzS0, hzS1, hzS2⟩ := info_parts Try.infoS
  go_wp2_with fail
  go_quiet (fail)
  have hPb := HPq.out nq
  have hbxb : (w3.drewN nq).heap[W.heap.size]? = some (wrO o) := hbx3
  clear HPq hbx3 d0 d1 d2 d3 d4 f0 f1
  generalize w3.drewN nq = Wb at *
  obtain ⟨d0, d1, d2, d3, d4⟩ := hPb.cells
  obtain ⟨f0, f1⟩ := box_cells (o := o) hbxb
  go_wp2_with fail
  have hbc : Below Wb.heap.size Wb ((Wb.alloc (.cells #[.string o.x] 9)).drew) := ((Below.refl _ Wb).alloc (Nat.le_refl _) _).drew
  have hPc := hPb.below hbc
  obtain ⟨aoS, cpS, hcS, hTS, _⟩ := hPc.mayAt j hjN
  obtain ⟨_, gS, rfl, hgS, hsrc⟩ := rdT_src hTS hMpos
  have hownl : ((Wb.alloc (.cells #[.string o.x] 9)).drew).ownsRow Wb.heap.size 9 1 (.slice (some ⟨Wb.heap.size, 0, none⟩) 1 1) 1 [.string o.x] :=
    ⟨rfl, .inr ⟨Wb.heap.size, 1, #[.string o.x], rfl, Nat.le_refl _, heap_alloc_last Wb _, Nat.le_refl _, by decide, rfl, rfl⟩⟩
  have hs1 : ∀ u ∈ sv (M j), u.oneCell' = true := by
    intro u hu
    obtain ⟨b, _, rfl⟩ := List.mem_map.1 hu
    rfl
  have hsl : (sv (M j)).length = (M j).length * 1 := by rw [sv_len]; omega
  have hWs : ((Wb.alloc (.cells #[.string o.x] 9)).drew).heap.size = Wb.heap.size + 1 := World.size_alloc _ _
  have happ : ∀ (g cap : Nat) (w6 : World), ((Wb.alloc (.cells #[.string o.x] 9)).drew).grownBy w6 (Value.slice (some ⟨Wb.heap.size, 0, none⟩) 1 1).ownBlock → w6.ownsRow Wb.heap.size 9 1 (.slice (some ⟨g, 0, none⟩) (1 + (M j).length) cap) (1 + (M j).length) ([.string o.x] ++ sv (M j)) →
      IsP W0 (w6.setCell ⟨A.gm, j, none⟩ (.slice (some ⟨g, 0, none⟩) (1 + (M j).length) cap)) A false false s' (setM M j (o.x :: M j)) vl late ∧ (∃ u, w6.cell? ⟨A.gm, j, none⟩ = some u) ∧ w6.frozen? ⟨A.gm, j, none⟩ = false ∧ (w6.cell? ⟨A.q, 2, none⟩ = some (.slice (some ⟨A.gm, 0, none⟩) A.N A.cp) ∧ w6.cell? ⟨W.heap.size, 0, none⟩ = some (.int .i64 o.k)) ∧ ((w6.setCell ⟨A.gm, j, none⟩ (.slice (some ⟨g, 0, none⟩) (1 + (M j).length) cap)).cell? ⟨A.q, 2, none⟩ = some (.slice (some ⟨A.gm, 0, none⟩) A.N A.cp) ∧ (w6.setCell ⟨A.gm, j, none⟩ (.slice (some ⟨g, 0, none⟩) (1 + (M j).length) cap)).cell? ⟨W.heap.size, 0, none⟩ = some (.int .i64 o.k)) := fun g cap w6 hg ho => by
    have hb6 : Below Wb.heap.size Wb w6 := hbc.grown hg (by omega) (fun k hk => by
      have : Wb.heap.size = k := by simpa [Value.ownBlock] using hk
      omega)
    have hP6 := hPb.below hb6
    obtain ⟨ao', cp', h1, _, h2⟩ := hP6.mayAt j hjN
    have hl' : (o.x :: M j).length = 1 + (M j).length := by simp; omega
    have hT : RdT w6 (.slice (some ⟨g, 0, none⟩) (1 + (M j).length) cap) (o.x :: M j) := RdT.of_own (B := Wb.heap.size) (by rw [hl']; exact ho)
    have hy := (hb6.cell (p := ⟨W.heap.size, 0, none⟩) (heap_lt hbxb)).trans f0
    have hbx6 := (hb6.block W.heap.size (heap_lt hbxb)).trans hbxb
    obtain ⟨curm, hcm, _⟩ := hP6.may
    have hne1 : W.heap.size ≠ A.gm := q_ne (t := 57) hbx6 hcm (by decide)
    have hPz := hP6.setMay hjN hT
    exact ⟨hPz, ⟨_, h1⟩, h2, ⟨hP6.cells.2.2.1, hy⟩, ⟨hPz.cells.2.2.1, (World.cell?_of_block (a := ⟨W.heap.size, 0, none⟩) ((Only.setCell (S := [A.gm]) w6 (p := ⟨A.gm, j, none⟩) (by simp) _).block W.heap.size (heap_lt hbx6) (by simpa using hne1))).trans hy⟩⟩
  obtain ⟨e0, e1, e2, e3, e4⟩ := hPc.cells
  have hb0 : ((Wb.alloc (.cells #[.string o.x] 9)).drew).cell? ⟨W.heap.size, 0, none⟩ = some (.int .i64 o.k) := (hbc.cell (p := ⟨W.heap.size, 0, none⟩) (heap_lt hbxb)).trans f0
  have HSR : Hid _ := hsrc
  have HS1 : Hid _ := hs1
  have HOW : Hid _ := hownl
  have HAP : Hid _ := happ
  clear hPc hTS hsrc hs1 hownl happ hPb hbxb d0 d1 d2 d3 d4 f0 f1 hbc
  go_cut [108] (fun t wx => IsP W0 wx A false false s' (setM M j (o.x :: M j)) vl late)
  case first =>
   go_region_law (first
    | (refine step_append_lies _ (by rfl) (.tmp 99) (.tmp 107) 62 (by rfl) Wb.heap.size 9 iS (.string ⟨#[]⟩) 1 16 Try.underlying62 hiS hzS0 hzS1 hzS2 rfl (by decide) (.slice (some ⟨Wb.heap.size, 0, none⟩) 1 1) 1 [.string o.x] (by simp [Act.eval]) HOW.out ⟨gS, 0, none⟩ (M j).length cpS (sv (M j)) (by simp [Act.eval]) hsl HSR.out HS1.out hMpos (by unfold maxLen; omega) (by omega) (by omega) (Wb.heap.size + 1) hWs ?_; intro g cap w6 hown6 hgr6 hat6 hlt6; obtain ⟨hP7, ⟨u6, e6⟩, z6, ⟨y6, y7⟩, _⟩ := HAP.out g cap w6 hgr6 hown6))
   all_goals
     clear HSR HS1 HOW HAP hown6 hgr6 hat6 hlt6 e6 z6 y6 y7 e0 e1 e2 e3 e4 hb0 hcS
     go_wp2_with fail
     go_meet
     exact hP7
  case rest =>
    clear HSR HS1 HOW HAP e0 e1 e2 e3 e4 hb0 hcS
    have cR := reads2_any hcut HLn.out.hd
    clear hcut
    go_wp2_with fail
    refine cR.mono ?_
    rintro e w9 ⟨rfl, hP9⟩
    clear cR
    go_wp2_with fail
    go_ret
    exact ⟨rfl, false, s', _, vl, late, hP9, HI.out⟩

end
end Go.Proofs.Ytblhmfkohbdmeaa
