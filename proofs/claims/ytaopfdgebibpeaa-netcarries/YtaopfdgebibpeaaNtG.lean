/-
  The contract of add.
-/
import Derived.Test.YtaopfdgebibpeaaNtF
import Derived.Deep.AppendLies
import Derived.Deep.RegionLaw
namespace Go.Proofs.Ytaopfdgebibpeaa.nt
open Go.Maps Go.WideShapes Go.RowKit Go.ChangeShapes Go.ChangeAt Go.PlainAid

theorem Try.infoLt : (Try.prog.info? 36).map (fun i => (i.zero, i.size, i.bytes)) = some (some (.agg #[.int .i64 0, .string ⟨#[]⟩]), 2, 24) := by kernel_rfl

set_option maxRecDepth 20000 in
set_option maxHeartbeats 1000000 in
theorem add_full (N : NtS) (x : LtD) (w : World) (h : IsNet w N) (hl : (N.L.length : Int) = N.room) :
    Calls Try.prog 21 #[.pointer (some ⟨N.p, 0, none⟩), x.v] w fun e w' => e = .returned (.int .i64 170) ∧ Below w.heap.size w w' := by
  have hb : Below w.heap.size w (w.alloc (.cells #[.int .i64 x.to, .string x.t] 36)) := (Below.refl _ w).alloc (Nat.le_refl _) _
  obtain ⟨c0, c1, -, -⟩ := (h.below hb).cells
  obtain ⟨ao, cp, hu⟩ := own_form h.row
  rw [hu] at c1
  rw [← hl] at c0
  unfold LtD.v
  clear hl hu
  go_enter Try.func21, Try.ntmps21
  go_wp2_with fail
  go_region
  go_wp2_with fail
  go_ret
  exact ⟨rfl, Below.drew hb⟩

theorem cnt_app (L : List LtD) (x k : LtD) : cnt (L ++ [x]) k = cnt L k + (if k = x then 1 else 0) := by
  unfold cnt
  rw [List.count_append, List.count_singleton]
  by_cases h : k = x
  · subst h; simp
  · have : ¬ x = k := fun e => h e.symm
    simp [h, this]
theorem cnt_le (L : List LtD) (x : LtD) : cnt L x ≤ L.length := List.count_le_length

/-- Behind the counting: the net's box and row are as they were, the map counts one more. -/
structure W6 (w w6 : World) (N : NtS) (x : LtD) : Prop where
  bx : w6.heap[N.p]? = some (.cells #[.int .i64 N.room, N.u, .map (some N.mb)] 52)
  row : w6.ownsRow 0 36 2 N.u N.L.length (lcs N.L)
  map : Cnt w6 N.mb (N.n + 1) (N.L ++ [x])
  lb : LB w6 w.heap.size x
  fr : ∃ w5, Below w.heap.size w w5 ∧ Only [N.mb] w5 w6

theorem w6_end {w w6 w7 : World} {N : NtS} {x : LtD} {g cap : Nat} {o : Obj} (h : IsNet w N) (hx : x.Sm) (hl : (N.L.length : Int) < N.room) (h6 : W6 w w6 N x)
    (hown : w7.ownsRow 0 36 2 (.slice (some ⟨g, 0, none⟩) (N.L.length + 1) cap) (N.L.length + 1) (lcs N.L ++ [.int .i64 x.to, .string x.t])) (hgr : (w6.alloc o).drew.grownBy w7 N.u.ownBlock) (hg : N.u.ownBlock = some g ∨ g = w6.heap.size + 1)
    (hx7 : w7.heap[N.p]? = some (.cells #[.int .i64 N.room, N.u, .map (some N.mb)] 52)) :
    ∃ u, IsNet (w7.setCell ⟨N.p, 1, none⟩ (.slice (some ⟨g, 0, none⟩) (N.L.length + 1) cap)) { N with u := u, L := N.L ++ [x], n := N.n + 1 } ∧ Only N.bl w (w7.setCell ⟨N.p, 1, none⟩ (.slice (some ⟨g, 0, none⟩) (N.L.length + 1) cap)) ∧ ∀ g, u.ownBlock = some g → g ∈ N.bl ∨ w.heap.size ≤ g := by
  have hap := h.apart
  obtain ⟨w5, b5, o6⟩ := h6.fr
  have hp6 := heap_lt h6.bx
  have o7 : Only N.u.ownBlock.toList w6 w7 := ((Only.alloc _ w6 o).trans (Only.drew _ _)).trans (Only.of_grown hgr (fun k hk => by simp [hk]))
  have o8 : Only [N.p] w7 (w7.setCell ⟨N.p, 1, none⟩ (.slice (some ⟨g, 0, none⟩) (N.L.length + 1) cap)) := Only.setCell w7 (p := ⟨N.p, 1, none⟩) (by simp) _
  have hgp : g ≠ N.p := by
    rcases hg with hg | rfl
    · rintro rfl; exact hap.2.1 hg
    · omega
  refine ⟨.slice (some ⟨g, 0, none⟩) (N.L.length + 1) cap, ⟨?_, ?_, ?_, ?_, h.rm, ?_⟩, ?_, ?_⟩
  · exact heap_setCell hx7 1 _
  · have := own_only hown o8 (fun k hk => by simp [Value.ownBlock] at hk; simp; rw [← hk]; exact hgp)
    rw [← lcs_one, ← lcs_append] at this
    simpa using this
  · refine (h6.map.only o7 (fun hm => ?_)).only o8 (by simp; exact fun e => hap.1 e.symm)
    simp at hm
    exact hap.2.2 hm
  · intro y hy
    rcases List.mem_append.1 hy with hy | hy
    · exact h.ok y hy
    · simp at hy; rw [hy]; exact hx
  · simp; omega
  · have s1 : Only N.bl w w5 := Only.of_below b5
    have s2 : Only N.bl w5 w6 := o6.mono (by simp [NtS.bl])
    have s3 : Only N.bl w6 w7 := o7.mono (fun k hk => by simp at hk; simp [NtS.bl, hk])
    exact ((s1.trans s2).trans s3).trans (o8.mono (by simp [NtS.bl]))
  · intro k hk
    simp [Value.ownBlock] at hk
    subst hk
    rcases hg with hg | rfl
    · exact .inl (by simp [NtS.bl, hg])
    · exact .inr (by have := b5.size; have := o6.size; omega)

set_option maxRecDepth 20000 in
set_option maxHeartbeats 1000000 in
theorem add_ok (N : NtS) (x : LtD) (w : World) (h : IsNet w N) (hx : x.Sm) (hl : (N.L.length : Int) < N.room) (hn : N.n < 1152921504606846976) :
    Calls Try.prog 21 #[.pointer (some ⟨N.p, 0, none⟩), x.v] w fun e w' => e = .returned (.int .i64 0) ∧ ∃ u, IsNet w' { N with u := u, L := N.L ++ [x], n := N.n + 1 } ∧ Only N.bl w w' ∧ ∀ g, u.ownBlock = some g → g ∈ N.bl ∨ w.heap.size ≤ g := by
  have hb : Below w.heap.size w (w.alloc (.cells #[.int .i64 x.to, .string x.t] 36)) := (Below.refl _ w).alloc (Nat.le_refl _) _
  have hN1 := h.below hb
  have hl1 := lb_new w x
  have hlt := h.lt
  obtain ⟨c0, c1, -, -⟩ := hN1.cells
  obtain ⟨ao, cp, hu⟩ := own_form h.row
  have hne : ((N.L.length : Int) == N.room) = false := beq_eq_false_iff_ne.2 (by omega)
  have hr3 := h.rm.2
  have how := fun W hW => own_any N x W hW hx
  unfold LtD.v at *
  rw [hu] at c1
  go_enter Try.func21, Try.ntmps21
  go_wp2_with fail
  go_region
  have hN2 := hN1.only (Only.drew [] _) (by simp)
  have hl2 := hl1.only (Only.drew [] _) (by simp)
  have hb2 := Below.drew hb
  clear hb hN1 hl1 c0 c1
  generalize (w.alloc (.cells #[.int .i64 x.to, .string x.t] 36)).drew = w1 at *
  obtain ⟨y0, y1, -, -⟩ := hl2.facts
  go_wp2_with (go_at_call 36; refine (how _ hN2).mono ?_; rintro e w2 ⟨rfl, hb3⟩; have hl3 := hl2.below hb3; have hN3 := hN2.below hb3; obtain ⟨z0, z1, z2, z3⟩ := hl3.facts)
  have hp0 : w.heap.size ∉ N.bl := fun e => Nat.lt_irrefl _ (hlt _ e)
  have hl4 := hl3.set x
  have ho4 : Only [w.heap.size] w2 ((w2.setCell ⟨w.heap.size, 0, none⟩ (.int .i64 x.to)).setCell ⟨w.heap.size, 1, none⟩ (.string x.t)) := (Only.setCell (p := ⟨w.heap.size, 0, none⟩) w2 (by simp) _).trans (Only.setCell (p := ⟨w.heap.size, 1, none⟩) _ (by simp) _)
  have hN4 := hN3.only ho4 (fun b hb e => by simp at e; exact hp0 (e ▸ hb))
  have hB4 : Below w.heap.size w ((w2.setCell ⟨w.heap.size, 0, none⟩ (.int .i64 x.to)).setCell ⟨w.heap.size, 1, none⟩ (.string x.t)) := below_set (below_set (chain hb2 hb3) (Nat.le_refl _)) (Nat.le_refl _)
  clear hN2 hl2 hb2 hb3 hl3 hN3 ho4 y0 y1 z0 z1 z2 z3 how
  generalize (w2.setCell ⟨w.heap.size, 0, none⟩ (.int .i64 x.to)).setCell ⟨w.heap.size, 1, none⟩ (.string x.t) = w4 at *
  have hN5 : IsNet w4.drew N := hN4.only (Only.drew [] _) (by simp)
  have hl5 : LB w4.drew w.heap.size x := hl4.only (Only.drew [] _) (by simp)
  have hB5 : Below w.heap.size w w4.drew := Below.drew hB4
  have hlk := hN5.map.look hx.wf
  have hcc := cnt_le N.L x
  have hM1 : cnt (N.L ++ [x]) x = cnt N.L x + 1 := by rw [cnt_app, if_pos rfl]
  obtain ⟨v0, st, w5, hE, ho5, hC5, w6, hS, hM6, ho6⟩ := hN5.map.put (M := N.L ++ [x]) (by unfold maxLen; omega) hx.wf (fun k hk => by rw [cnt_app, if_neg hk]; omega) (by rw [hM1]; omega)
  rw [hM1] at hS
  have hS' : (Instr.entryStore 50 (.map (some N.mb)) (.int .i64 st) (.int .i64 ((cnt N.L x : Int) + 1))).run Try.prog w5 = .ok () w6 := hS
  have hlk5 := hC5.look hx.wf
  unfold LtD.v at hE hlk hlk5
  have hE' : (Instr.mapEntry 50 (.map (some N.mb)) (.agg #[.int .i64 x.to, .string x.t])).run Try.prog w4.drew = .ok (.tuple #[v0, .int .i64 st]) w5 := hE
  have hap := h.apart
  have hmb : w.heap.size ≠ N.mb := fun e => hp0 (by rw [e]; simp [NtS.bl])
  obtain ⟨-, -, d2, -⟩ := hN4.cells
  obtain ⟨-, -, f2, -⟩ := (IsNet.cells_of (only_heap hN5.bx ho5 (by simp; exact hap.1)))
  obtain ⟨g0, g1, -, -⟩ := (hl5.only ho5 (by simp; exact hmb)).facts
  obtain ⟨y0, y1, -, -⟩ := hl4.facts
  clear hE hS
  go_region
  have hN6 : W6 w w6 N x := ⟨only_heap hN5.bx ho6 (by simp; exact hap.1), own_only hN5.row ho6 (fun g hg => by simp; rintro rfl; exact hap.2.2 hg), hM6, hl5.only ho6 (by simp; exact hmb), _, hB5, ho6⟩
  clear hN4 hl4 hB4 hN5 hl5 hB5 hlk ho5 hC5 hM6 ho6 hS' hlk5 hE' d2 f2 g0 g1 y0 y1 hM1 hcc
  obtain ⟨iL, hi, hz0, hz1, hz2⟩ := info_parts Try.infoLt
  obtain ⟨e0, e1, -, e3⟩ := IsNet.cells_of hN6.bx
  obtain ⟨g0, g1, -, -⟩ := hN6.lb.facts
  have hrow := hN6.row
  have hbx6 := hN6.bx
  have hs6 : w.heap.size < w6.heap.size := heap_lt hN6.lb
  have hap2 : some N.p ≠ N.u.ownBlock := fun e => hap.2.1 e.symm
  have hpl : N.p < (w6.drew.alloc (.cells #[.int .i64 x.to, .string x.t] 36)).heap.size := by have := heap_lt hbx6; simp; omega
  have hpe : (w6.drew.alloc (.cells #[.int .i64 x.to, .string x.t] 36)).heap[N.p]? = some (.cells #[.int .i64 N.room, N.u, .map (some N.mb)] 52) := (Below.heap_alloc w6.drew _ _ (heap_lt hbx6)).trans hbx6
  obtain ⟨-, q1, -, q3⟩ : (w6.alloc (.cells #[.int .i64 x.to, .string x.t] 36)).cell? ⟨N.p, 0, none⟩ = some (.int .i64 N.room) ∧ (w6.alloc (.cells #[.int .i64 x.to, .string x.t] 36)).cell? ⟨N.p, 1, none⟩ = some N.u ∧ _ ∧ _ := IsNet.cells_of hpe
  clear hu hne
  go_wp2_with fail
  go_region_law (refine step_append_lies _ (by rfl) (.tmp 31) (.tmp 33) 29 (by rfl) 0 36 iL (.agg #[.int .i64 0, .string ⟨#[]⟩]) 2 24 Try.underlying29 hi hz0 hz1 hz2 rfl (by decide) N.u N.L.length (lcs N.L) (by simp [Act.eval]) (World.ownsRow.alloc (w := w6.drew) hrow _) ⟨w6.heap.size, 0, none⟩ 1 1 [.int .i64 x.to, .string x.t] (by simp [Act.eval]) rfl (World.news_of_block (heap_alloc_new w6.drew _)) (by simp [Value.oneCell']) (by decide) (by unfold maxLen; omega) (by omega) (Nat.zero_le _) (w6.heap.size + 1) (by simp) ?_; intro g cap w7 hown hgr hg hlt7; have hx7 := (hgr.block N.p hpl hap2).trans hpe; obtain ⟨-, k1, -, k3⟩ := IsNet.cells_of hx7)
  all_goals (go_wp2_with fail)
  all_goals
    go_ret
    exact ⟨rfl, w6_end h hx hl hN6 hown hgr hg hx7⟩
end Go.Proofs.Ytaopfdgebibpeaa.nt
