/-
  does: a call of both, that were the same, answers the same, and they are the same behind it.
-/
import Derived.Test.YthgdjgbikljbeaaLooks
import Derived.Test.YthgdjgbikljbeaaLawP
import Derived.Deep.RegionHeld3
namespace Go.Proofs.Ythgdjgbikljbeaa
open Go.RowKit Go.Maps

/-- A device and the reference's that are the same, in one world. -/
structure Both (w : World) (p bs bw q gs gi gw : Nat) (s : DevS) : Prop where
  d : IsDev w p bs bw s
  r : IsRef w q gs gi gw s

theorem ref_kept {w w' : World} {p bs bw q gs gi gw : Nat} {s r : DevS} (hd : IsDev w p bs bw s) (hr : IsRef w q gs gi gw r) (ho : Only [p, bs, bw] w w') : IsRef w' q gs gi gw r := by
  obtain ⟨⟨h1, h2, h3, h4⟩, _⟩ := hr.apart hd
  exact hr.kept ho h1 h2 h3 h4
theorem dev_kept {w w' : World} {p bs bw q gs gi gw : Nat} {s r : DevS} (hd : IsDev w p bs bw s) (hr : IsRef w q gs gi gw r) (ho : Only [q, gs, gi, gw] w w') : IsDev w' p bs bw s := by
  obtain ⟨_, h1, h2, h3⟩ := hr.apart hd
  exact hd.kept ho h1 h2 h3
theorem IsRef.lt {w : World} {q gs gi gw : Nat} {s : DevS} (h : IsRef w q gs gi gw s) : q < w.heap.size ∧ gs < w.heap.size ∧ gi < w.heap.size ∧ gw < w.heap.size := by
  obtain ⟨X, h, _⟩ := h
  obtain ⟨_, _, _, e, _⟩ := h.str
  exact ⟨heap_lt e, h.rs.lt, h.ri.lt, h.rx.lt⟩

/-- The box of a step. -/
abbrev boxO (o : OpD) : Obj := .cells #[.int .i64 o.d, .int .i64 o.k, .string o.x, .bool o.f] 35
def Boxed (w : World) (b : Nat) (o : OpD) : Prop := w.heap[b]? = some (boxO o)
theorem Boxed.cells {w : World} {b : Nat} {o : OpD} (h : Boxed w b o) : w.cell? ⟨b, 0, none⟩ = some (.int .i64 o.d) ∧ w.cell? ⟨b, 1, none⟩ = some (.int .i64 o.k) ∧ w.cell? ⟨b, 2, none⟩ = some (.string o.x) ∧ w.cell? ⟨b, 3, none⟩ = some (.bool o.f) :=
  ⟨cell_at h 0, cell_at h 1, cell_at h 2, cell_at h 3⟩
theorem Boxed.below {w w' : World} {b : Nat} {o : OpD} (h : Boxed w b o) (hb : Below w.heap.size w w') : Boxed w' b o := (hb.block b (heap_lt h)).trans h
theorem Boxed.kept {w w' : World} {b : Nat} {o : OpD} {L : List Nat} (h : Boxed w b o) (ho : Only L w w') (hn : b ∉ L) : Boxed w' b o := only_heap h ho hn

section
variable {w w' : World} {p bs bw q gs gi gw b : Nat} {s r : DevS} {o : OpD}
/-- What stands in the midst of a step: the device at s, the reference's at r, the box. -/
structure MidS (w : World) (p bs bw q gs gi gw b : Nat) (s r : DevS) (o : OpD) : Prop where
  d : IsDev w p bs bw s
  r : IsRef w q gs gi gw r
  x : Boxed w b o
  n1 : b ∉ [p, bs, bw]
  n2 : b ∉ [q, gs, gi, gw]
theorem MidS.below (h : MidS w p bs bw q gs gi gw b s r o) (hb : Below w.heap.size w w') : MidS w' p bs bw q gs gi gw b s r o := ⟨h.d.below hb, h.r.below hb, h.x.below hb, h.n1, h.n2⟩
theorem MidS.drew (h : MidS w p bs bw q gs gi gw b s r o) : MidS w.drew p bs bw q gs gi gw b s r o := h.below (Only.drew [] w).nil_below
theorem MidS.dev {s' : DevS} (h : MidS w p bs bw q gs gi gw b s r o) (hd : IsDev w' p bs bw s') (ho : Only [p, bs, bw] w w') : MidS w' p bs bw q gs gi gw b s' r o := ⟨hd, ref_kept h.d h.r ho, h.x.kept ho h.n1, h.n1, h.n2⟩
theorem MidS.ref {r' : DevS} (h : MidS w p bs bw q gs gi gw b s r o) (hr : IsRef w' q gs gi gw r') (ho : Only [q, gs, gi, gw] w w') : MidS w' p bs bw q gs gi gw b s r' o := ⟨dev_kept h.d h.r ho, hr, h.x.kept ho h.n2, h.n1, h.n2⟩
theorem midS_start (hd : IsDev w p bs bw s) (hr : IsRef w q gs gi gw s) (o : OpD) : MidS (w.alloc (boxO o)) p bs bw q gs gi gw w.heap.size s s o := by
  have hb := (Only.alloc [] w (boxO o)).nil_below
  obtain ⟨a1, a2, a3, a4⟩ := hr.lt
  have b1 := hd.ltp
  have b2 := hd.lts
  have b3 := hd.ltw
  exact ⟨hd.below hb, hr.below hb, heap_alloc_last w _, by simp; omega, by simp; omega⟩
end

set_option maxRecDepth 20000 in
set_option maxHeartbeats 4000000 in
theorem does_true {w : World} {p bs bw q gs gi gw : Nat} {s : DevS} (hd : IsDev w p bs bw s) (hr : IsRef w q gs gi gw s) (o : OpD) (ho : o.Ok) :
    Calls Try.prog 13 #[.pointer (some ⟨p, 0, none⟩), .pointer (some ⟨q, 0, none⟩), o.val] w fun e w' => ∃ s', e = .returned (.bool true) ∧ Both w' p bs bw q gs gi gw s' ∧ Only [p, bs, bw, q, gs, gi, gw] w w' := by
  have hM := midS_start hd hr o
  have hO : Only [p, bs, bw, q, gs, gi, gw] w (w.alloc (boxO o)) := Only.alloc _ _ _
  have hx := ho.x1
  have hk0 := ho.k0
  have hk1 := ho.k1
  unfold OpD.val
  clear hd hr ho
  have sub1 : ∀ k ∈ [p, bs, bw], k ∈ [p, bs, bw, q, gs, gi, gw] := by intro k hk; simp at hk ⊢; omega
  have sub2 : ∀ k ∈ [q, gs, gi, gw], k ∈ [p, bs, bw, q, gs, gi, gw] := by intro k hk; simp at hk ⊢; omega
  obtain ⟨g0, g1, g2, g3⟩ := hM.x.cells
  by_cases q0 : o.d = 0
  · have q0' : (o.d == 0) = true := by simpa using q0
    clear q0
    have hMd := hM.drew
    have hOd := hO.trans (Only.drew _ _)
    have hc0 := hMd.x.cells
    clear hM hO
    go_enter Try.func13, Try.ntmps13
    go_wp2_with fail
    clear g0 g1 g2 g3
    go_region_held3 (fun W => W.cell? ⟨w.heap.size, 0, none⟩ = some (.int .i64 o.d) ∧ W.cell? ⟨w.heap.size, 1, none⟩ = some (.int .i64 o.k) ∧ W.cell? ⟨w.heap.size, 2, none⟩ = some (.string o.x) ∧ W.cell? ⟨w.heap.size, 3, none⟩ = some (.bool o.f)) (first | assumption | go_keep)
      (first
        | (go_at_call 27; have hz := hMd; refine (opBytes_any _ _ _ _ _ hx).mono ?_; rintro e w3 ⟨rfl, hb3⟩; have hM3 := hMd.below hb3; have hc3 := hM3.x.cells; have hO3 := hOd.trans (Only.of_below hb3); clear hMd hOd hb3 hz)
        | (go_at_call 17; refine (write_all hM3.d _ _).mono ?_; rintro e w4 ⟨rfl, hd4, ho4⟩; have hM4 := hM3.dev hd4 ho4; have hc4 := hM4.x.cells; have hO4 := hO3.trans (ho4.mono sub1); clear hM3 hO3 hd4 ho4)
        | (go_at_call 27; have hz := hM4; refine (opBytes_any _ _ _ _ _ hx).mono ?_; rintro e w5 ⟨rfl, hb5⟩; have hM5 := hM4.below hb5; have hc5 := hM5.x.cells; have hO5 := hO4.trans (Only.of_below hb5); clear hM4 hO4 hb5 hz)
        | (go_at_call 37; refine (rwrite_all hM5.r _ _).mono ?_; rintro e w6 ⟨rfl, hr6, ho6⟩; have hM6 := hM5.ref hr6 ho6; have hc6 := hM6.x.cells; have hO6 := hO5.trans (ho6.mono sub2); clear hM5 hO5 hr6 ho6))
    clear hc0 hc3 hc4 hc5 hc6
    go_wp2_with fail
    go_ret
    exact ⟨_, rfl, ⟨hM6.d, hM6.r⟩, hO6⟩
  · have q0' : (o.d == 0) = false := by simpa using q0
    by_cases q1 : o.d = 1
    · have q1' : (o.d == 1) = true := by simpa using q1
      clear q0 q1
      go_enter Try.func13, Try.ntmps13
      go_wp2_with (first
        | (go_at_call 19; refine (sync_all hM.d).mono ?_; rintro e w4 ⟨rfl, hd4, ho4⟩; have hM4 := hM.dev hd4 ho4; have hc4 := hM4.x.cells; have hO4 := hO.trans (ho4.mono sub1); clear hM hO hd4 ho4)
        | (go_at_call 38; refine (rsync_all hM4.r).mono ?_; rintro e w6 ⟨rfl, hr6, ho6⟩; have hM6 := hM4.ref hr6 ho6; have hc6 := hM6.x.cells; have hO6 := hO4.trans (ho6.mono sub2); clear hM4 hO4 hr6 ho6))
      go_ret
      exact ⟨_, rfl, ⟨hM6.d, hM6.r⟩, hO6⟩
    · have q1' : (o.d == 1) = false := by simpa using q1
      by_cases q2 : o.d = 2
      · have q2' : (o.d == 2) = true := by simpa using q2
        clear q0 q1 q2
        have hMd := hM.drew
        have hOd := hO.trans (Only.drew _ _)
        have hc0 := hMd.x.cells
        clear hM hO
        go_enter Try.func13, Try.ntmps13
        go_wp2_with fail
        clear g0 g1 g2 g3
        go_region_held3 (fun W => W.cell? ⟨w.heap.size, 0, none⟩ = some (.int .i64 o.d) ∧ W.cell? ⟨w.heap.size, 1, none⟩ = some (.int .i64 o.k) ∧ W.cell? ⟨w.heap.size, 2, none⟩ = some (.string o.x) ∧ W.cell? ⟨w.heap.size, 3, none⟩ = some (.bool o.f)) (first | assumption | go_keep)
          (first
            | (go_at_call 16; refine (fuse_all hMd.d _ hk1).mono ?_; rintro e w4 ⟨rfl, hd4, ho4⟩; have hM4 := hMd.dev hd4 ho4; have hc4 := hM4.x.cells; have hO4 := hOd.trans (ho4.mono sub1); clear hMd hOd hd4 ho4)
            | (go_at_call 39; refine (rfuse_all hM4.r _ hk1).mono ?_; rintro e w6 ⟨rfl, hr6, ho6⟩; have hM6 := hM4.ref hr6 ho6; have hc6 := hM6.x.cells; have hO6 := hO4.trans (ho6.mono sub2); clear hM4 hO4 hr6 ho6))
        clear hc0 hc4 hc6
        go_wp2_with fail
        go_ret
        exact ⟨_, rfl, ⟨hM6.d, hM6.r⟩, hO6⟩
      · have q2' : (o.d == 2) = false := by simpa using q2
        by_cases q3 : o.d = 3
        · have q3' : (o.d == 3) = true := by simpa using q3
          clear q0 q1 q2 q3
          have hMd := hM.drew
          have hOd := hO.trans (Only.drew _ _)
          have hc0 := hMd.x.cells
          clear hM hO
          go_enter Try.func13, Try.ntmps13
          go_wp2_with fail
          clear g0 g1 g2 g3
          go_region_held3 (fun W => W.cell? ⟨w.heap.size, 0, none⟩ = some (.int .i64 o.d) ∧ W.cell? ⟨w.heap.size, 1, none⟩ = some (.int .i64 o.k) ∧ W.cell? ⟨w.heap.size, 2, none⟩ = some (.string o.x) ∧ W.cell? ⟨w.heap.size, 3, none⟩ = some (.bool o.f)) (first | assumption | go_keep)
            (first
              | (go_at_call 22; refine (crash_any hMd.d _ hx).mono ?_; rintro e w4 ⟨rfl, hd4, ho4⟩; have hM4 := hMd.dev hd4 ho4; have hc4 := hM4.x.cells; have hO4 := hOd.trans (ho4.mono sub1); clear hMd hOd hd4 ho4)
              | (go_at_call 40; refine (rcrash_any hM4.r _).mono ?_; rintro e w6 ⟨rfl, hr6, ho6⟩; have hM6 := hM4.ref hr6 ho6; have hc6 := hM6.x.cells; have hO6 := hO4.trans (ho6.mono sub2); clear hM4 hO4 hr6 ho6))
          clear hc0 hc4 hc6
          go_wp2_with fail
          go_ret
          exact ⟨_, rfl, ⟨hM6.d, hM6.r⟩, hO6⟩
        · have q3' : (o.d == 3) = false := by simpa using q3
          by_cases q4 : o.d = 4
          · have q4' : (o.d == 4) = true := by simpa using q4
            clear q0 q1 q2 q3 q4
            go_enter Try.func13, Try.ntmps13
            go_wp2_with (first
              | (go_at_call 26; refine (read_all hM.d _ hk0 hk1).mono ?_; rintro e w4 ⟨rfl, hb4⟩; have hM4 := hM.below hb4; obtain ⟨e0, e1, e2, e3⟩ := hM4.x.cells)
              | (go_at_call 35; refine (rread_all hM4.r _).mono ?_; rintro e w' ⟨rfl, hw⟩; rw [hw]; clear hw w'))
            go_ret
            exact ⟨_, rfl, ⟨hM4.d, hM4.r⟩, hO.trans (Only.of_below hb4)⟩
          · have q4' : (o.d == 4) = false := by simpa using q4
            clear q0 q1 q2 q3 q4
            go_enter Try.func13, Try.ntmps13
            go_wp2_with fail
            go_ret
            exact ⟨_, rfl, ⟨hM.d, hM.r⟩, hO⟩
end Go.Proofs.Ythgdjgbikljbeaa
