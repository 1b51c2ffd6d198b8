/-
  The contracts of Send and Double.
-/
import Derived.Test.YtaopfdgebibpeaaNtG
namespace Go.Proofs.Ytaopfdgebibpeaa.nt
open Go.Maps Go.WideShapes Go.RowKit Go.ChangeShapes Go.ChangeAt Go.PlainAid

/-- What Send answers. -/
def NtS.sdE (N : NtS) (x : LtD) : Int :=
  if x.to < 0 ∨ 8 < x.to then 1 else if 30000 < x.t.size then 2 else if (N.L.length : Int) = N.room then 170 else 0
/-- What Double answers. -/
def NtS.dbE (N : NtS) (i : Int) : Int := if N.hasI i = true then (if (N.L.length : Int) = N.room then 170 else 0) else 171
/-- .. and the letters behind it. -/
def NtS.sdL (N : NtS) (x : LtD) : List LtD := if N.sdE x = 0 then N.L ++ [x] else N.L
def NtS.dbL (N : NtS) (i : Int) : List LtD := if N.dbE i = 0 then N.L ++ (N.L[i.toNat]?).toList else N.L
/-- A net behind a call: the same, with these letters; at most one entry more. -/
structure Aft (w w' : World) (N : NtS) (L : List LtD) (N' : NtS) : Prop where
  net : IsNet w' N'
  p : N'.p = N.p
  mb : N'.mb = N.mb
  room : N'.room = N.room
  L : N'.L = L
  n : N'.n ≤ N.n + 1
  on : Only N.bl w w'
  u : ∀ g, N'.u.ownBlock = some g → g ∈ N.bl ∨ w.heap.size ≤ g
theorem Aft.bl {w w' : World} {N N' : NtS} {L : List LtD} (h : Aft w w' N L N') : ∀ b ∈ N'.bl, b ∈ N.bl ∨ w.heap.size ≤ b := by
  intro b hb
  simp only [NtS.bl, List.mem_cons, Option.mem_toList] at hb
  rcases hb with rfl | rfl | hb
  · exact .inl (by rw [h.p]; simp [NtS.bl])
  · exact .inl (by rw [h.mb]; simp [NtS.bl])
  · exact h.u b hb
theorem Aft.same {w w' : World} {N : NtS} (h : IsNet w N) (hb : Below w.heap.size w w') : Aft w w' N N.L N :=
  ⟨h.below hb, rfl, rfl, rfl, rfl, by omega, Only.of_below hb, fun g hg => .inl (by simp [NtS.bl, hg])⟩

theorem add_any (N : NtS) (x : LtD) (w : World) (h : IsNet w N) (hx : x.Sm) (hn : N.n < 1152921504606846976) :
    Calls Try.prog 21 #[.pointer (some ⟨N.p, 0, none⟩), x.v] w fun e w' => e = .returned (.int .i64 (if (N.L.length : Int) = N.room then 170 else 0)) ∧ ∃ N', Aft w w' N (if (N.L.length : Int) = N.room then N.L else N.L ++ [x]) N' := by
  by_cases hl : (N.L.length : Int) = N.room
  · refine (add_full N x w h hl).mono ?_
    rintro e w1 ⟨rfl, hb⟩
    rw [if_pos hl, if_pos hl]
    exact ⟨rfl, N, Aft.same h hb⟩
  · refine (add_ok N x w h hx (by have := h.len; omega) hn).mono ?_
    rintro e w1 ⟨rfl, u, h1, h2, h3⟩
    rw [if_neg hl, if_neg hl]
    exact ⟨rfl, _, h1, rfl, rfl, rfl, rfl, Nat.le_refl _, h2, h3⟩

set_option maxRecDepth 20000 in
set_option maxHeartbeats 1000000 in
theorem send_any (N : NtS) (x : LtD) (w : World) (h : IsNet w N) (hn : N.n < 1152921504606846976) :
    Calls Try.prog 7 #[.pointer (some ⟨N.p, 0, none⟩), x.v] w fun e w' => e = .returned (.int .i64 (N.sdE x)) ∧ ∃ N', Aft w w' N (N.sdL x) N' := by
  have hb : Below w.heap.size w (w.alloc (.cells #[.int .i64 x.to, .string x.t] 36)) := (Below.refl _ w).alloc (Nat.le_refl _) _
  obtain ⟨y0, y1, -, -⟩ := (lb_new w x).facts
  have hN1 := h.below hb
  by_cases h1 : x.to < 0 ∨ 8 < x.to
  · have e1 : Hid (N.sdE x = 1 ∧ N.sdL x = N.L) := by
      have e : N.sdE x = 1 := by unfold NtS.sdE; rw [if_pos h1]
      exact ⟨e, by unfold NtS.sdL; rw [e]; rfl⟩
    unfold LtD.v
    by_cases h2 : x.to < 0
    · go_enter Try.func7, Try.ntmps7
      go_wp2_with fail
      go_ret
      rw [e1.out.1, e1.out.2]
      exact ⟨rfl, N, Aft.same h hb⟩
    · have h3 : 8 < x.to := by omega
      go_enter Try.func7, Try.ntmps7
      go_wp2_with fail
      go_ret
      rw [e1.out.1, e1.out.2]
      exact ⟨rfl, N, Aft.same h hb⟩
  · have h2 : ¬ x.to < 0 := fun e => h1 (.inl e)
    have h3 : ¬ 8 < x.to := fun e => h1 (.inr e)
    by_cases h4 : 30000 < x.t.size
    · have e1 : Hid (N.sdE x = 2 ∧ N.sdL x = N.L) := by
        have e : N.sdE x = 2 := by unfold NtS.sdE; rw [if_neg h1, if_pos h4]
        exact ⟨e, by unfold NtS.sdL; rw [e]; rfl⟩
      have h4' : (30000 : Int) < (x.t.size : Int) := by omega
      unfold LtD.v
      go_enter Try.func7, Try.ntmps7
      go_wp2_with fail
      go_ret
      rw [e1.out.1, e1.out.2]
      exact ⟨rfl, N, Aft.same h hb⟩
    · have h4' : ¬ (30000 : Int) < (x.t.size : Int) := by omega
      have ha := add_any N x _ hN1 ⟨⟨by omega, by omega⟩, by omega⟩ hn
      have e1 : Hid (N.sdE x = (if (N.L.length : Int) = N.room then 170 else 0)) := by show _ = _; unfold NtS.sdE; rw [if_neg h1, if_neg h4]
      have e2 : Hid (N.sdL x = (if (N.L.length : Int) = N.room then N.L else N.L ++ [x])) := by
        show _ = _
        unfold NtS.sdL
        rw [e1.out]
        split <;> simp
      generalize (if (N.L.length : Int) = N.room then (170 : Int) else 0) = E at *
      generalize (if (N.L.length : Int) = N.room then N.L else N.L ++ [x]) = M at *
      unfold LtD.v at *
      clear h1 h4
      go_enter Try.func7, Try.ntmps7
      go_wp2_with (go_at_call 21; refine ha.mono ?_; rintro e w1 ⟨rfl, N', hA⟩)
      go_ret
      rw [e2.out, e1.out]
      exact ⟨rfl, N', hA.net, hA.p, hA.mb, hA.room, hA.L, hA.n, (Only.of_below hb).trans hA.on, fun g hg => (hA.u g hg).imp_right (fun h => by have := hb.size; omega)⟩

theorem hasI_iff {N : NtS} {i : Int} : N.hasI i = true ↔ 0 ≤ i ∧ i < (N.L.length : Int) := by simp [NtS.hasI]

set_option maxRecDepth 20000 in
set_option maxHeartbeats 1000000 in
theorem double_any (N : NtS) (i : Int) (w : World) (h : IsNet w N) (hn : N.n < 1152921504606846976) :
    Calls Try.prog 10 #[.pointer (some ⟨N.p, 0, none⟩), .int .i64 i] w fun e w' => e = .returned (.int .i64 (N.dbE i)) ∧ ∃ N', Aft w w' N (N.dbL i) N' := by
  have hh := has_any N i w h
  obtain ⟨-, c1, -, -⟩ := h.cells
  by_cases hI : N.hasI i = true
  · obtain ⟨k, rfl⟩ := Int.eq_ofNat_of_zero_le (hasI_iff.1 hI).1
    have hk : k < N.L.length := by have := (hasI_iff.1 hI).2; omega
    have hk' : (k : Int) < (N.L.length : Int) := by omega
    rw [hI] at hh
    have ha := add_any N N.L[k] w h (h.ok _ (by simp)) hn
    obtain ⟨ao, cp, hu⟩ := own_form h.row
    obtain ⟨b, off, rfl, hbw, d0, d1⟩ := rdl_cells hu (rdl_own h.row) (show N.L[k]? = some N.L[k] by simp [hk])
    have e1 : Hid (N.dbE k = (if (N.L.length : Int) = N.room then 170 else 0)) := by show _ = _; unfold NtS.dbE; rw [if_pos hI]
    have e2 : Hid (N.dbL k = (if (N.L.length : Int) = N.room then N.L else N.L ++ [N.L[k]])) := by
      show _ = _
      unfold NtS.dbL
      rw [e1.out]
      split <;> simp [hk]
    rw [hu] at c1
    generalize (if (N.L.length : Int) = N.room then (170 : Int) else 0) = E at *
    generalize (if (N.L.length : Int) = N.room then N.L else N.L ++ [N.L[k]]) = M at *
    unfold LtD.v at *
    generalize N.L[k] = y at *
    clear hu hI
    go_enter Try.func10, Try.ntmps10
    go_wp2_with (first | (go_at_call 22; refine hh.mono ?_; rintro e w0 ⟨rfl, rfl⟩) | (go_at_call 21; refine ha.mono ?_; rintro e w1 ⟨rfl, N', hA⟩))
    go_ret
    rw [e2.out, e1.out]
    exact ⟨rfl, N', hA⟩
  · have e1 : Hid (N.dbE i = 171 ∧ N.dbL i = N.L) := by
      have e : N.dbE i = 171 := by unfold NtS.dbE; rw [if_neg hI]
      exact ⟨e, by unfold NtS.dbL; rw [e]; rfl⟩
    have hI' : N.hasI i = false := by simpa using hI
    rw [hI'] at hh
    clear hI hI'
    go_enter Try.func10, Try.ntmps10
    go_wp2_with (go_at_call 22; refine hh.mono ?_; rintro e w0 ⟨rfl, rfl⟩)
    go_ret
    rw [e1.out.1, e1.out.2]
    exact ⟨rfl, N, Aft.same h (Below.refl _ _)⟩
end Go.Proofs.Ytaopfdgebibpeaa.nt
