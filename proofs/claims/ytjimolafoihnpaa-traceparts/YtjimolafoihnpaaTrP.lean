/-
  The program's Check.
-/
import Derived.Test.YtjimolafoihnpaaTrK
import Derived.Test.YtjimolafoihnpaaTrJ
namespace Go.Proofs.Ytjimolafoihnpaa.tc
open Go.Maps Go.ChangeShapes Go.WideShapes Go.ChangeAt Go.RowKit Go.PlainAid

set_option maxRecDepth 20000 in
set_option maxHeartbeats 2000000 in
theorem check_any (v : Value) (L : List (List RunD)) (w : World) (hr : RdL w v L) (hL : L.length ≤ 1048576) (hl : ∀ l ∈ L, l.length ≤ 1048576 ∧ ∀ r ∈ l, r.t.size ≤ 1048576 ∧ InI r.c ∧ InI r.q) (hn : (aTs L).length ≤ 1048576) :
    Calls Try.prog 7 #[v] w fun e w' => ∃ (a b : Nat) (ok : Bool), e = .returned (.tuple #[.int .i64 (a : Int), .int .i64 (b : Int), .bool ok]) ∧ ChkIs (dcs L) a b ok ∧ Below w.heap.size w w' := by
  have c1 := read_any v L w hr hL hl hn
  have hDl : (dcs L).length = L.length := by simp [dcs]
  have hrow : ∀ r ∈ dcs L, r.length ≤ 1048576 ∧ ∀ x ∈ r, x.1 < (nmA (aTs L)).length := by
    intro r hr2
    obtain ⟨l, hl2, rfl⟩ := List.mem_map.1 hr2
    refine ⟨?_, dA_row hl2⟩
    have := aT_mem_le hl2
    simp only [dA, List.length_map]
    omega
  have hE : (evD (dcs L)).length ≤ 1048576 := by
    rw [evD_evG]
    have := evG_tot (dcs L) 0
    rw [dcs, docs_tot] at this
    exact Nat.le_trans this hn
  have hNl : (nmA (aTs L)).length ≤ 1048576 := Nat.le_trans (nmA_len _) hn
  rw [show (L.map fun l => dA (nmA (aTs L)) (aT l)) = dcs L from rfl] at c1
  rw [← hDl] at hL
  generalize nmA (aTs L) = N at *
  generalize dcs L = D at *
  obtain ⟨av, cv, rfl, hav, -⟩ := hr
  clear hDl hl hn hav
  go_enter Try.func7, Try.ntmps7
  go_wp2_with fail
  refine c1.mono ?_
  rintro e w1 ⟨b, dv, nv, rfl, hb1, hbb, hbx, htb, hln⟩
  obtain ⟨ad, cd, rfl, hcd⟩ := htb.form
  have hk1 : BkR w1 b D N := ⟨_, _, hbx, htb, hln⟩
  have c2 := sound_any b D N w1 hk1 hL hNl hrow
  clear c1
  go_wp2_with fail
  refine c2.mono ?_
  rintro e w2 ⟨vs, rfl, hos, hb2⟩
  obtain ⟨asl, csl, rfl⟩ := own_form hos
  have hk2 := hk1.below hb2
  have c3 := newMatch_any b D N _ w2 hk2 (Ln.own hos) hL hNl hrow hE
  clear c2
  go_wp2_with fail
  refine c3.mono ?_
  rintro e w3 ⟨m, p, q, dv3, R, rfl, hM, hb3⟩
  have hos3 := own_below hos hb3
  have hlts := hos.lt
  have hb12 := chain hb1 hb2
  have hb13 := chain hb12 hb3
  have hbx3 := (hbx.below hb2).below hb3
  obtain ⟨x0, x1, -, -⟩ := hbx3.cells
  clear c3 hos hk1 hk2 hbx htb hln hb1 hb2 hbx3
  rw [← tabP_zero] at hM
  have hM0 := hM
  have hLa0 := LaOk.zero D
  go_wp2_with fail
  clear x0 x1 hM
  go_loopw [23] (fun iv wr => ∃ k : Nat, k ≤ D.length ∧ iv = .int .i64 (k : Int) ∧ (∃ La R, Mt wr w2.heap.size m p q dv3 D (tabP D k N.length) La R ∧ LaOk D k La) ∧ Hid (∀ j, j < k → Fine D j) ∧ Below w2.heap.size w3 wr) (fun iv _ => D.length - (Go.RowKit.intOf iv).toNat)
  case atStart => exact ⟨0, by omega, rfl, ⟨_, _, hM0, hLa0⟩, fun j hj => by omega, Below.refl _ _⟩
  case round =>
    obtain ⟨k, hk, rfl, ⟨La, Rk, hMk, hLk⟩, HF, hbk⟩ := hrel
    clear hM0 hLa0
    by_cases hlt : k < D.length
    · have hlt' : (k : Int) < (D.length : Int) := by omega
      have hDk : D[k]? = some D[k] := by simp [hlt]
      obtain ⟨gs, cs', e1, -, -⟩ := hos3.form (by omega)
      injection e1 with e11 _ e13
      subst e11
      subst e13
      have hgs := (hlts gs rfl).2
      have y0 := hos3.cells (g := gs) rfl k (.bool (sndD D[k])) (by simp [bvT, hlt])
      rw [addr4, Nat.zero_add, ← hbk.cell (p := ⟨gs, k, none⟩) hgs] at y0
      have cN := fun (hs : sndD D[k] = true) => next_any w2.heap.size m p q N.length k dv3 D D[k] La Rk wr hMk hDk hs hLk hL hNl hrow
      have HB : Hid (sndD D[k] = false → ChkIs D k k false) := fun q => .inr ⟨rfl, HF.out, _, hDk, .inl ⟨q, rfl⟩⟩
      have HC : Hid (∀ f La', sndD D[k] = true → NxI D k D[k] D[k].length (fun _ => False) f La' → (f < D.length → ChkIs D k f false) ∧ (¬ f < D.length → ∀ j, j < k + 1 → Fine D j)) := fun f La' hs h => ⟨fun hf => bad_of hDk hs HF.out h hf, fun hf j hj => by
        by_cases hjk : j = k
        · subst hjk; exact fine_of hDk hs h hf
        · exact HF.out j (by omega)⟩
      have hwB : w.heap.size ≤ w2.heap.size := hb12.size
      have hbW := hb13.trans (hbk.mono hwB)
      clear hDk HF hMk hLk
      generalize D[k] = row at *
      cases hs : sndD row with
      | false =>
        rw [hs] at y0
        have HX : Hid (ChkIs D k k false) := HB.out hs
        clear HB HC hs cN
        go_wp2_with fail
        go_ret3
        exact ⟨k, k, .inl ⟨rfl, HX.out, hbW⟩⟩
      | true =>
        rw [hs] at y0
        have cN2 := cN hs
        clear HB cN
        have HC2 : Hid (∀ f La', NxI D k row row.length (fun _ => False) f La' → (f < D.length → ChkIs D k f false) ∧ (¬ f < D.length → ∀ j, j < k + 1 → Fine D j)) := fun f La' => HC.out f La' hs
        clear HC hs
        go_wp2_with fail
        refine cN2.mono ?_
        rintro e w5 ⟨f, La', R', rfl, hM5, hN5, hb5⟩
        obtain ⟨H1, H2⟩ := HC2.out f La' hN5
        have hbW2 := hbW.trans (hb5.mono hwB)
        have hbk2 := hbk.trans hb5
        have hL5 := hN5.next
        clear cN2 hN5 HC2 y0
        by_cases hf : f < D.length
        · have hf1 : decide (f < D.length) = true := decide_eq_true hf
          have HX : Hid (ChkIs D k f false) := H1 hf
          clear H1 H2
          go_wp2_with fail
          go_ret3
          exact ⟨k, f, false, rfl, HX.out, hbW2⟩
        · have hf1 : decide (f < D.length) = false := decide_eq_false hf
          have HX : Hid (∀ j, j < k + 1 → Fine D j) := H2 hf
          clear H1 H2
          go_wp2_with fail
          exact ⟨⟨k + 1, by omega, by go_num, ⟨_, _, hM5, hL5⟩, HX, hbk2⟩, by simp [Go.RowKit.intOf]; omega⟩
    · obtain rfl : k = D.length := by omega
      have HX : Hid (ChkIs D 0 0 true) := .inl ⟨rfl, rfl, rfl, fun i row hr => by
        have := (List.getElem?_eq_some_iff.1 hr).1
        exact HF.out i this row hr⟩
      have hbW := hb13.trans (hbk.mono hb12.size)
      clear HF hMk
      go_wp2_with fail
      go_ret3
      exact ⟨0, 0, true, rfl, HX.out, hbW⟩
end Go.Proofs.Ytjimolafoihnpaa.tc
