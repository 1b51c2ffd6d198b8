/-
  What Check answers, as data.
-/
import Derived.Test.YtjimolafoihnpaaDoorTrE
import Derived.Test.YtjimolafoihnpaaDoorTrH
import Derived.Test.YtjimolafoihnpaaDoorTrJ
namespace Go.Proofs.YtjimolafoihnpaaDoor.tc
open Go.Maps Go.ChangeShapes Go.WideShapes Go.ChangeAt Go.RowKit Go.PlainAid

/-- Nothing speaks against a document, held against those behind it. -/
def Fine (D : List (List (Nat × Int))) (i : Nat) : Prop := ∀ row, D[i]? = some row → sndD row = true ∧ ∀ j r, i < j → D[j]? = some r → sndD r = true → agF r row ≠ none
/-- What Check answers. -/
def ChkIs (D : List (List (Nat × Int))) (a b : Nat) (ok : Bool) : Prop :=
  (ok = true ∧ a = 0 ∧ b = 0 ∧ ∀ i, Fine D i) ∨
  (ok = false ∧ (∀ i, i < a → Fine D i) ∧ ∃ row, D[a]? = some row ∧ ((sndD row = false ∧ b = a) ∨ (sndD row = true ∧ a < b ∧ (∃ r, D[b]? = some r ∧ sndD r = true ∧ agF r row = none) ∧ ∀ j r, a < j → j < b → D[j]? = some r → sndD r = true → agF r row ≠ none)))
theorem chk_one {D : List (List (Nat × Int))} {a b c d : Nat} {x y : Bool} (h : ChkIs D a b x) (k : ChkIs D c d y) : a = c ∧ b = d ∧ x = y := by
  rcases h with ⟨rfl, rfl, rfl, h⟩ | ⟨rfl, h, row, h1, h2⟩ <;> rcases k with ⟨rfl, rfl, rfl, k⟩ | ⟨rfl, k, row', k1, k2⟩
  · exact ⟨rfl, rfl, rfl⟩
  · exfalso
    obtain ⟨f1, f2⟩ := h c row' k1
    rcases k2 with ⟨q, -⟩ | ⟨q, q1, ⟨r, q2, q3, q4⟩, -⟩
    · rw [f1] at q; cases q
    · exact f2 d r q1 q2 q3 q4
  · exfalso
    obtain ⟨f1, f2⟩ := k a row h1
    rcases h2 with ⟨q, -⟩ | ⟨q, q1, ⟨r, q2, q3, q4⟩, -⟩
    · rw [f1] at q; cases q
    · exact f2 b r q1 q2 q3 q4
  · have not : ∀ {e f : Nat} {rw' : List (Nat × Int)}, D[e]? = some rw' → ((sndD rw' = false ∧ f = e) ∨ (sndD rw' = true ∧ e < f ∧ (∃ r, D[f]? = some r ∧ sndD r = true ∧ agF r rw' = none) ∧ ∀ j r, e < j → j < f → D[j]? = some r → sndD r = true → agF r rw' ≠ none)) → ¬ Fine D e := by
      intro e f rw' h1 h2 hF
      obtain ⟨f1, f2⟩ := hF rw' h1
      rcases h2 with ⟨q, -⟩ | ⟨q, q1, ⟨r, q2, q3, q4⟩, -⟩
      · rw [f1] at q; cases q
      · exact f2 f r q1 q2 q3 q4
    have hac : a = c := by
      rcases Nat.lt_trichotomy a c with q | q | q
      · exact absurd (k a q) (not h1 h2)
      · exact q
      · exact absurd (h c q) (not k1 k2)
    subst hac
    rw [h1] at k1
    cases k1
    refine ⟨rfl, ?_, rfl⟩
    rcases h2 with ⟨q, rfl⟩ | ⟨q, q1, ⟨r, q2, q3, q4⟩, q5⟩ <;> rcases k2 with ⟨p, rfl⟩ | ⟨p, p1, ⟨s, p2, p3, p4⟩, p5⟩
    · rfl
    · rw [q] at p; cases p
    · rw [q] at p; cases p
    · rcases Nat.lt_trichotomy b d with t | t | t
      · exact absurd q4 (p5 b r q1 t q2 q3)
      · exact t
      · exact absurd p4 (q5 d s p1 t p2 p3)
theorem dA_row {L : List (List RunD)} {l : List RunD} (hl : l ∈ L) : ∀ x ∈ dA (nmA (aTs L)) (aT l), x.1 < (nmA (aTs L)).length := by
  intro x hx
  obtain ⟨y, hy, rfl⟩ := List.mem_map.1 hx
  have hm : y.key ∈ nmA (aTs L) := nmA_mem.2 ⟨y, List.mem_flatten.2 ⟨aT l, List.mem_map.2 ⟨l, hl, rfl⟩, hy⟩, rfl⟩
  exact List.idxOf_lt_length_of_mem hm
theorem evG_tot : ∀ (D : List (List (Nat × Int))) (i : Nat), (evG i D).length ≤ (D.map List.length).sum
  | [], _ => by simp [evG]
  | r :: D, i => by
    rw [evG, List.length_append, List.map_cons, List.sum_cons]
    have h := evG_tot D (i + 1)
    have h2 : (if sndD r then evR i r else []).length ≤ r.length := by
      split
      · rw [evR_len]; exact Nat.le_refl _
      · simp
    omega
theorem docs_tot (N : List AtK) : ∀ (L : List (List RunD)), ((L.map fun l => dA N (aT l)).map List.length).sum = (aTs L).length
  | [] => rfl
  | l :: L => by
    rw [List.map_cons, List.map_cons, List.sum_cons, docs_tot N L]
    simp [aTs, dA]
theorem aT_mem_le {L : List (List RunD)} {l : List RunD} (hl : l ∈ L) : (aT l).length ≤ (aTs L).length := by
  obtain ⟨s, t, rfl⟩ := List.append_of_mem hl
  simp [aTs]
  omega
/-- Documents by names' places. -/
def dcs (L : List (List RunD)) : List (List (Nat × Int)) := L.map fun l => dA (nmA (aTs L)) (aT l)
theorem fine_of {D : List (List (Nat × Int))} {i f : Nat} {row : List (Nat × Int)} {La : List (Int × Int)} (hi : D[i]? = some row) (hs : sndD row = true) (h : NxI D i row row.length (fun _ => False) f La) (hf : ¬ f < D.length) : Fine D i := by
  intro row' h1
  rw [hi] at h1
  cases h1
  refine ⟨hs, fun j r hj hr hsr => ?_⟩
  have hjD : j < D.length := (List.getElem?_eq_some_iff.1 hr).1
  obtain ⟨l, hl⟩ : ∃ l, La[j]? = some l := ⟨_, List.getElem?_eq_getElem (by rw [h.len]; exact hjD)⟩
  have := ((h.good j r l hj (by omega) hr hsr hl).2 (fun q => q)).1
  rw [List.take_length] at this
  rw [this]
  simp
theorem bad_of {D : List (List (Nat × Int))} {i f : Nat} {row : List (Nat × Int)} {La : List (Int × Int)} (hi : D[i]? = some row) (hs : sndD row = true) (hF : ∀ j, j < i → Fine D j) (h : NxI D i row row.length (fun _ => False) f La) (hf : f < D.length) : ChkIs D i f false := by
  refine .inr ⟨rfl, hF, row, hi, .inr ⟨hs, ?_⟩⟩
  obtain ⟨a, r, b, c, d⟩ := h.bad hf
  rw [List.take_of_length_le (by omega)] at d
  refine ⟨a, ⟨r, b, c, d⟩, fun j r hj hjf hr hsr => ?_⟩
  have hjD : j < D.length := (List.getElem?_eq_some_iff.1 hr).1
  obtain ⟨l, hl⟩ : ∃ l, La[j]? = some l := ⟨_, List.getElem?_eq_getElem (by rw [h.len]; exact hjD)⟩
  have := ((h.good j r l hj hjf hr hsr hl).2 (fun q => q)).1
  rw [List.take_length] at this
  rw [this]
  simp
theorem LaOk.zero (D : List (List (Nat × Int))) : LaOk D 0 (List.replicate D.length (0, 0)) := by
  refine ⟨by simp, fun j l hl => ?_⟩
  rw [List.getElem?_replicate] at hl
  split at hl
  · cases hl; exact .inl rfl
  · cases hl
theorem NxI.next {D : List (List (Nat × Int))} {i e f : Nat} {row : List (Nat × Int)} {Q : Nat → Prop} {La : List (Int × Int)} (h : NxI D i row e Q f La) : LaOk D (i + 1) La :=
  ⟨h.len, fun j l hl => by rcases h.old j l hl with q | ⟨a, b⟩; exact .inl q; exact .inr ⟨a, by omega⟩⟩
theorem Mt.up {W : World} {B B' m p q : Nat} {dv : Value} {D : List (List (Nat × Int))} {X : List (List Pl)} {La : List (Int × Int)} {R : List Value} (h : Mt W B m p q dv D X La R) (hB : B' ≤ B) : Mt W B' m p q dv D X La R := ⟨h.box, h.docs, own_mono h.top hB, h.rows, own_mono h.last hB, Nat.le_trans hB h.hm⟩
end Go.Proofs.YtjimolafoihnpaaDoor.tc

/-
  The program's Check.
-/
namespace Go.Proofs.YtjimolafoihnpaaDoor.tc
open Go.Maps Go.ChangeShapes Go.WideShapes Go.ChangeAt Go.RowKit Go.PlainAid

set_option maxRecDepth 20000 in
set_option maxHeartbeats 2000000 in
theorem check_any (v : Value) (L : List (List RunD)) (w : World) (hr : RdL w v L) (hL : L.length ≤ 1048576) (hl : ∀ l ∈ L, l.length ≤ 1048576 ∧ ∀ r ∈ l, r.t.size ≤ 1048576 ∧ InI r.c ∧ InI r.q) (hn : (aTs L).length ≤ 1048576) :
    Calls Tryd.prog 9 #[v] w fun e w' => ∃ (a b : Nat) (ok : Bool), e = .returned (.tuple #[.int .i64 (a : Int), .int .i64 (b : Int), .bool ok]) ∧ ChkIs (dcs L) a b ok ∧ Below w.heap.size w w' := by
  have c1 := read_any v L w hr hL hl hn
  have hDl : (dcs L).length = L.length := by simp [dcs]
  have hrow : ∀ r ∈ dcs L, r.length ≤ 1048576 ∧ ∀ x ∈ r, x.1 < (nmA (aTs L)).length := by
    intro r hr2
    obtain ⟨l, hl2, rfl⟩ := List.mem_map.1 hr2
    refine ⟨?_, dA_row hl2⟩
    have := aT_mem_le hl2
    simp only [dA, List.length_map]
    omega
  have hE : (evD (dcs L)).length ≤ 1048576 := by
    rw [evD_evG]
    have := evG_tot (dcs L) 0
    rw [dcs, docs_tot] at this
    exact Nat.le_trans this hn
  have hNl : (nmA (aTs L)).length ≤ 1048576 := Nat.le_trans (nmA_len _) hn
  rw [show (L.map fun l => dA (nmA (aTs L)) (aT l)) = dcs L from rfl] at c1
  rw [← hDl] at hL
  generalize nmA (aTs L) = N at *
  generalize dcs L = D at *
  obtain ⟨av, cv, rfl, hav, -⟩ := hr
  clear hDl hl hn hav
  go_enter Tryd.func9, Tryd.ntmps9
  go_wp2_with fail
  refine c1.mono ?_
  rintro e w1 ⟨b, dv, nv, rfl, hb1, hbb, hbx, htb, hln⟩
  obtain ⟨ad, cd, rfl, hcd⟩ := htb.form
  have hk1 : BkR w1 b D N := ⟨_, _, hbx, htb, hln⟩
  have c2 := sound_any b D N w1 hk1 hL hNl hrow
  clear c1
  go_wp2_with fail
  refine c2.mono ?_
  rintro e w2 ⟨vs, rfl, hos, hb2⟩
  obtain ⟨asl, csl, rfl⟩ := own_form hos
  have hk2 := hk1.below hb2
  have c3 := newMatch_any b D N _ w2 hk2 (Ln.own hos) hL hNl hrow hE
  clear c2
  go_wp2_with fail
  refine c3.mono ?_
  rintro e w3 ⟨m, p, q, dv3, R, rfl, hM, hb3⟩
  have hos3 := own_below hos hb3
  have hlts := hos.lt
  have hb12 := chain hb1 hb2
  have hb13 := chain hb12 hb3
  have hbx3 := (hbx.below hb2).below hb3
  obtain ⟨x0, x1, -, -⟩ := hbx3.cells
  clear c3 hos hk1 hk2 hbx htb hln hb1 hb2 hbx3
  rw [← tabP_zero] at hM
  have hM0 := hM
  have hLa0 := LaOk.zero D
  go_wp2_with fail
  clear x0 x1 hM
  go_loopw [23] (fun iv wr => ∃ k : Nat, k ≤ D.length ∧ iv = .int .i64 (k : Int) ∧ (∃ La R, Mt wr w2.heap.size m p q dv3 D (tabP D k N.length) La R ∧ LaOk D k La) ∧ Hid (∀ j, j < k → Fine D j) ∧ Below w2.heap.size w3 wr) (fun iv _ => D.length - (Go.RowKit.intOf iv).toNat)
  case atStart => exact ⟨0, by omega, rfl, ⟨_, _, hM0, hLa0⟩, fun j hj => by omega, Below.refl _ _⟩
  case round =>
    obtain ⟨k, hk, rfl, ⟨La, Rk, hMk, hLk⟩, HF, hbk⟩ := hrel
    clear hM0 hLa0
    by_cases hlt : k < D.length
    · have hlt' : (k : Int) < (D.length : Int) := by omega
      have hDk : D[k]? = some D[k] := by simp [hlt]
      obtain ⟨gs, cs', e1, -, -⟩ := hos3.form (by omega)
      injection e1 with e11 _ e13
      subst e11
      subst e13
      have hgs := (hlts gs rfl).2
      have y0 := hos3.cells (g := gs) rfl k (.bool (sndD D[k])) (by simp [bvT, hlt])
      rw [addr4, Nat.zero_add, ← hbk.cell (p := ⟨gs, k, none⟩) hgs] at y0
      have cN := fun (hs : sndD D[k] = true) => next_any w2.heap.size m p q N.length k dv3 D D[k] La Rk wr hMk hDk hs hLk hL hNl hrow
      have HB : Hid (sndD D[k] = false → ChkIs D k k false) := fun q => .inr ⟨rfl, HF.out, _, hDk, .inl ⟨q, rfl⟩⟩
      have HC : Hid (∀ f La', sndD D[k] = true → NxI D k D[k] D[k].length (fun _ => False) f La' → (f < D.length → ChkIs D k f false) ∧ (¬ f < D.length → ∀ j, j < k + 1 → Fine D j)) := fun f La' hs h => ⟨fun hf => bad_of hDk hs HF.out h hf, fun hf j hj => by
        by_cases hjk : j = k
        · subst hjk; exact fine_of hDk hs h hf
        · exact HF.out j (by omega)⟩
      have hwB : w.heap.size ≤ w2.heap.size := hb12.size
      have hbW := hb13.trans (hbk.mono hwB)
      clear hDk HF hMk hLk
      generalize D[k] = row at *
      cases hs : sndD row with
      | false =>
        rw [hs] at y0
        have HX : Hid (ChkIs D k k false) := HB.out hs
        clear HB HC hs cN
        go_wp2_with fail
        go_ret3
        exact ⟨k, k, .inl ⟨rfl, HX.out, hbW⟩⟩
      | true =>
        rw [hs] at y0
        have cN2 := cN hs
        clear HB cN
        have HC2 : Hid (∀ f La', NxI D k row row.length (fun _ => False) f La' → (f < D.length → ChkIs D k f false) ∧ (¬ f < D.length → ∀ j, j < k + 1 → Fine D j)) := fun f La' => HC.out f La' hs
        clear HC hs
        go_wp2_with fail
        refine cN2.mono ?_
        rintro e w5 ⟨f, La', R', rfl, hM5, hN5, hb5⟩
        obtain ⟨H1, H2⟩ := HC2.out f La' hN5
        have hbW2 := hbW.trans (hb5.mono hwB)
        have hbk2 := hbk.trans hb5
        have hL5 := hN5.next
        clear cN2 hN5 HC2 y0
        by_cases hf : f < D.length
        · have hf1 : decide (f < D.length) = true := decide_eq_true hf
          have HX : Hid (ChkIs D k f false) := H1 hf
          clear H1 H2
          go_wp2_with fail
          go_ret3
          exact ⟨k, f, false, rfl, HX.out, hbW2⟩
        · have hf1 : decide (f < D.length) = false := decide_eq_false hf
          have HX : Hid (∀ j, j < k + 1 → Fine D j) := H2 hf
          clear H1 H2
          go_wp2_with fail
          exact ⟨⟨k + 1, by omega, by go_num, ⟨_, _, hM5, hL5⟩, HX, hbk2⟩, by simp [Go.RowKit.intOf]; omega⟩
    · obtain rfl : k = D.length := by omega
      have HX : Hid (ChkIs D 0 0 true) := .inl ⟨rfl, rfl, rfl, fun i row hr => by
        have := (List.getElem?_eq_some_iff.1 hr).1
        exact HF.out i this row hr⟩
      have hbW := hb13.trans (hbk.mono hb12.size)
      clear HF hMk
      go_wp2_with fail
      go_ret3
      exact ⟨0, 0, true, rfl, HX.out, hbW⟩
end Go.Proofs.YtjimolafoihnpaaDoor.tc
