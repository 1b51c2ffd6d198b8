/-
  The program's Order.
-/
import Derived.Test.YtjimolafoihnpaaTsA
import Derived.Test.YtjimolafoihnpaaTrP
import Derived.Test.YtjimolafoihnpaaTrS
namespace Go.Proofs.Ytjimolafoihnpaa.tc
open Go.Maps Go.ChangeShapes Go.WideShapes Go.ChangeAt Go.RowKit Go.PlainAid

theorem atG_mem (c q : Int) : ∀ (zs : List Int) (n : Int) (x : Atm), x ∈ atG c q n zs → n ≤ x.n ∧ x.n < n + (zs.length : Int)
  | [], n, x, h => by simp [atG] at h
  | z :: zs, n, x, h => by
    rw [atG, List.mem_cons] at h
    rcases h with rfl | h
    · simp; omega
    · have := atG_mem c q zs (n + 1) x h
      simp
      omega
theorem nm_bd {L : List (List RunD)} (hl : ∀ l ∈ L, l.length ≤ 1048576 ∧ ∀ r ∈ l, r.t.size ≤ 1048576 ∧ InI r.c ∧ InI r.q) : ∀ k ∈ nmA (aTs L), 0 ≤ k.2.2 ∧ k.2.2 ≤ 9223372036854775000 := by
  intro k hk
  obtain ⟨x, hx, rfl⟩ := nmA_mem.1 hk
  simp only [aTs, aT, List.mem_flatten, List.mem_map] at hx
  obtain ⟨_, ⟨l, hlL, rfl⟩, hx⟩ := hx
  rw [List.mem_flatten] at hx
  obtain ⟨_, h2, hx⟩ := hx
  obtain ⟨r, hr, rfl⟩ := List.mem_map.1 h2
  unfold atR at hx
  split at hx
  · rename_i hf
    simp only [fOk, Bool.and_eq_true, decide_eq_true_eq] at hf
    have h3 := atG_mem _ _ _ _ _ hx
    have h4 := ((hl l hlL).2 r hr).1
    have h5 := (cpl_le r.t).2
    have h6 : (pts r.t).length ≤ r.t.size := by rw [pts, ptL_length]; omega
    show 0 ≤ x.n ∧ x.n ≤ _
    omega
  · simp at hx
theorem hv_tot : ∀ (D : List (List (Nat × Int))), (hvD D).length = (D.map List.length).sum := by
  intro D
  rw [hvD, List.length_flatten, List.map_map]
  have h : ∀ (l : List (List (Nat × Int))) (n : Nat), ((l.zipIdx n).map (List.length ∘ fun y => y.1.map fun x => (x.1, y.2))).sum = (l.map List.length).sum := by
    intro l
    induction l with
    | nil => intro n; rfl
    | cons a l ih => intro n; simp [ih]
  exact h D 0
/-- What Order answers. -/
def ordO (D : List (List (Nat × Int))) (N : List AtK) (row : List Nat) : Option (List RunD) :=
  match ptF N.length D.flatten with
  | none => none
  | some P => if row.length < N.length then none else some (rns N P row)
set_option maxRecDepth 20000 in
set_option maxHeartbeats 1000000 in
theorem order_any (v : Value) (L : List (List RunD)) (F : Nat) (sE : Gs) (w : World) (hr : RdL w v L) (hL : L.length ≤ 1048576) (hl : ∀ l ∈ L, l.length ≤ 1048576 ∧ ∀ r ∈ l, r.t.size ≤ 1048576 ∧ InI r.c ∧ InI r.q) (hn : (aTs L).length ≤ 1048576)
    (hM : rowM (dcs L) (tabH (hvD (dcs L)) (nmA (aTs L)).length) (nmA (aTs L)).length F = some sE) (hE : sE.row.length ≤ 1048576) (hin : ∀ n ∈ sE.row, n < (nmA (aTs L)).length) :
    Calls Try.prog 11 #[v] w fun e w' => ∃ u, e = .returned (.tuple #[u, .bool (ordO (dcs L) (nmA (aTs L)) sE.row).isSome]) ∧ w'.ownsRow w.heap.size 37 4 u ((ordO (dcs L) (nmA (aTs L)) sE.row).getD []).length ((((ordO (dcs L) (nmA (aTs L)) sE.row).getD []).map cRn).flatten) ∧ Below w.heap.size w w' := by
  have c1 := read_any v L w hr hL hl hn
  have hDl : (dcs L).length = L.length := by simp [dcs]
  have hrow : ∀ r ∈ dcs L, r.length ≤ 1048576 ∧ ∀ x ∈ r, x.1 < (nmA (aTs L)).length := by
    intro r hr2
    obtain ⟨l, hl2, rfl⟩ := List.mem_map.1 hr2
    refine ⟨?_, dA_row hl2⟩
    have := aT_mem_le hl2
    simp only [dA, List.length_map]
    omega
  have hHe : (hvD (dcs L)).length ≤ 1048576 := by
    rw [hv_tot, dcs, docs_tot]
    exact hn
  have hNl : (nmA (aTs L)).length ≤ 1048576 := Nat.le_trans (nmA_len _) hn
  have hbd := nm_bd hl
  rw [show (L.map fun l => dA (nmA (aTs L)) (aT l)) = dcs L from rfl] at c1
  rw [← hDl] at hL
  generalize nmA (aTs L) = N at *
  generalize dcs L = D at *
  obtain ⟨av, cv', rfl, hav, -⟩ := hr
  clear hDl hl hn hav
  obtain ⟨O, HO⟩ : ∃ O, Hid (ordO D N sE.row = O) := ⟨_, rfl⟩
  rw [HO.out]
  go_enter Try.func11, Try.ntmps11
  go_wp2_with fail
  refine c1.mono ?_
  rintro e w1 ⟨b, dv, nvv, rfl, hb1, hbb, hbx, htb, hln⟩
  have hk1 : BkR w1 b D N := ⟨_, _, hbx, htb, hln⟩
  have c2 := points24_any b D N w1 hk1 hL hNl hrow
  clear c1 hbx htb hln
  have HOd := HO
  unfold ordO at HO
  generalize ptF N.length D.flatten = PF at *
  cases PF with
  | none =>
    have HO2 : Hid (O = none) := HO.out.symm
    clear HO HOd
    simp only [Option.isSome_none] at c2
    go_wp2_with fail
    refine c2.mono ?_
    rintro e w2 ⟨vp, rfl, -, hb2⟩
    have hbb2 := chain hb1 hb2
    go_wp2_with fail
    go_ret2
    rw [HO2.out]
    exact ⟨_, rfl, World.ownsRow_nil _ _ _ _, hbb2⟩
  | some P =>
    have HO2 : Hid ((if sE.row.length < N.length then none else some (rns N P sE.row)) = O) := HO.out
    clear HO HOd
    simp only [Option.isSome_some] at c2
    go_wp2_with fail
    refine c2.mono ?_
    rintro e w2 ⟨vp, rfl, hP, hb2⟩
    obtain ⟨hPl, hPo⟩ := hP P rfl
    have hbb2 := chain hb1 hb2
    obtain ⟨ap, kp, rfl⟩ := own_form hPo
    have hk2 := hk1.below hb2
    have c3 := row_any b F D N sE w2 hk2 hL hNl hrow hHe hM
    clear c2 hP hk1
    go_wp2_with fail
    refine c3.mono ?_
    rintro e w3 ⟨vr, rfl, hro, hb3⟩
    obtain ⟨ar, kr, rfl⟩ := own_form hro
    have hbb3 := chain hbb2 hb3
    have hk3 := hk2.below hb3
    have hP3 := own_below hPo hb3
    obtain ⟨dv2, nv2, hbx, -, hln⟩ := id hk3
    obtain ⟨an, cn, rfl, -⟩ := hln.form
    obtain ⟨-, x1, -, -⟩ := hbx.cells
    clear c3 hbx hln hk2 hPo
    have HE : Hid (sE.row.length ≤ 1048576) := hE
    by_cases hlt : sE.row.length < N.length
    · have hd : decide ((sE.row.length : Int) < (N.length : Int)) = true := decide_eq_true (by omega)
      have HO3 : Hid (O = none) := by show _ = _; rw [← HO2.out, if_pos hlt]
      clear HO2
      go_wp2_with fail
      go_ret2
      rw [HO3.out]
      exact ⟨_, rfl, World.ownsRow_nil _ _ _ _, hbb3⟩
    · have hd : decide ((sE.row.length : Int) < (N.length : Int)) = false := decide_eq_false (by omega)
      have HO3 : Hid (O = some (rns N P sE.row)) := by show _ = _; rw [← HO2.out, if_neg hlt]
      have c4 := runs_any b D N sE.row P _ _ w3 hk3 (by rw [cv_flat]; exact Ln.own hro) (by rw [hPl]; exact Ln.own hP3) (fun n hn => ⟨by rw [hPl]; exact hin n hn, hin n hn⟩) hbd hE
      clear HO2
      go_wp2_with fail
      refine c4.mono ?_
      rintro e w4 ⟨vl, rfl, ho, hb4⟩
      have hbb4 := chain hbb3 hb4
      obtain ⟨al, kl, rfl⟩ := own_form ho
      generalize rns N P sE.row = R at *
      clear c4 hd x1 
      go_wp2_with fail
      go_ret2
      rw [HO3.out]
      exact ⟨_, rfl, own_mono ho hbb3.size, hbb4⟩
end Go.Proofs.Ytjimolafoihnpaa.tc
