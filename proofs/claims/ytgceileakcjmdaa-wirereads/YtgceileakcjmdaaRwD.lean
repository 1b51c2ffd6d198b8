/-
  The reference: what Decode reads, as data; it is what the program reads.
-/
import Derived.Test.YtgceileakcjmdaaRwB
namespace Go.Proofs.Ytgceileakcjmdaa
open Go.ChangeShapes Go.WideShapes Go.ChangeAt Go.RowKit Go.PlainAid

/-- The field that is read at place i. -/
def fld : Nat → Nat
  | 0 => 0
  | 1 => 1
  | 2 => 2
  | 3 => 4
  | 4 => 5
  | _ => 3
theorem fld_le (i : Nat) : fld i ≤ 5 := by
  match i with
  | 0 | 1 | 2 | 3 | 4 => decide
  | i + 5 => show 3 ≤ 5; decide
/-- Is nothing read there? -/
def skp (i : Nat) (k : Int) : Bool := (decide (i = 4) && decide (k ≠ 3)) || (decide (i = 5) && decide (k = 2))
/-- One round. -/
def rfS (s : ByteArray) (i : Nat) (σ : MsD × Int × Bool) : MsD × Int × Bool :=
  if skp i σ.1.k = true then σ else if (pk.tk s σ.2.1 big).2.2 = 0 then (σ.1.set (fld i) (pk.tk s σ.2.1 big).1, (pk.tk s σ.2.1 big).2.1, σ.2.2) else (σ.1, σ.2.1, false)
/-- The first i rounds. -/
def rfG (s : ByteArray) : Nat → MsD × Int × Bool
  | 0 => (zM, 0, true)
  | i + 1 => rfS s i (rfG s i)
/-- All that is read. -/
def rfA (s : ByteArray) : MsD × Bool :=
  if (rfG s 6).1.k = 2 then ((rfG s 6).1, (rfG s 6).2.2)
  else ({ (rfG s 6).1 with d := (decR (pk.tkT s (rfG s 6).2.1).1).1 }, (rfG s 6).2.2 && decide ((pk.tkT s (rfG s 6).2.1).2.2 = 0) && decide ((decR (pk.tkT s (rfG s 6).2.1).1).2 = 0))
/-- Is it a form? -/
def rfO (s : ByteArray) : Bool := (rfA s).2 && mayM (rfA s).1 && decide (mk (frmB (rfA s).1) = s)
/-- What the reference answers. -/
def rfR (s : ByteArray) : MsD × Int := if rfO s = true then ((rfA s).1, 0) else (zM, 160)

theorem rfS_d (s : ByteArray) (i : Nat) (σ : MsD × Int × Bool) : (rfS s i σ).1.d = σ.1.d := by
  unfold rfS
  split
  · rfl
  · split
    · exact set_d ..
    · rfl
theorem rfG_d (s : ByteArray) : ∀ i, (rfG s i).1.d = []
  | 0 => rfl
  | i + 1 => by rw [rfG, rfS_d, rfG_d s i]
theorem rfA_in (s : ByteArray) : (rfA s).1.d.length ≤ 3000 ∧ ∀ o ∈ (rfA s).1.d, o.In := by
  unfold rfA
  split
  · rw [rfG_d]; simp
  · exact dec_in _

/-- A round that reads what stands there. -/
theorem rfS_at {s : ByteArray} {i n a : Nat} {m : MsD} {o : Bool} (hk : skp i m.k = false) (hn : n ≤ 1125899906842624) (h : At s a (numB n)) : rfS s i (m, (a : Int), o) = (m.set (fld i) (n : Int), ((a + (numB n).length : Nat) : Int), o) := by
  have e := pk.tk_at (most := big) (by decide) (by show (n : Int) ≤ 1125899906842624; omega) h
  unfold rfS
  simp only [hk, Bool.false_eq_true, if_false]
  rw [e]
  simp
theorem rfS_skip {s : ByteArray} {i : Nat} {σ : MsD × Int × Bool} (hk : skp i σ.1.k = true) : rfS s i σ = σ := if_pos hk

theorem rfG_at {s : ByteArray} {m : MsD} (hM : mayM m = true) (h : At s 0 (nmB (m.ns (0 :: bkF m.k)))) : rfG s 6 = ({ m with d := [] }, ((nmB (m.ns (0 :: bkF m.k))).length : Int), true) := by
  have hp := may_parts hM
  have hle : ∀ f, (m.at f).toNat ≤ 1125899906842624 := fun f => by have := may_at hM f; omega
  have hto : ∀ f, ((m.at f).toNat : Int) = m.at f := fun f => Int.toNat_of_nonneg (may_at hM f).1
  obtain ⟨k, b, c, s', r, y, d⟩ := m
  simp only at hp
  obtain ⟨-, -, -, -, -, -, -, -, -, -, -, hk, hy⟩ := hp
  rcases hk with rfl | ⟨rfl, rfl, -⟩ | rfl
  · obtain rfl : y = 0 := hy (by decide)
    simp only [bkF_1, MsD.ns, List.map_nil, nmB, List.map_cons, List.flatten_cons, List.flatten_nil, List.append_nil] at h
    obtain ⟨h0, h⟩ := at_append.1 h
    obtain ⟨h1, h⟩ := at_append.1 h
    obtain ⟨h2, h⟩ := at_append.1 h
    obtain ⟨h3, h5⟩ := at_append.1 h
    have e1 : rfG s 1 = _ := rfS_at (s := s) (i := 0) (a := 0) (m := zM) (o := true) rfl (hle 0) h0
    have e2 := (congrArg (rfS s 1) e1).trans (rfS_at (s := s) (i := 1) rfl (hle 1) h1)
    have e3 := (congrArg (rfS s 2) e2).trans (rfS_at (s := s) (i := 2) rfl (hle 2) h2)
    have e4 := (congrArg (rfS s 3) e3).trans (rfS_at (s := s) (i := 3) rfl (hle 4) h3)
    have e5 := (congrArg (rfS s 4) e4).trans (rfS_skip (s := s) (i := 4) rfl)
    have e6 := (congrArg (rfS s 5) e5).trans (rfS_at (s := s) (i := 5) rfl (hle 3) h5)
    refine (show rfG s 6 = _ from e6).trans ?_
    simp only [hto, bkF_1, MsD.ns, List.map_nil, nmB, List.map_cons, List.flatten_cons, List.flatten_nil, List.append_nil, List.length_append]
    refine Prod.ext rfl (Prod.ext ?_ rfl)
    simp only
    omega
  · obtain rfl : y = 0 := hy (by decide)
    simp only [(show bkF 2 = [1, 2, 4] from rfl), MsD.ns, List.map_nil, nmB, List.map_cons, List.flatten_cons, List.flatten_nil, List.append_nil] at h
    obtain ⟨h0, h⟩ := at_append.1 h
    obtain ⟨h1, h⟩ := at_append.1 h
    obtain ⟨h2, h3⟩ := at_append.1 h
    have e1 : rfG s 1 = _ := rfS_at (s := s) (i := 0) (a := 0) (m := zM) (o := true) rfl (hle 0) h0
    have e2 := (congrArg (rfS s 1) e1).trans (rfS_at (s := s) (i := 1) rfl (hle 1) h1)
    have e3 := (congrArg (rfS s 2) e2).trans (rfS_at (s := s) (i := 2) rfl (hle 2) h2)
    have e4 := (congrArg (rfS s 3) e3).trans (rfS_at (s := s) (i := 3) rfl (hle 4) h3)
    have e5 := (congrArg (rfS s 4) e4).trans (rfS_skip (s := s) (i := 4) rfl)
    have e6 := (congrArg (rfS s 5) e5).trans (rfS_skip (s := s) (i := 5) rfl)
    refine (show rfG s 6 = _ from e6).trans ?_
    simp only [hto, (show bkF 2 = [1, 2, 4] from rfl), MsD.ns, List.map_nil, nmB, List.map_cons, List.flatten_cons, List.flatten_nil, List.append_nil, List.length_append]
    refine Prod.ext rfl (Prod.ext ?_ rfl)
    simp only
    omega
  · simp only [bkF_3, MsD.ns, List.map_nil, nmB, List.map_cons, List.flatten_cons, List.flatten_nil, List.append_nil] at h
    obtain ⟨h0, h⟩ := at_append.1 h
    obtain ⟨h1, h⟩ := at_append.1 h
    obtain ⟨h2, h⟩ := at_append.1 h
    obtain ⟨h3, h⟩ := at_append.1 h
    obtain ⟨h4, h5⟩ := at_append.1 h
    have e1 : rfG s 1 = _ := rfS_at (s := s) (i := 0) (a := 0) (m := zM) (o := true) rfl (hle 0) h0
    have e2 := (congrArg (rfS s 1) e1).trans (rfS_at (s := s) (i := 1) rfl (hle 1) h1)
    have e3 := (congrArg (rfS s 2) e2).trans (rfS_at (s := s) (i := 2) rfl (hle 2) h2)
    have e4 := (congrArg (rfS s 3) e3).trans (rfS_at (s := s) (i := 3) rfl (hle 4) h3)
    have e5 := (congrArg (rfS s 4) e4).trans (rfS_at (s := s) (i := 4) rfl (hle 5) h4)
    have e6 := (congrArg (rfS s 5) e5).trans (rfS_at (s := s) (i := 5) rfl (hle 3) h5)
    refine (show rfG s 6 = _ from e6).trans ?_
    simp only [hto, bkF_3, MsD.ns, List.map_nil, nmB, List.map_cons, List.flatten_cons, List.flatten_nil, List.append_nil, List.length_append]
    refine Prod.ext rfl (Prod.ext ?_ rfl)
    simp only
    omega

/-- The reference answers as the program does. -/
theorem ref_wd (s : ByteArray) : rfR s = wdR s := by
  by_cases ho : okM s (rdM s) = true
  · obtain ⟨e1, e2, e3⟩ := wd_of ho
    have hw : wdR s = ((rdM s).1, 0) := if_pos ho
    rw [hw]
    generalize (rdM s).1 = m at *
    have hA : At s 0 (frmB m) := by
      have := at_self (frmB m) []
      rw [List.append_nil, e1] at this
      exact this
    have hp := may_parts e2
    rw [frmB] at hA
    obtain ⟨h1, h2⟩ := at_append.1 hA
    have hG := rfG_at e2 h1
    have hA2 : rfA s = (m, true) := by
      rw [rfA, hG]
      simp only
      by_cases k2 : m.k = 2
      · rw [if_pos k2]
        rcases hp.2.2.2.2.2.2.2.2.2.2.2.1 with h | ⟨-, -, h⟩ | h
        · omega
        · have : m.d = [] := List.eq_nil_of_length_eq_zero h
          rw [← this]
        · omega
      · rw [if_neg k2]
        have hd : hdM m.k = true := by
          rcases hp.2.2.2.2.2.2.2.2.2.2.2.1 with h | ⟨h, -, -⟩ | h
          · rw [h]; rfl
          · omega
          · rw [h]; rfl
        rw [hd, if_pos rfl, Nat.zero_add] at h2
        have e4 := pk.tkT_at (by rw [mk_size]; have := encB_small e3; omega) h2
        rw [e4]
        simp only
        rw [dec_enc e3 hp.2.2.2.2.1]
        simp
    have hO : rfO s = true := by
      rw [rfO, hA2]
      simp only [e2, decide_eq_true e1, Bool.and_self]
    rw [rfR, if_pos hO, hA2]
  · have hw : wdR s = (zM, 160) := if_neg ho
    rw [hw, rfR]
    by_cases hO : rfO s = true
    · exfalso
      simp only [rfO, Bool.and_eq_true, decide_eq_true_eq] at hO
      obtain ⟨⟨-, h2⟩, h3⟩ := hO
      have h4 := wd_form h2 (rfA_in s).2
      rw [h3, hw] at h4
      have h5 := congrArg Prod.snd h4
      simp at h5
    · rw [if_neg hO]
end Go.Proofs.Ytgceileakcjmdaa
