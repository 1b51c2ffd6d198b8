/-
  Deltas as words of single code points: what is kept and put in tells the normal form. No walk.
-/
import Derived.Test.YtnfnacjadmhclaaDoorDlR
namespace Go.Proofs.YtnfnacjadmhclaaDoor
open Go.RowKit Go.PlainAid

/-- One code point: kept, removed, put in. -/
inductive U where
  | K
  | R
  | I (z : Int)

def baseU : List U → Nat
  | [] => 0
  | .I _ :: w => baseU w
  | _ :: w => 1 + baseU w
/-- What a word gives of a base whose code points are numbered. -/
def mkU : Nat → List U → List (Nat ⊕ Int)
  | _, [] => []
  | a, .K :: w => .inl a :: mkU (a + 1) w
  | a, .R :: w => mkU (a + 1) w
  | a, .I z :: w => .inr z :: mkU a w

theorem baseU_append : ∀ (a b : List U), baseU (a ++ b) = baseU a + baseU b
  | [], b => by simp [baseU]
  | .K :: a, b => by simp only [List.cons_append, baseU]; rw [baseU_append a b]; omega
  | .R :: a, b => by simp only [List.cons_append, baseU]; rw [baseU_append a b]; omega
  | .I _ :: a, b => by simp only [List.cons_append, baseU]; exact baseU_append a b
theorem mkU_append : ∀ (a b : List U) (i : Nat), mkU i (a ++ b) = mkU i a ++ mkU (i + baseU a) b
  | [], b, i => by simp [mkU, baseU]
  | .K :: a, b, i => by simp only [List.cons_append, mkU, baseU]; rw [mkU_append a b, show i + 1 + baseU a = i + (1 + baseU a) by omega]
  | .R :: a, b, i => by simp only [List.cons_append, mkU, baseU]; rw [mkU_append a b, show i + 1 + baseU a = i + (1 + baseU a) by omega]
  | .I _ :: a, b, i => by simp only [List.cons_append, mkU, baseU]; rw [mkU_append a b]
theorem baseU_K (n : Nat) : baseU (List.replicate n .K) = n := by
  induction n with
  | zero => rfl
  | succ n ih => rw [List.replicate_succ, baseU, ih]; omega; simp
theorem baseU_R (n : Nat) : baseU (List.replicate n .R) = n := by
  induction n with
  | zero => rfl
  | succ n ih => rw [List.replicate_succ, baseU, ih]; omega; simp
theorem baseU_I (p : List Int) : baseU (p.map .I) = 0 := by
  induction p with
  | nil => rfl
  | cons z p ih => rw [List.map_cons, baseU, ih]
theorem mkU_R (n i : Nat) : mkU i (List.replicate n .R) = [] := by
  induction n generalizing i with
  | zero => rfl
  | succ n ih => rw [List.replicate_succ, mkU, ih]
theorem mkU_I (p : List Int) (i : Nat) : mkU i (p.map .I) = p.map .inr := by
  induction p with
  | nil => rfl
  | cons z p ih => rw [List.map_cons, mkU, ih, List.map_cons]

/-- The word of what is kept and put in: what is put in comes first. -/
def wdU (n : Nat) : Nat → List (Nat ⊕ Int) → List U
  | a, [] => List.replicate (n - a) .R
  | a, .inr z :: m => .I z :: wdU n a m
  | a, .inl i :: m => List.replicate (i - a) .R ++ (.K :: wdU n (i + 1) m)

/-- A step, its text as code points. -/
inductive PS where
  | keep (n : Nat)
  | rem (n : Nat)
  | ins (p : List Int)
def PS.u : PS → List U
  | .keep n => List.replicate n .K
  | .rem n => List.replicate n .R
  | .ins p => p.map .I
def PS.st : PS → St
  | .keep n => .keep n
  | .rem n => .rem n
  | .ins p => .ins (mk (enc p))
def PS.op (s : PS) : OpD := s.st.op
def pw (l : List PS) : List U := (l.map PS.u).flatten
theorem pw_append (a b : List PS) : pw (a ++ b) = pw a ++ pw b := by simp [pw]

def flushP (kept : Nat) (put : List Int) (gone : Nat) : List PS :=
  (if 0 < kept then [.keep kept] else []) ++ ((if 0 < put.length then [.ins put] else []) ++ (if 0 < gone then [.rem gone] else []))
theorem pw_flush (kept : Nat) (put : List Int) (gone : Nat) : pw (flushP kept put gone) = List.replicate kept .K ++ (put.map .I ++ List.replicate gone .R) := by
  have h1 : pw (if 0 < kept then [.keep kept] else []) = List.replicate kept .K := by
    split
    · simp [pw, PS.u]
    · have : kept = 0 := by omega
      subst this; rfl
  have h2 : pw (if 0 < put.length then [.ins put] else []) = put.map .I := by
    split
    · simp [pw, PS.u]
    · have : put = [] := List.eq_nil_of_length_eq_zero (by omega)
      subst this; rfl
  have h3 : pw (if 0 < gone then [.rem gone] else []) = List.replicate gone .R := by
    split
    · simp [pw, PS.u]
    · have : gone = 0 := by omega
      subst this; rfl
  rw [flushP, pw_append, pw_append, h1, h2, h3]
theorem enc_pos (p : List Int) : 0 < (enc p).length ↔ 0 < p.length := by
  cases p with
  | nil => simp [enc]
  | cons z p =>
    rw [enc_cons, List.length_append]
    have := ptB_len z.toNat
    simp
    omega
theorem flush_op (kept : Nat) (put : List Int) (gone : Nat) : (flushP kept put gone).map PS.op = flushD kept (enc put) gone := by
  unfold flushP flushD
  simp only [enc_pos]
  split <;> split <;> split <;> rfl

/-- Joining, code point by code point. -/
structure JU where
  D : List PS
  kept : Nat
  put : List Int
  gone : Nat
def JU.add (σ : JU) : U → JU
  | .K => if 0 < σ.put.length ∨ 0 < σ.gone then ⟨σ.D ++ flushP σ.kept σ.put σ.gone, 1, [], 0⟩ else ⟨σ.D, σ.kept + 1, σ.put, σ.gone⟩
  | .R => ⟨σ.D, σ.kept, σ.put, σ.gone + 1⟩
  | .I z => ⟨σ.D, σ.kept, σ.put ++ [z], σ.gone⟩
def JU.out (σ : JU) : List PS := σ.D ++ flushP σ.kept σ.put σ.gone
def ju (σ : JU) (w : List U) : JU := w.foldl JU.add σ
theorem ju_append (σ : JU) (a b : List U) : ju σ (a ++ b) = ju (ju σ a) b := by simp [ju]
theorem ju_cons (σ : JU) (x : U) (b : List U) : ju σ (x :: b) = ju (σ.add x) b := by simp [ju]
/-- The normal form of a word. -/
def nfU (w : List U) : List PS := (ju ⟨[], 0, [], 0⟩ w).out

theorem ju_R (n : Nat) (σ : JU) : ju σ (List.replicate n .R) = ⟨σ.D, σ.kept, σ.put, σ.gone + n⟩ := by
  induction n generalizing σ with
  | zero => rfl
  | succ n ih => rw [List.replicate_succ, ju_cons, ih]; simp only [JU.add]; congr 1; omega
theorem ju_I (p : List Int) (σ : JU) : ju σ (p.map .I) = ⟨σ.D, σ.kept, σ.put ++ p, σ.gone⟩ := by
  induction p generalizing σ with
  | nil => simp [ju]
  | cons z p ih => rw [List.map_cons, ju_cons, ih]; simp only [JU.add]; congr 1; simp
theorem ju_K0 (n : Nat) (D : List PS) (k : Nat) : ju ⟨D, k, [], 0⟩ (List.replicate n .K) = ⟨D, k + n, [], 0⟩ := by
  induction n generalizing k with
  | zero => rfl
  | succ n ih =>
    rw [List.replicate_succ, ju_cons, JU.add, if_neg (by simp), ih]
    show (⟨D, k + 1 + n, [], 0⟩ : JU) = ⟨D, k + (n + 1), [], 0⟩
    congr 1; omega

/-- What is removed may wait behind what is put in. -/
theorem ju_swap (σ : JU) (r : Nat) (z : Int) (w : List U) : ju σ (List.replicate r .R ++ (.I z :: w)) = ju (σ.add (.I z)) (List.replicate r .R ++ w) := by
  rw [ju_append, ju_append, ju_R, ju_R, ju_cons]
  rfl

theorem ju_canon (n : Nat) : ∀ (w : List U) (σ : JU) (a r : Nat), a + r + baseU w = n → ju σ (List.replicate r .R ++ w) = ju σ (wdU n a (mkU (a + r) w))
  | [], σ, a, r, h => by
    simp only [baseU] at h
    rw [mkU, wdU, List.append_nil, show n - a = r by omega]
  | .K :: w, σ, a, r, h => by
    simp only [baseU] at h
    have ih := fun τ => ju_canon n w τ (a + r + 1) 0 (by omega)
    simp only [List.replicate_zero, List.nil_append, Nat.add_zero] at ih
    rw [mkU, wdU, show a + r - a = r by omega, ju_append, ju_append, ju_cons, ju_cons, ih]
  | .R :: w, σ, a, r, h => by
    simp only [baseU] at h
    have ih := ju_canon n w σ a (r + 1) (by omega)
    have e : List.replicate r U.R ++ (.R :: w) = List.replicate (r + 1) U.R ++ w := by
      rw [List.replicate_succ']; simp
    rw [e, ih, mkU, Nat.add_assoc]
  | .I z :: w, σ, a, r, h => by
    simp only [baseU] at h
    rw [ju_swap, mkU, wdU, ju_cons, ju_canon n w _ a r h]
/-- The normal form hangs only on the base and on what is kept and put in. -/
theorem nf_of_marks {w w' : List U} (h1 : baseU w = baseU w') (h2 : mkU 0 w = mkU 0 w') : nfU w = nfU w' := by
  have e1 := ju_canon (baseU w) w ⟨[], 0, [], 0⟩ 0 0 (by omega)
  have e2 := ju_canon (baseU w) w' ⟨[], 0, [], 0⟩ 0 0 (by omega)
  simp only [List.replicate_zero, List.nil_append, Nat.add_zero] at e1 e2
  rw [nfU, nfU, e1, e2, h2]

/-- Words that do the same. -/
def Eqv (w w' : List U) : Prop := baseU w = baseU w' ∧ ∀ a, mkU a w = mkU a w'
theorem Eqv.rfl' (w : List U) : Eqv w w := ⟨rfl, fun _ => rfl⟩
theorem Eqv.trans {a b c : List U} (h : Eqv a b) (k : Eqv b c) : Eqv a c := ⟨h.1.trans k.1, fun i => (h.2 i).trans (k.2 i)⟩
theorem Eqv.append {a b c d : List U} (h : Eqv a b) (k : Eqv c d) : Eqv (a ++ c) (b ++ d) :=
  ⟨by rw [baseU_append, baseU_append, h.1, k.1], fun i => by rw [mkU_append, mkU_append, h.2, h.1, k.2]⟩
theorem Eqv.of_eq {a b : List U} (h : a = b) : Eqv a b := h ▸ Eqv.rfl' a
theorem eqv_swap (z : Int) (g : Nat) : Eqv ([.I z] ++ List.replicate g .R) (List.replicate g .R ++ [.I z]) := by
  refine ⟨by rw [baseU_append, baseU_append]; omega, fun a => ?_⟩
  rw [mkU_append, mkU_append, mkU_R, mkU_R, baseU_R]
  rfl

theorem add_eqv (σ : JU) (x : U) : Eqv (pw (σ.add x).out) (pw σ.out ++ [x]) := by
  cases x with
  | K =>
    simp only [JU.add]
    split
    · refine Eqv.of_eq ?_
      simp only [JU.out]
      rw [pw_append, pw_append, pw_flush, pw_flush]
      simp
    · rename_i h
      have h1 : σ.put = [] := List.eq_nil_of_length_eq_zero (by omega)
      have h2 : σ.gone = 0 := by omega
      refine Eqv.of_eq ?_
      simp only [JU.out]
      rw [pw_append, pw_append, pw_flush, pw_flush, h1, h2, List.replicate_succ']
      simp
  | R =>
    refine Eqv.of_eq ?_
    simp only [JU.add, JU.out]
    rw [pw_append, pw_append, pw_flush, pw_flush, List.replicate_succ']
    simp
  | I z =>
    simp only [JU.add, JU.out]
    rw [pw_append, pw_append, pw_flush, pw_flush]
    have e1 : pw σ.D ++ (List.replicate σ.kept U.K ++ ((σ.put ++ [z]).map U.I ++ List.replicate σ.gone U.R)) = (pw σ.D ++ List.replicate σ.kept U.K ++ σ.put.map U.I) ++ ([U.I z] ++ List.replicate σ.gone U.R) := by simp
    have e2 : pw σ.D ++ (List.replicate σ.kept U.K ++ (σ.put.map U.I ++ List.replicate σ.gone U.R)) ++ [U.I z] = (pw σ.D ++ List.replicate σ.kept U.K ++ σ.put.map U.I) ++ (List.replicate σ.gone U.R ++ [U.I z]) := by simp
    rw [e1, e2]
    exact (Eqv.rfl' _).append (eqv_swap z σ.gone)
theorem ju_eqv : ∀ (w : List U) (σ : JU), Eqv (pw (ju σ w).out) (pw σ.out ++ w)
  | [], σ => Eqv.of_eq (by simp [ju])
  | x :: w, σ => by
    rw [ju_cons]
    have h := (ju_eqv w (σ.add x)).trans ((add_eqv σ x).append (Eqv.rfl' w))
    rw [List.append_assoc] at h
    exact h
/-- The normal form does the same. -/
theorem nf_eqv (w : List U) : Eqv (pw (nfU w)) w := by
  have h := ju_eqv w ⟨[], 0, [], 0⟩
  have e : pw (JU.out ⟨[], 0, [], 0⟩) = [] := rfl
  rw [e, List.nil_append] at h
  exact h
/-- The normal form of a normal form is itself. -/
theorem nf_idem (w : List U) : nfU (pw (nfU w)) = nfU w := nf_of_marks (nf_eqv w).1 ((nf_eqv w).2 0)

/-- How many code points a word gives. -/
def targU (w : List U) : Nat := (mkU 0 w).length
theorem mkU_len (w : List U) (a b : Nat) : (mkU a w).length = (mkU b w).length := by
  induction w generalizing a b with
  | nil => rfl
  | cons x w ih =>
    cases x with
    | K => simp only [mkU, List.length_cons]; rw [ih (a + 1) (b + 1)]
    | R => simp only [mkU]; exact ih _ _
    | I z => simp only [mkU, List.length_cons]; rw [ih a b]
theorem targU_append (a b : List U) : targU (a ++ b) = targU a + targU b := by
  rw [targU, mkU_append, List.length_append, mkU_len b (0 + baseU a) 0]; rfl
theorem Eqv.targ {a b : List U} (h : Eqv a b) : targU a = targU b := by rw [targU, targU, h.2]
end Go.Proofs.YtnfnacjadmhclaaDoor
