/-
  The contracts of applied and Apply.
-/
import Derived.Test.YtjimolafoihnpaaDoorDlJ
import Derived.Deep.RegionLaw
import Derived.Deep.AppendLies
import Derived.Deep.QuietTactic
import Derived.BigQuiet
namespace Go.Proofs.YtjimolafoihnpaaDoor
open Go.ChangeShapes Go.WideShapes Go.ChangeAt Go.RowKit Go.PlainAid

/-- Numbers at a place, with room for as many. -/
def RdP (w : World) (v : Value) (zs : List Int) : Prop :=
  ∃ ao cp, v = .slice ao zs.length cp ∧ zs.length ≤ cp ∧ (0 < zs.length → ∃ b off, ao = some ⟨b, off, none⟩ ∧ b < w.heap.size ∧ ∀ i, i < zs.length → w.cell? ⟨b, off + i, none⟩ = some (.int .i64 (zs.getD i 0)))

theorem rdp_own {w : World} {base n : Nat} {v : Value} {zs : List Int} (h : w.ownsRow base 3 1 v n (iv zs)) : RdP w v zs := by
  have hl := h.1
  rw [iv_length] at hl
  rcases h.2 with ⟨rfl, h0⟩ | ⟨g, cap, cur, rfl, hb, hg, hn, _, hc, ht⟩
  · subst h0
    have : zs = [] := List.eq_nil_of_length_eq_zero (by omega)
    subst this
    exact ⟨none, 0, rfl, Nat.le_refl _, fun h => by simp at h⟩
  · refine ⟨_, cap, by rw [hl, Nat.mul_one], by omega, fun _ => ⟨g, 0, rfl, (h.lt g rfl).2, fun i hi => ?_⟩⟩
    have := h.cells (g := g) rfl i (.int .i64 (zs.getD i 0)) (by simp [iv, hi])
    have hadd : (⟨g, 0, none⟩ : Addr).add i = ⟨g, 0 + i, none⟩ := by unfold Addr.add; split <;> simp_all
    rw [hadd] at this
    exact this
theorem RdP.below {w w' : World} {v : Value} {zs : List Int} (h : RdP w v zs) (hb : Below w.heap.size w w') : RdP w' v zs := by
  obtain ⟨ao, cp, e, h0, h1⟩ := h
  refine ⟨ao, cp, e, h0, fun h => ?_⟩
  obtain ⟨b, off, e1, hl, c0⟩ := h1 h
  exact ⟨b, off, e1, Nat.lt_of_lt_of_le hl hb.size, fun i hi => (hb.cell (p := ⟨b, off + i, none⟩) hl).trans (c0 i hi)⟩

/-- The code points of a text. -/
def pts (t : ByteArray) : List Int := ptL t (cpl t).toNat
/-- What steps make of code points. -/
def apRun : List Int → List St → List Int
  | _, [] => []
  | zs, .keep n :: l => zs.take n ++ apRun (zs.drop n) l
  | zs, .rem n :: l => apRun (zs.drop n) l
  | zs, .ins t :: l => pts t ++ apRun zs l

theorem pts_len {t : ByteArray} (h : 0 ≤ cpl t) : ((pts t).length : Int) = cpl t := by rw [pts, ptL_length]; omega
theorem apRun_len : ∀ (l : List St) (zs : List Int), bsum l ≤ zs.length → (apRun zs l).length = tsum l
  | [], _, _ => by simp [apRun, tsum]
  | .keep n :: l, zs, h => by
    have e1 : bsum (.keep n :: l) = n + bsum l := by simp [bsum, St.b]
    have e2 : tsum (.keep n :: l) = n + tsum l := by simp [tsum, St.c]
    rw [e1] at h
    rw [e2, apRun, List.length_append, apRun_len l _ (by rw [List.length_drop]; omega), List.length_take]
    omega
  | .rem n :: l, zs, h => by
    have e1 : bsum (.rem n :: l) = n + bsum l := by simp [bsum, St.b]
    have e2 : tsum (.rem n :: l) = tsum l := by simp [tsum, St.c]
    rw [e1] at h
    rw [e2, apRun, apRun_len l _ (by rw [List.length_drop]; omega)]
  | .ins t :: l, zs, h => by
    have e1 : bsum (.ins t :: l) = bsum l := by simp [bsum, St.b]
    have e2 : tsum (.ins t :: l) = (cpl t).toNat + tsum l := by simp [tsum, St.c]
    rw [e1] at h
    rw [e2, apRun, List.length_append, apRun_len l _ h, pts, ptL_length]

theorem own_ints {w1 : World} {base n m : Nat} {v' : Value} {L M : List Int} (h : w1.ownsRow base 3 1 v' (n + m) (iv L ++ iv M)) (hn : L.length = n) (hm : M.length = m) :
    w1.ownsRow base 3 1 v' (L ++ M).length (iv (L ++ M)) := by
  subst hn; subst hm
  rw [iv_append, List.length_append]
  exact h
theorem iv_one (l : List Int) : ∀ u ∈ iv l, u.oneCell' = true := by
  intro u hu
  simp only [iv, List.mem_map] at hu
  obtain ⟨x, _, rfl⟩ := hu
  rfl

theorem points_any (t : ByteArray) (w : World) (hs : t.size ≤ 8796093022208) (h : 0 ≤ cpl t) :
    Calls Tryd.prog 81 #[.string t] w fun e w' => ∃ v, e = .returned (.tuple #[v, .bool true]) ∧ w'.ownsRow w.heap.size 3 1 v (pts t).length (iv (pts t)) ∧ Below w.heap.size w w' := by
  have := points_ok t _ w hs (cpl_valid h)
  rw [show (pts t).length = (cpl t).toNat by rw [pts, ptL_length]]
  exact this

theorem iv_cells {w : World} {g o : Nat} {zs : List Int} (h : ∀ i, i < zs.length → w.cell? ⟨g, o + i, none⟩ = some (.int .i64 (zs.getD i 0))) : ∀ j u, (iv zs)[j]? = some u → w.cell? ((⟨g, o, none⟩ : Addr).add j) = some u := by
  intro j u hj
  have hj' : j < zs.length := by have := (List.getElem?_eq_some_iff.1 hj).1; rwa [iv_length] at this
  have hadd : (⟨g, o, none⟩ : Addr).add j = ⟨g, o + j, none⟩ := by unfold Addr.add; split <;> simp_all
  rw [hadd, h j hj']
  simp [iv, hj'] at hj
  rw [← hj]
  simp [hj']
theorem addr_add (b o n : Nat) : (⟨b, o, none⟩ : Addr).add n = ⟨b, o + n, none⟩ := by unfold Addr.add; split <;> simp_all
theorem sizeInt (W : World) : (sizeOf 3).run Tryd.prog W = .ok 1 W := by kernel_rfl
/-- The rest of a slice of numbers. -/
theorem rdp_rest {w : World} (b o len cp n : Nat) (zs : List Int) (hl : len = zs.length) (hn : n ≤ len) (hc : len ≤ cp) (hb : b < w.heap.size) (hz : ∀ i, i < zs.length → w.cell? ⟨b, o + i, none⟩ = some (.int .i64 (zs.getD i 0))) :
    RdP w (.slice (some ⟨b, o + n, none⟩) (len - n) (cp - n)) (zs.drop n) := by
  refine ⟨_, _, by rw [List.length_drop, hl], by rw [List.length_drop]; omega, fun h => ?_⟩
  rw [List.length_drop] at h
  refine ⟨b, o + n, rfl, hb, fun i hi => ?_⟩
  rw [List.length_drop] at hi
  rw [Nat.add_assoc, hz (n + i) (by omega)]
  simp
theorem rdp_none (w : World) (ao : Option Addr) (cp : Nat) (zs : List Int) (h : zs.length = 0) : RdP w (.slice ao 0 cp) zs := ⟨ao, cp, by rw [h], by omega, fun q => by omega⟩
set_option maxRecDepth 20000 in
theorem slice_head (b o len cp n : Nat) (hn : n ≤ len) (hc : len ≤ cp) (h0 : 0 < n) (W : World) :
    (Instr.slice 68 (.slice (some ⟨b, o, none⟩) len cp) none (some (.int .i64 (n : Int))) none).run Tryd.prog W = .ok (.slice (some ⟨b, o, none⟩) n cp) W := by
  rw [run_slice_h (P := Tryd.prog) W 68 (some ⟨b, o, none⟩) len cp Tryd.underlying68 .i64 (n : Int) (by omega) (by omega)]
  have e : Tryd.prog.elem 68 = 3 := by kernel_rfl
  rw [e, sizeInt]
  simp only [Result.andThen, sliced, Int.toNat_natCast, Option.map_some, Nat.mul_one, addr_add]
  rw [if_neg (by omega)]
  simp

end Go.Proofs.YtjimolafoihnpaaDoor

/-
  The contracts of Apply, of the reference's Same, and of live.
-/
namespace Go.Proofs.YtjimolafoihnpaaDoor
open Go.ChangeShapes Go.WideShapes Go.ChangeAt Go.RowKit Go.PlainAid

/-- What Apply gives. -/
def apR (s : ByteArray) (ds : List OpD) : ByteArray × Int :=
  if cpl s < 0 then (⟨#[]⟩, 10) else if chk ds ≠ 0 then (⟨#[]⟩, chk ds) else if (bsum (stR ds) : Int) ≠ cpl s then (⟨#[]⟩, 91) else (mk (enc (apRun (pts s) (stR ds))), 0)

theorem pts_ok {t : ByteArray} (h : 0 ≤ cpl t) : ∀ z ∈ pts t, szI z ≠ 0 := (whole_eq (cpl_valid h)).2
theorem apRun_ok : ∀ (l : List St) (zs : List Int), (∀ s ∈ l, s.Ok) → (∀ z ∈ zs, szI z ≠ 0) → ∀ z ∈ apRun zs l, szI z ≠ 0
  | [], _, _, _ => by simp [apRun]
  | .keep n :: l, zs, ho, hz => by
    intro z h
    rw [apRun, List.mem_append] at h
    rcases h with h | h
    · exact hz z (List.mem_of_mem_take h)
    · exact apRun_ok l _ (fun s hs => ho s (by simp [hs])) (fun x hx => hz x (List.mem_of_mem_drop hx)) z h
  | .rem n :: l, zs, ho, hz => by
    intro z h
    rw [apRun] at h
    exact apRun_ok l _ (fun s hs => ho s (by simp [hs])) (fun x hx => hz x (List.mem_of_mem_drop hx)) z h
  | .ins t :: l, zs, ho, hz => by
    intro z h
    rw [apRun, List.mem_append] at h
    rcases h with h | h
    · exact pts_ok (t := t) (by have := ho (.ins t) (by simp); simp only [St.Ok] at this; omega) z h
    · exact apRun_ok l _ (fun s hs => ho s (by simp [hs])) hz z h

theorem rdp_reads {w : World} {base n : Nat} {v : Value} {zs : List Int} (h : w.ownsRow base 3 1 v n (iv zs)) : ReadsI w v zs := by
  have hl := h.1
  rw [iv_length, Nat.mul_one] at hl
  subst hl
  exact readsI_own h


end Go.Proofs.YtjimolafoihnpaaDoor

/-
  Deltas as words of single code points: what is kept and put in tells the normal form. No walk.
-/
namespace Go.Proofs.YtjimolafoihnpaaDoor
open Go.RowKit Go.PlainAid

/-- One code point: kept, removed, put in. -/
inductive U where
  | K
  | R
  | I (z : Int)

def baseU : List U → Nat
  | [] => 0
  | .I _ :: w => baseU w
  | _ :: w => 1 + baseU w
/-- What a word gives of a base whose code points are numbered. -/
def mkU : Nat → List U → List (Nat ⊕ Int)
  | _, [] => []
  | a, .K :: w => .inl a :: mkU (a + 1) w
  | a, .R :: w => mkU (a + 1) w
  | a, .I z :: w => .inr z :: mkU a w

theorem baseU_append : ∀ (a b : List U), baseU (a ++ b) = baseU a + baseU b
  | [], b => by simp [baseU]
  | .K :: a, b => by simp only [List.cons_append, baseU]; rw [baseU_append a b]; omega
  | .R :: a, b => by simp only [List.cons_append, baseU]; rw [baseU_append a b]; omega
  | .I _ :: a, b => by simp only [List.cons_append, baseU]; exact baseU_append a b
theorem mkU_append : ∀ (a b : List U) (i : Nat), mkU i (a ++ b) = mkU i a ++ mkU (i + baseU a) b
  | [], b, i => by simp [mkU, baseU]
  | .K :: a, b, i => by simp only [List.cons_append, mkU, baseU]; rw [mkU_append a b, show i + 1 + baseU a = i + (1 + baseU a) by omega]
  | .R :: a, b, i => by simp only [List.cons_append, mkU, baseU]; rw [mkU_append a b, show i + 1 + baseU a = i + (1 + baseU a) by omega]
  | .I _ :: a, b, i => by simp only [List.cons_append, mkU, baseU]; rw [mkU_append a b]
theorem baseU_K (n : Nat) : baseU (List.replicate n .K) = n := by
  induction n with
  | zero => rfl
  | succ n ih => rw [List.replicate_succ, baseU, ih]; omega; simp
theorem baseU_R (n : Nat) : baseU (List.replicate n .R) = n := by
  induction n with
  | zero => rfl
  | succ n ih => rw [List.replicate_succ, baseU, ih]; omega; simp
theorem baseU_I (p : List Int) : baseU (p.map .I) = 0 := by
  induction p with
  | nil => rfl
  | cons z p ih => rw [List.map_cons, baseU, ih]
theorem mkU_R (n i : Nat) : mkU i (List.replicate n .R) = [] := by
  induction n generalizing i with
  | zero => rfl
  | succ n ih => rw [List.replicate_succ, mkU, ih]
theorem mkU_I (p : List Int) (i : Nat) : mkU i (p.map .I) = p.map .inr := by
  induction p with
  | nil => rfl
  | cons z p ih => rw [List.map_cons, mkU, ih, List.map_cons]

/-- The word of what is kept and put in: what is put in comes first. -/
def wdU (n : Nat) : Nat → List (Nat ⊕ Int) → List U
  | a, [] => List.replicate (n - a) .R
  | a, .inr z :: m => .I z :: wdU n a m
  | a, .inl i :: m => List.replicate (i - a) .R ++ (.K :: wdU n (i + 1) m)

/-- A step, its text as code points. -/
inductive PS where
  | keep (n : Nat)
  | rem (n : Nat)
  | ins (p : List Int)
def PS.u : PS → List U
  | .keep n => List.replicate n .K
  | .rem n => List.replicate n .R
  | .ins p => p.map .I
def PS.st : PS → St
  | .keep n => .keep n
  | .rem n => .rem n
  | .ins p => .ins (mk (enc p))
def PS.op (s : PS) : OpD := s.st.op
def pw (l : List PS) : List U := (l.map PS.u).flatten
theorem pw_append (a b : List PS) : pw (a ++ b) = pw a ++ pw b := by simp [pw]

def flushP (kept : Nat) (put : List Int) (gone : Nat) : List PS :=
  (if 0 < kept then [.keep kept] else []) ++ ((if 0 < put.length then [.ins put] else []) ++ (if 0 < gone then [.rem gone] else []))
theorem pw_flush (kept : Nat) (put : List Int) (gone : Nat) : pw (flushP kept put gone) = List.replicate kept .K ++ (put.map .I ++ List.replicate gone .R) := by
  have h1 : pw (if 0 < kept then [.keep kept] else []) = List.replicate kept .K := by
    split
    · simp [pw, PS.u]
    · have : kept = 0 := by omega
      subst this; rfl
  have h2 : pw (if 0 < put.length then [.ins put] else []) = put.map .I := by
    split
    · simp [pw, PS.u]
    · have : put = [] := List.eq_nil_of_length_eq_zero (by omega)
      subst this; rfl
  have h3 : pw (if 0 < gone then [.rem gone] else []) = List.replicate gone .R := by
    split
    · simp [pw, PS.u]
    · have : gone = 0 := by omega
      subst this; rfl
  rw [flushP, pw_append, pw_append, h1, h2, h3]
theorem enc_pos (p : List Int) : 0 < (enc p).length ↔ 0 < p.length := by
  cases p with
  | nil => simp [enc]
  | cons z p =>
    rw [enc_cons, List.length_append]
    have := ptB_len z.toNat
    simp
    omega
theorem flush_op (kept : Nat) (put : List Int) (gone : Nat) : (flushP kept put gone).map PS.op = flushD kept (enc put) gone := by
  unfold flushP flushD
  simp only [enc_pos]
  split <;> split <;> split <;> rfl

/-- Joining, code point by code point. -/
structure JU where
  D : List PS
  kept : Nat
  put : List Int
  gone : Nat
def JU.add (σ : JU) : U → JU
  | .K => if 0 < σ.put.length ∨ 0 < σ.gone then ⟨σ.D ++ flushP σ.kept σ.put σ.gone, 1, [], 0⟩ else ⟨σ.D, σ.kept + 1, σ.put, σ.gone⟩
  | .R => ⟨σ.D, σ.kept, σ.put, σ.gone + 1⟩
  | .I z => ⟨σ.D, σ.kept, σ.put ++ [z], σ.gone⟩
def JU.out (σ : JU) : List PS := σ.D ++ flushP σ.kept σ.put σ.gone
def ju (σ : JU) (w : List U) : JU := w.foldl JU.add σ
theorem ju_append (σ : JU) (a b : List U) : ju σ (a ++ b) = ju (ju σ a) b := by simp [ju]
theorem ju_cons (σ : JU) (x : U) (b : List U) : ju σ (x :: b) = ju (σ.add x) b := by simp [ju]
/-- The normal form of a word. -/
def nfU (w : List U) : List PS := (ju ⟨[], 0, [], 0⟩ w).out

theorem ju_R (n : Nat) (σ : JU) : ju σ (List.replicate n .R) = ⟨σ.D, σ.kept, σ.put, σ.gone + n⟩ := by
  induction n generalizing σ with
  | zero => rfl
  | succ n ih => rw [List.replicate_succ, ju_cons, ih]; simp only [JU.add]; congr 1; omega
theorem ju_I (p : List Int) (σ : JU) : ju σ (p.map .I) = ⟨σ.D, σ.kept, σ.put ++ p, σ.gone⟩ := by
  induction p generalizing σ with
  | nil => simp [ju]
  | cons z p ih => rw [List.map_cons, ju_cons, ih]; simp only [JU.add]; congr 1; simp
theorem ju_K0 (n : Nat) (D : List PS) (k : Nat) : ju ⟨D, k, [], 0⟩ (List.replicate n .K) = ⟨D, k + n, [], 0⟩ := by
  induction n generalizing k with
  | zero => rfl
  | succ n ih =>
    rw [List.replicate_succ, ju_cons, JU.add, if_neg (by simp), ih]
    show (⟨D, k + 1 + n, [], 0⟩ : JU) = ⟨D, k + (n + 1), [], 0⟩
    congr 1; omega

/-- What is removed may wait behind what is put in. -/
theorem ju_swap (σ : JU) (r : Nat) (z : Int) (w : List U) : ju σ (List.replicate r .R ++ (.I z :: w)) = ju (σ.add (.I z)) (List.replicate r .R ++ w) := by
  rw [ju_append, ju_append, ju_R, ju_R, ju_cons]
  rfl

theorem ju_canon (n : Nat) : ∀ (w : List U) (σ : JU) (a r : Nat), a + r + baseU w = n → ju σ (List.replicate r .R ++ w) = ju σ (wdU n a (mkU (a + r) w))
  | [], σ, a, r, h => by
    simp only [baseU] at h
    rw [mkU, wdU, List.append_nil, show n - a = r by omega]
  | .K :: w, σ, a, r, h => by
    simp only [baseU] at h
    have ih := fun τ => ju_canon n w τ (a + r + 1) 0 (by omega)
    simp only [List.replicate_zero, List.nil_append, Nat.add_zero] at ih
    rw [mkU, wdU, show a + r - a = r by omega, ju_append, ju_append, ju_cons, ju_cons, ih]
  | .R :: w, σ, a, r, h => by
    simp only [baseU] at h
    have ih := ju_canon n w σ a (r + 1) (by omega)
    have e : List.replicate r U.R ++ (.R :: w) = List.replicate (r + 1) U.R ++ w := by
      rw [List.replicate_succ']; simp
    rw [e, ih, mkU, Nat.add_assoc]
  | .I z :: w, σ, a, r, h => by
    simp only [baseU] at h
    rw [ju_swap, mkU, wdU, ju_cons, ju_canon n w _ a r h]
/-- The normal form hangs only on the base and on what is kept and put in. -/
theorem nf_of_marks {w w' : List U} (h1 : baseU w = baseU w') (h2 : mkU 0 w = mkU 0 w') : nfU w = nfU w' := by
  have e1 := ju_canon (baseU w) w ⟨[], 0, [], 0⟩ 0 0 (by omega)
  have e2 := ju_canon (baseU w) w' ⟨[], 0, [], 0⟩ 0 0 (by omega)
  simp only [List.replicate_zero, List.nil_append, Nat.add_zero] at e1 e2
  rw [nfU, nfU, e1, e2, h2]

/-- Words that do the same. -/
def Eqv (w w' : List U) : Prop := baseU w = baseU w' ∧ ∀ a, mkU a w = mkU a w'
theorem Eqv.rfl' (w : List U) : Eqv w w := ⟨rfl, fun _ => rfl⟩
theorem Eqv.trans {a b c : List U} (h : Eqv a b) (k : Eqv b c) : Eqv a c := ⟨h.1.trans k.1, fun i => (h.2 i).trans (k.2 i)⟩
theorem Eqv.append {a b c d : List U} (h : Eqv a b) (k : Eqv c d) : Eqv (a ++ c) (b ++ d) :=
  ⟨by rw [baseU_append, baseU_append, h.1, k.1], fun i => by rw [mkU_append, mkU_append, h.2, h.1, k.2]⟩
theorem Eqv.of_eq {a b : List U} (h : a = b) : Eqv a b := h ▸ Eqv.rfl' a
theorem eqv_swap (z : Int) (g : Nat) : Eqv ([.I z] ++ List.replicate g .R) (List.replicate g .R ++ [.I z]) := by
  refine ⟨by rw [baseU_append, baseU_append]; omega, fun a => ?_⟩
  rw [mkU_append, mkU_append, mkU_R, mkU_R, baseU_R]
  rfl

theorem add_eqv (σ : JU) (x : U) : Eqv (pw (σ.add x).out) (pw σ.out ++ [x]) := by
  cases x with
  | K =>
    simp only [JU.add]
    split
    · refine Eqv.of_eq ?_
      simp only [JU.out]
      rw [pw_append, pw_append, pw_flush, pw_flush]
      simp
    · rename_i h
      have h1 : σ.put = [] := List.eq_nil_of_length_eq_zero (by omega)
      have h2 : σ.gone = 0 := by omega
      refine Eqv.of_eq ?_
      simp only [JU.out]
      rw [pw_append, pw_append, pw_flush, pw_flush, h1, h2, List.replicate_succ']
      simp
  | R =>
    refine Eqv.of_eq ?_
    simp only [JU.add, JU.out]
    rw [pw_append, pw_append, pw_flush, pw_flush, List.replicate_succ']
    simp
  | I z =>
    simp only [JU.add, JU.out]
    rw [pw_append, pw_append, pw_flush, pw_flush]
    have e1 : pw σ.D ++ (List.replicate σ.kept U.K ++ ((σ.put ++ [z]).map U.I ++ List.replicate σ.gone U.R)) = (pw σ.D ++ List.replicate σ.kept U.K ++ σ.put.map U.I) ++ ([U.I z] ++ List.replicate σ.gone U.R) := by simp
    have e2 : pw σ.D ++ (List.replicate σ.kept U.K ++ (σ.put.map U.I ++ List.replicate σ.gone U.R)) ++ [U.I z] = (pw σ.D ++ List.replicate σ.kept U.K ++ σ.put.map U.I) ++ (List.replicate σ.gone U.R ++ [U.I z]) := by simp
    rw [e1, e2]
    exact (Eqv.rfl' _).append (eqv_swap z σ.gone)
theorem ju_eqv : ∀ (w : List U) (σ : JU), Eqv (pw (ju σ w).out) (pw σ.out ++ w)
  | [], σ => Eqv.of_eq (by simp [ju])
  | x :: w, σ => by
    rw [ju_cons]
    have h := (ju_eqv w (σ.add x)).trans ((add_eqv σ x).append (Eqv.rfl' w))
    rw [List.append_assoc] at h
    exact h
/-- The normal form does the same. -/
theorem nf_eqv (w : List U) : Eqv (pw (nfU w)) w := by
  have h := ju_eqv w ⟨[], 0, [], 0⟩
  have e : pw (JU.out ⟨[], 0, [], 0⟩) = [] := rfl
  rw [e, List.nil_append] at h
  exact h
/-- The normal form of a normal form is itself. -/
theorem nf_idem (w : List U) : nfU (pw (nfU w)) = nfU w := nf_of_marks (nf_eqv w).1 ((nf_eqv w).2 0)

/-- How many code points a word gives. -/
def targU (w : List U) : Nat := (mkU 0 w).length
theorem mkU_len (w : List U) (a b : Nat) : (mkU a w).length = (mkU b w).length := by
  induction w generalizing a b with
  | nil => rfl
  | cons x w ih =>
    cases x with
    | K => simp only [mkU, List.length_cons]; rw [ih (a + 1) (b + 1)]
    | R => simp only [mkU]; exact ih _ _
    | I z => simp only [mkU, List.length_cons]; rw [ih a b]
theorem targU_append (a b : List U) : targU (a ++ b) = targU a + targU b := by
  rw [targU, mkU_append, List.length_append, mkU_len b (0 + baseU a) 0]; rfl
theorem Eqv.targ {a b : List U} (h : Eqv a b) : targU a = targU b := by rw [targU, targU, h.2]
end Go.Proofs.YtjimolafoihnpaaDoor

/-
  The steps of a delta and their word; what follows for Normal. No walk.
-/
namespace Go.Proofs.YtjimolafoihnpaaDoor
open Go.RowKit Go.PlainAid

def St.u : St → List U
  | .keep n => List.replicate n .K
  | .rem n => List.replicate n .R
  | .ins t => (pts t).map .I
/-- The word of steps. -/
def uw (l : List St) : List U := (l.map St.u).flatten
theorem uw_append (a b : List St) : uw (a ++ b) = uw a ++ uw b := by simp [uw]
theorem uw_cons (s : St) (l : List St) : uw (s :: l) = s.u ++ uw l := by simp [uw]
theorem base_u (s : St) : baseU s.u = s.b := by
  cases s with
  | keep n => exact baseU_K n
  | rem n => exact baseU_R n
  | ins t => exact baseU_I _
theorem base_uw : ∀ l : List St, baseU (uw l) = bsum l
  | [] => rfl
  | s :: l => by rw [uw_cons, baseU_append, base_u, base_uw l]; simp [bsum]
theorem mkU_K (n i : Nat) : mkU i (List.replicate n .K) = (List.range n).map (fun j => .inl (i + j)) := by
  induction n generalizing i with
  | zero => rfl
  | succ n ih =>
    rw [List.replicate_succ, mkU, ih, List.range_succ_eq_map]
    simp only [List.map_cons, List.map_map]
    congr 1
    apply List.map_congr_left
    intro j _
    simp only [Function.comp]
    congr 1; omega
theorem targ_u (s : St) : targU s.u = s.c := by
  cases s with
  | keep n => rw [targU, St.u, mkU_K]; simp [St.c]
  | rem n => rw [targU, St.u, mkU_R]; rfl
  | ins t => rw [targU, St.u, mkU_I]; simp [St.c, pts, ptL_length]
theorem targ_uw : ∀ l : List St, targU (uw l) = tsum l
  | [] => rfl
  | s :: l => by rw [uw_cons, targU_append, targ_u, targ_uw l]; simp [tsum]

theorem ins_enc {t : ByteArray} (h : 0 ≤ cpl t) : t.data.toList = enc (pts t) := by
  have h1 := (whole_eq (cpl_valid h)).1
  have h2 := congrArg (fun b : ByteArray => b.data.toList) h1
  simp only [mk_toList] at h2
  exact h2.symm

/-- Joining by steps is joining by code points. -/
structure RelJ (σ : JS) (τ : JU) : Prop where
  D : σ.D = τ.D.map PS.op
  kept : σ.kept = τ.kept
  put : σ.put = enc τ.put
  gone : σ.gone = τ.gone
theorem relJ_add {σ : JS} {τ : JU} (h : RelJ σ τ) {s : St} (hs : s.Ok) : RelJ (σ.add s) (ju τ s.u) := by
  obtain ⟨SD, sk, sp, sg⟩ := σ
  obtain ⟨D, k, p, g⟩ := τ
  obtain ⟨h1, h2, h3, h4⟩ := h
  simp only at h1 h2 h3 h4
  subst h1; subst h2; subst h3; subst h4
  cases s with
  | keep n =>
    simp only [St.Ok] at hs
    obtain ⟨m, rfl⟩ : ∃ m, n = m + 1 := ⟨n - 1, by omega⟩
    simp only [JS.add, St.u, List.replicate_succ, ju_cons, JU.add, enc_pos]
    split
    · rw [ju_K0]
      exact ⟨by simp [flush_op], by simp only; omega, rfl, rfl⟩
    · rename_i hc
      have e1 : p = [] := List.eq_nil_of_length_eq_zero (by omega)
      have e2 : sg = 0 := by omega
      subst e1; subst e2
      rw [ju_K0]
      exact ⟨rfl, by simp only; omega, rfl, rfl⟩
  | rem n =>
    simp only [JS.add, St.u]
    rw [ju_R]
    exact ⟨rfl, rfl, rfl, rfl⟩
  | ins t =>
    simp only [St.Ok] at hs
    simp only [JS.add, St.u]
    rw [ju_I]
    exact ⟨rfl, rfl, by simp only; rw [enc_append, ins_enc (by omega)], rfl⟩
theorem relJ_run : ∀ (l : List St) (σ : JS) (τ : JU), RelJ σ τ → (∀ s ∈ l, s.Ok) → RelJ (l.foldl JS.add σ) (ju τ (uw l))
  | [], _, _, h, _ => h
  | s :: l, σ, τ, h, ho => by
    rw [uw_cons, ju_append]
    exact relJ_run l _ _ (relJ_add h (ho s (by simp))) (fun x hx => ho x (by simp [hx]))
theorem jn_eq {l : List St} (ho : ∀ s ∈ l, s.Ok) : jn l = (nfU (uw l)).map PS.op := by
  have h := relJ_run l ⟨[], 0, [], 0⟩ ⟨[], 0, [], 0⟩ ⟨rfl, rfl, rfl, rfl⟩ ho
  rw [jn, JS.out, nfU, JU.out, List.map_append, flush_op]
  rw [show (jrun l).D = _ from h.D, show (jrun l).kept = _ from h.kept, show (jrun l).put = _ from h.put, show (jrun l).gone = _ from h.gone]

/-- A point step that may be. -/
def PS.Ok : PS → Prop
  | .keep n => 0 < n
  | .rem n => 0 < n
  | .ins p => 0 < p.length ∧ ∀ z ∈ p, szI z ≠ 0
/-- All that a word puts in are code points. -/
def PtsU (w : List U) : Prop := ∀ z, U.I z ∈ w → szI z ≠ 0
theorem flush_ok (k : Nat) (p : List Int) (g : Nat) (hp : ∀ z ∈ p, szI z ≠ 0) : ∀ s ∈ flushP k p g, s.Ok := by
  intro s hs
  simp only [flushP, List.mem_append] at hs
  rcases hs with hs | hs | hs
  · split at hs
    · rename_i h; simp at hs; subst hs; exact h
    · simp at hs
  · split at hs
    · rename_i h; simp at hs; subst hs; exact ⟨h, hp⟩
    · simp at hs
  · split at hs
    · rename_i h; simp at hs; subst hs; exact h
    · simp at hs
theorem ju_ok : ∀ (w : List U) (σ : JU), PtsU w → (∀ s ∈ σ.D, s.Ok) → (∀ z ∈ σ.put, szI z ≠ 0) → ∀ s ∈ (ju σ w).out, s.Ok
  | [], σ, _, h1, h2 => by
    intro s hs
    simp only [ju, List.foldl_nil, JU.out, List.mem_append] at hs
    rcases hs with hs | hs
    · exact h1 s hs
    · exact flush_ok _ _ _ h2 s hs
  | x :: w, σ, hw, h1, h2 => by
    rw [ju_cons]
    refine ju_ok w _ (fun z hz => hw z (by simp [hz])) ?_ ?_
    · cases x with
      | K =>
        simp only [JU.add]
        split
        · intro s hs
          simp only [List.mem_append] at hs
          rcases hs with hs | hs
          · exact h1 s hs
          · exact flush_ok _ _ _ h2 s hs
        · exact h1
      | R => exact h1
      | I z => exact h1
    · cases x with
      | K =>
        simp only [JU.add]
        split
        · simp
        · exact h2
      | R => exact h2
      | I z =>
        intro y hy
        simp only [JU.add, List.mem_append, List.mem_singleton] at hy
        rcases hy with hy | rfl
        · exact h2 y hy
        · exact hw y (by simp)
theorem nf_ok {w : List U} (h : PtsU w) : ∀ s ∈ nfU w, s.Ok := ju_ok w _ h (by simp) (by simp)
theorem ptsU_uw {l : List St} (ho : ∀ s ∈ l, s.Ok) : PtsU (uw l) := by
  intro z hz
  simp only [uw, List.mem_flatten, List.mem_map] at hz
  obtain ⟨_, ⟨s, hs, rfl⟩, hz⟩ := hz
  have := ho s hs
  cases s with
  | keep n => simp [St.u, List.mem_replicate] at hz
  | rem n => simp [St.u, List.mem_replicate] at hz
  | ins t =>
    simp only [St.u, List.mem_map] at hz
    obtain ⟨y, hy, e⟩ := hz
    injection e with e
    subst e
    simp only [St.Ok] at this
    exact pts_ok (by omega) _ hy

theorem cpl_enc {p : List Int} (h : ∀ z ∈ p, szI z ≠ 0) : cpl (mk (enc p)) = (p.length : Int) ∧ pts (mk (enc p)) = p := by
  have hv := valid_enc p h
  have e := cpl_ok hv.1
  refine ⟨e, ?_⟩
  rw [pts, e, Int.toNat_natCast]
  exact hv.2
theorem st_u {s : PS} (h : s.Ok) : s.st.u = s.u := by
  cases s with
  | keep n => rfl
  | rem n => rfl
  | ins p => simp only [PS.st, St.u, PS.u]; rw [(cpl_enc h.2).2]
theorem uw_st : ∀ {l : List PS}, (∀ s ∈ l, s.Ok) → uw (l.map PS.st) = pw l
  | [], _ => rfl
  | s :: l, h => by
    rw [List.map_cons, uw_cons, st_u (h s (by simp)), uw_st (fun x hx => h x (by simp [hx]))]
    simp [pw]
/-- How much of base and target a point step takes. -/
def PS.z : PS → Nat
  | .keep n => n
  | .rem n => n
  | .ins p => p.length
theorem stOf_op {s : PS} (h : s.Ok) (hz : s.z ≤ 1000) : stOf s.op = some s.st := by
  cases s with
  | keep n =>
    simp only [PS.Ok] at h
    simp only [PS.z] at hz
    simp only [PS.op, PS.st, St.op, stOf]
    rw [if_pos ⟨by omega, by omega, rfl⟩, if_pos trivial]
    simp
  | rem n =>
    simp only [PS.Ok] at h
    simp only [PS.z] at hz
    simp only [PS.op, PS.st, St.op, stOf]
    rw [if_pos ⟨by omega, by omega, rfl⟩]
    simp
  | ins p =>
    have h1 := (cpl_enc h.2).1
    have h2 := h.1
    simp only [PS.op, PS.st, St.op, stOf]
    rw [if_neg (by omega), if_pos ⟨trivial, trivial, by rw [h1]; omega⟩]
theorem pw_cons (s : PS) (l : List PS) : pw (s :: l) = s.u ++ pw l := by simp [pw]
theorem z_le {s : PS} (h : s.Ok) : s.z ≤ baseU s.u + targU s.u ∧ 1 ≤ s.z ∧ (s.z ≤ baseU s.u ∨ s.z ≤ targU s.u) := by
  cases s with
  | keep n => have e : baseU (PS.u (.keep n)) = n := baseU_K n; simp only [PS.Ok] at h; simp only [PS.z]; omega
  | rem n => have e : baseU (PS.u (.rem n)) = n := baseU_R n; simp only [PS.Ok] at h; simp only [PS.z]; omega
  | ins p =>
    have e : targU (PS.u (.ins p)) = p.length := by rw [targU, PS.u, mkU_I]; simp
    have := h.1
    simp only [PS.z]; omega
theorem len_z : ∀ {l : List PS}, (∀ s ∈ l, s.Ok) → l.length ≤ baseU (pw l) + targU (pw l) ∧ ∀ s ∈ l, s.z ≤ baseU (pw l) ∨ s.z ≤ targU (pw l)
  | [], _ => by simp
  | s :: l, h => by
    have h1 := z_le (h s (by simp))
    have h2 := len_z (l := l) (fun x hx => h x (by simp [hx]))
    rw [pw_cons, baseU_append, targU_append, List.length_cons]
    refine ⟨by omega, fun x hx => ?_⟩
    rcases List.mem_cons.1 hx with rfl | hx
    · omega
    · have := h2.2 x hx; omega
/-- A list of point steps of which base and target may be: its operations are a delta. -/
theorem chk_ps {l : List PS} (h : ∀ s ∈ l, s.Ok) (h1 : baseU (pw l) ≤ 1000) (h2 : targU (pw l) ≤ 1000) : chk (l.map PS.op) = 0 ∧ stR (l.map PS.op) = l.map PS.st := by
  have hl := len_z h
  have hs : ∀ s ∈ l, stOf s.op = some s.st := fun s hs => stOf_op (h s hs) (by have := hl.2 s hs; omega)
  have e : stl (l.map PS.op) = l.map PS.st := by
    rw [stl, List.filterMap_map]
    clear hl h h1 h2
    induction l with
    | nil => rfl
    | cons s l ih =>
      rw [List.filterMap_cons]
      simp only [Function.comp]
      rw [hs s (by simp), List.map_cons, ih (fun x hx => hs x (by simp [hx]))]
  have hany : (l.map PS.op).any (fun o => (stOf o).isNone) = false := by
    rw [List.any_eq_false]
    intro o ho
    obtain ⟨s, hs', rfl⟩ := List.mem_map.1 ho
    rw [hs s hs']; simp
  have hb : bsum (l.map PS.st) = baseU (pw l) := by rw [← base_uw, uw_st h]
  have ht : tsum (l.map PS.st) = targU (pw l) := by rw [← targ_uw, uw_st h]
  have hc : chk (l.map PS.op) = 0 := by
    rw [chk, if_neg (by rw [List.length_map]; omega), hany, if_neg (by simp), e, if_neg (by rw [hb, ht]; omega)]
  exact ⟨hc, by rw [chk_yes _ hc, e]⟩

/-- Normal of a delta that may be. -/
theorem normal_facts {l : List St} (ho : ∀ s ∈ l, s.Ok) (h1 : bsum l ≤ 1000) (h2 : tsum l ≤ 1000) :
    chk (jn l) = 0 ∧ jn (stR (jn l)) = jn l ∧ Eqv (uw (stR (jn l))) (uw l) ∧ bsum (stR (jn l)) = bsum l ∧ tsum (stR (jn l)) = tsum l := by
  have hw := ptsU_uw ho
  have hn := nf_ok hw
  have he := nf_eqv (uw l)
  have hb : baseU (pw (nfU (uw l))) = bsum l := by rw [he.1, base_uw]
  have ht : targU (pw (nfU (uw l))) = tsum l := by rw [he.targ, targ_uw]
  obtain ⟨c1, c2⟩ := chk_ps hn (by omega) (by omega)
  rw [← jn_eq ho] at c1 c2
  have hu : uw (stR (jn l)) = pw (nfU (uw l)) := by rw [c2, uw_st hn]
  have hok : ∀ s ∈ stR (jn l), s.Ok := by
    intro s hs
    rw [c2] at hs
    obtain ⟨x, hx, rfl⟩ := List.mem_map.1 hs
    have hz := (len_z hn).2 x hx
    have hxo := hn x hx
    cases x with
    | keep n => simp only [PS.Ok] at hxo; simp only [PS.z] at hz; simp only [PS.st, St.Ok]; omega
    | rem n => simp only [PS.Ok] at hxo; simp only [PS.z] at hz; simp only [PS.st, St.Ok]; omega
    | ins p =>
      have e := (cpl_enc hxo.2).1
      have hp := hxo.1
      have hl := enc_len p
      simp only [PS.z] at hz
      simp only [PS.st, St.Ok]
      rw [e, mk_size]
      omega
  refine ⟨c1, ?_, ?_, ?_, ?_⟩
  · rw [jn_eq hok, hu, nf_idem, ← jn_eq ho]
  · rw [hu]; exact he
  · rw [← base_uw, hu, hb]
  · rw [← targ_uw, hu, ht]

/-- What is given of code points, by what is kept and put in. -/
def apM (zs : List Int) (ms : List (Nat ⊕ Int)) : List Int := ms.map (fun m => match m with | .inl i => zs.getD i 0 | .inr z => z)
theorem apRun_marks : ∀ (l : List St) (zs : List Int) (a : Nat), a + bsum l ≤ zs.length → apRun (zs.drop a) l = apM zs (mkU a (uw l))
  | [], _, _, _ => rfl
  | .keep n :: l, zs, a, h => by
    have e1 : bsum (.keep n :: l) = n + bsum l := by simp [bsum, St.b]
    rw [e1] at h
    have ih := apRun_marks l zs (a + n) (by omega)
    rw [apRun, List.drop_drop, ih, uw_cons, mkU_append, base_u, apM, apM, List.map_append]
    congr 1
    simp only [St.u, mkU_K, List.map_map]
    apply List.ext_getElem
    · rw [List.length_take, List.length_drop]; simp; omega
    · intro i g1 g2
      simp at g2
      simp
      rw [List.getElem?_eq_getElem (by omega)]
      rfl
  | .rem n :: l, zs, a, h => by
    have e1 : bsum (.rem n :: l) = n + bsum l := by simp [bsum, St.b]
    rw [e1] at h
    have ih := apRun_marks l zs (a + n) (by omega)
    rw [apRun, List.drop_drop, ih, uw_cons, mkU_append, base_u]
    simp only [St.u, mkU_R, List.nil_append, St.b]
  | .ins t :: l, zs, a, h => by
    have e1 : bsum (.ins t :: l) = bsum l := by simp [bsum, St.b]
    rw [e1] at h
    have ih := apRun_marks l zs a h
    rw [apRun, ih, uw_cons, mkU_append, base_u, apM, apM, List.map_append]
    simp only [St.u, mkU_I, St.b, List.map_map, Nat.add_zero]
    congr 1
    rw [show ((fun m : Nat ⊕ Int => match m with | .inl i => zs.getD i 0 | .inr z => z) ∘ Sum.inr) = id from rfl, List.map_id]
theorem apRun_eqv {l l' : List St} (zs : List Int) (h : Eqv (uw l) (uw l')) (hb : bsum l ≤ zs.length) (hb' : bsum l' ≤ zs.length) : apRun zs l = apRun zs l' := by
  have e1 := apRun_marks l zs 0 (by omega)
  have e2 := apRun_marks l' zs 0 (by omega)
  rw [List.drop_zero] at e1 e2
  rw [e1, e2, h.2]
/-- A delta and its Normal do the same. -/
theorem apR_normal {ds : List OpD} (hi : ∀ o ∈ ds, o.In) (hc : chk ds = 0) (s : ByteArray) : apR s (jn (stR ds)) = apR s ds := by
  have hbd := stR_bd ds
  obtain ⟨n1, n2, n3, n4, n5⟩ := normal_facts (stR_ok hi) hbd.1 hbd.2
  have f : ∀ D : List OpD, chk D = 0 → ¬ cpl s < 0 → apR s D = if (bsum (stR D) : Int) ≠ cpl s then (⟨#[]⟩, 91) else (mk (enc (apRun (pts s) (stR D))), 0) := fun D h1 h2 => by
    rw [apR, if_neg h2, if_neg (fun h => h h1)]
  by_cases c0 : cpl s < 0
  · rw [apR, apR, if_pos c0, if_pos c0]
  · rw [f _ n1 c0, f _ hc c0, n4]
    by_cases c2 : (bsum (stR ds) : Int) = cpl s
    · have hp := pts_len (t := s) (by omega)
      rw [if_neg (fun h => h c2), if_neg (fun h => h c2), apRun_eqv (pts s) n3 (by omega) (by omega)]
    · rw [if_pos c2, if_pos c2]
/-- Normal's operations are short. -/
theorem jn_in {l : List St} (ho : ∀ s ∈ l, s.Ok) (h1 : bsum l ≤ 1000) (h2 : tsum l ≤ 1000) : (jn l).length ≤ 2000 ∧ ∀ o ∈ jn l, o.In := by
  have hn := nf_ok (ptsU_uw ho)
  have he := nf_eqv (uw l)
  have hb : baseU (pw (nfU (uw l))) = bsum l := by rw [he.1, base_uw]
  have ht : targU (pw (nfU (uw l))) = tsum l := by rw [he.targ, targ_uw]
  have hz := len_z hn
  rw [jn_eq ho]
  refine ⟨by rw [List.length_map]; omega, fun o hoo => ?_⟩
  obtain ⟨x, hx, rfl⟩ := List.mem_map.1 hoo
  have := hz.2 x hx
  cases x with
  | keep n => show ByteArray.size ⟨#[]⟩ ≤ _; decide
  | rem n => show ByteArray.size ⟨#[]⟩ ≤ _; decide
  | ins p =>
    have hl := enc_len p
    simp only [PS.z] at this
    show (mk (enc p)).size ≤ _
    rw [mk_size]
    omega
end Go.Proofs.YtjimolafoihnpaaDoor
