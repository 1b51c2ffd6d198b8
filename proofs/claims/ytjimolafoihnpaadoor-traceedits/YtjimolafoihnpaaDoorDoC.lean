/-
  Marks of atoms: a map keyed by structs, as a set.
-/
import Derived.Test.YtjimolafoihnpaaDoorDoA
import Derived.Maps.Own
import Derived.Maps.OwnSet
import Derived.Maps.OwnOps
import Derived.DeepKeys4
import Derived.Carry
import Derived.Deep.RegionWith
namespace Go.Proofs.YtjimolafoihnpaaDoor
open Go.Maps Go.WideShapes Go.RowKit Go.ChangeShapes Go.ChangeAt Go.PlainAid

theorem laidOutP : laidOutB Tryd.prog = true := by kernel_rfl
theorem atomKeyed : Keyed Tryd.prog 94 := Keyed.of_law (deep_law_laid laidOutP (m := 3) (by decide) (by decide +kernel) (by kernel_rfl) (by kernel_rfl))
/-- An atom as a key. -/
def atV (c q n : Int) : Value := .agg #[.int .i64 c, .int .i64 q, .int .i64 n]
/-- A key of the marks: Client, Seq, number. -/
abbrev AtK := Int × Int × Int
def AtK.Wf (k : AtK) : Prop := (Lit.int .i64 k.1).wf = true ∧ (Lit.int .i64 k.2.1).wf = true ∧ (Lit.int .i64 k.2.2).wf = true
/-- What it reads as. -/
def kA (k : AtK) : Lit := .string (keyBytes [.int .i64 k.1, .int .i64 k.2.1, .int .i64 k.2.2])
theorem lits_int {e : Nat} {c : Int} (hc : (Lit.int .i64 c).wf = true) : Tryd.prog.keyLits (e + 1) 3 [.int .i64 c] = some [.int .i64 c] := by
  simp [Program.keyLits, Tryd.underlying3, hc]
theorem lits_or {e : Nat} {c q : Int} (hc : (Lit.int .i64 c).wf = true) (hq : (Lit.int .i64 q).wf = true) : Tryd.prog.keyLits (e + 1 + 1) 29 [.int .i64 c, .int .i64 q] = some [.int .i64 c, .int .i64 q] := by
  have k2 : Tryd.prog.cellsOf 29 = 2 := by kernel_rfl
  have k3 : Tryd.prog.cellsOf 3 = 1 := by kernel_rfl
  unfold Program.keyLits
  simp only [Tryd.underlying29]
  rw [if_pos ⟨by rw [k2]; rfl, by kernel_rfl⟩]
  simp [k3, lits_int hc, lits_int hq]
theorem lits_at {e : Nat} {c q n : Int} (hc : (Lit.int .i64 c).wf = true) (hq : (Lit.int .i64 q).wf = true) (hn : (Lit.int .i64 n).wf = true) : Tryd.prog.keyLits (e + 1 + 1 + 1) 94 [.int .i64 c, .int .i64 q, .int .i64 n] = some [.int .i64 c, .int .i64 q, .int .i64 n] := by
  have k1 : Tryd.prog.cellsOf 94 = 3 := by kernel_rfl
  have k2 : Tryd.prog.cellsOf 29 = 2 := by kernel_rfl
  have k3 : Tryd.prog.cellsOf 3 = 1 := by kernel_rfl
  unfold Program.keyLits
  simp only [Tryd.underlying94]
  rw [if_pos ⟨by rw [k1]; rfl, by kernel_rfl⟩]
  simp [k2, k3, lits_or hc hq, lits_int hn]
theorem kA_key {k : AtK} (h : AtK.Wf k) : keyOf Tryd.prog 94 (atV k.1 k.2.1 k.2.2) = some (kA k) := by
  have h1 : Tryd.prog.keyType 94 = true := by kernel_rfl
  obtain ⟨m, hts⟩ : ∃ m, Tryd.prog.types.size + 1 = m + 1 + 1 + 1 := by
    have h0 : 2 ≤ Tryd.prog.types.size := by decide +kernel
    exact ⟨Tryd.prog.types.size - 2, by omega⟩
  have k1 : Tryd.prog.cellsOf 94 = 3 := by kernel_rfl
  have hf : Value.formed Tryd.prog 94 (.agg #[.int .i64 k.1, .int .i64 k.2.1, .int .i64 k.2.2]) = true := by
    simp [Value.formed, Tryd.underlying94, k1]
  unfold keyOf atV
  rw [Tryd.underlying94]
  simp only [h1, Bool.true_and]
  rw [if_pos hf, hts, show (Value.agg #[.int .i64 k.1, .int .i64 k.2.1, .int .i64 k.2.2]).cells.toList = [.int .i64 k.1, .int .i64 k.2.1, .int .i64 k.2.2] from rfl, lits_at h.1 h.2.1 h.2.2]
  rfl
theorem kA_inj {k l : AtK} (hk : AtK.Wf k) (hl : AtK.Wf l) (h : kA k = kA l) : k = l := by
  have h1 := kA_key hk
  have h2 := kA_key hl
  rw [h] at h1
  have e := keyOf_inj_deep (P := Tryd.prog) (m := 3) (by kernel_rfl) (by kernel_rfl) h1 h2
  simp only [atV, Value.agg.injEq] at e
  have e1 := congrArg (fun a : Array Value => (a[0]?, a[1]?, a[2]?)) e
  simp at e1
  obtain ⟨a, b, c⟩ := k
  obtain ⟨a', b', c'⟩ := l
  simp only at e1
  rw [e1.1, e1.2.1, e1.2.2]

/-- The map in block b has just these marks. -/
def Seen (w : World) (b : Nat) (S : List AtK) : Prop :=
  (∀ k ∈ S, AtK.Wf k) ∧ ∃ D : DataW Unit, w.ownsMap Tryd.prog 94 (unitElem (H := Unit)) b S.length D ∧ Maps.size D = S.length ∧ ∀ k, AtK.Wf k → Maps.has D (kA k) = decide (k ∈ S)
theorem seen_new (w : World) : Seen (w.alloc (.map #[] 0)) w.heap.size [] :=
  ⟨by simp, .map [], World.ownsMap_made w _ _ _, rfl, fun k _ => by simp [Maps.has]⟩
/-- One mark more. -/
theorem seen_put {w w' : World} {b : Nat} {S : List AtK} {k : AtK} {D : DataW Unit} (hS : ∀ k ∈ S, AtK.Wf k) (hk : AtK.Wf k) (hn : k ∉ S) (ho : w.ownsMap Tryd.prog 94 (unitElem (H := Unit)) b S.length D) (hs : Maps.size D = S.length) (hh : ∀ k, AtK.Wf k → Maps.has D (kA k) = decide (k ∈ S))
    (ho' : w'.ownsMap Tryd.prog 94 (unitElem (H := Unit)) b (S.length + 1) (D.put (kA k) (.agg []))) : Seen w' b (S ++ [k]) := by
  refine ⟨fun x hx => ?_, D.put (kA k) (.agg []), by simpa using ho', ?_, fun x hx => ?_⟩
  · rcases List.mem_append.1 hx with h | h
    · exact hS x h
    · simp at h; rw [h]; exact hk
  · rw [Maps.size_put (ho.tidy atomKeyed), hh k hk, decide_eq_false hn, hs, List.length_append]
    rfl
  · by_cases he : x = k
    · subst he
      rw [Maps.has_put_same ho.isMap (atomKeyed.key (kA_key hk))]
      simp
    · rw [Maps.has_put_other (fun e => he (kA_inj hx hk e)), hh x hx]
      simp [he]
end Go.Proofs.YtjimolafoihnpaaDoor

/-
  The contract of see.
-/
namespace Go.Proofs.YtjimolafoihnpaaDoor
open Go.Maps Go.WideShapes Go.RowKit Go.ChangeShapes Go.ChangeAt Go.PlainAid

/-- The keys of a run's atoms. -/
def RunD.kys (r : RunD) : List AtK := (List.range (cpl r.t).toNat).map (fun i : Nat => (r.c, r.q, r.f + (i : Int)))
/-- Marks of keys, one behind the other, till one was there. -/
def sg : List AtK → List AtK → Option (List AtK)
  | S, [] => some S
  | S, k :: ks => if k ∈ S then none else sg (S ++ [k]) ks
theorem sg_app : ∀ (S ks : List AtK) (k : AtK), sg S (ks ++ [k]) = (sg S ks).bind (fun T => if k ∈ T then none else some (T ++ [k]))
  | S, [], k => by simp [sg]
  | S, x :: ks, k => by
    rw [List.cons_append, sg, sg]
    split
    · rfl
    · exact sg_app _ ks k
theorem sg_append : ∀ (S a b : List AtK), sg S (a ++ b) = (sg S a).bind (fun T => sg T b)
  | S, [], b => by simp [sg]
  | S, x :: a, b => by
    rw [List.cons_append, sg, sg]
    split
    · rfl
    · exact sg_append _ a b
theorem sg_none {S K : List AtK} {j : Nat} (h : sg S (K.take j) = none) : sg S K = none := by
  rw [← List.take_append_drop j K, sg_append, h]
  rfl
theorem sg_some : ∀ {S ks T : List AtK}, sg S ks = some T → T = S ++ ks
  | S, [], T, h => by simp [sg] at h; simp [h]
  | S, x :: ks, T, h => by
    rw [sg] at h
    split at h
    · cases h
    · rw [sg_some h]; simp
theorem zero92 (W : World) : (zeroValue 95).run Tryd.prog W = .ok (.agg #[]) W := by kernel_rfl
theorem kys_take (r : RunD) (i : Nat) (h : i < (cpl r.t).toNat) : r.kys.take (i + 1) = r.kys.take i ++ [(r.c, r.q, r.f + (i : Int))] := by
  have hl : i < r.kys.length := by simp [RunD.kys, h]
  rw [List.take_succ_eq_append_getElem hl]
  simp [RunD.kys]
theorem kys_wf {r : RunD} (h : mayR r = true) (i : Nat) (hi : i < (cpl r.t).toNat) : AtK.Wf (r.c, r.q, r.f + (i : Int)) := by
  obtain ⟨h1, h2, h3, h4⟩ := mayR_iff.1 h
  obtain ⟨o1, o2, o3, o4⟩ := orM_iff.1 h1
  have e0 : IntKind.i64.min = -9223372036854775808 := by decide
  have e1 : IntKind.i64.max = 9223372036854775807 := by decide
  refine ⟨?_, ?_, ?_⟩ <;> (simp only [Lit.wf, e0, e1, Bool.and_eq_true, decide_eq_true_eq]; omega)

theorem seen_below {w w' : World} {b : Nat} {S : List AtK} (h : Seen w b S) (hb : Below w.heap.size w w') : Seen w' b S := by
  obtain ⟨h1, D, ho, h2, h3⟩ := h
  have hlt := ho.lt
  obtain ⟨es, clock, hh, F, hs, hD⟩ := ho
  exact ⟨h1, D, ⟨es, clock, (hb.block b hlt).trans hh, F, hs, hD⟩, h2, h3⟩

set_option maxRecDepth 20000 in
set_option maxHeartbeats 1000000 in
theorem see_any (B b : Nat) (r : RunD) (S : List AtK) (w : World) (hV : VS w) (hB : B ≤ b) (hS : Seen w b S) (hM : mayR r = true) (hs : r.t.size ≤ 1125899906842624) (hl : S.length ≤ 1000000) :
    Calls Tryd.prog 15 #[.map (some b), r.v] w fun e w' => e = .returned (.bool (sg S r.kys).isSome) ∧ (∀ T, sg S r.kys = some T → Seen w' b T) ∧ Below B w w' := by
  obtain ⟨h1, h2, h3, h4⟩ := mayR_iff.1 hM
  have hbw : b < w.heap.size := by obtain ⟨-, D, ho, -⟩ := hS; exact ho.lt
  have hb0 : Below w.heap.size w (w.alloc (.cells #[.int .i64 r.c, .int .i64 r.q, .int .i64 r.f, .string r.t] 44)) := (Below.refl _ w).alloc (Nat.le_refl _) _
  have hx : RB _ _ r := heap_alloc_new w (.cells #[.int .i64 r.c, .int .i64 r.q, .int .i64 r.f, .string r.t] 44)
  have hc := count_any r.t _ (hV.below hb0) hs
  have HW := fun i hi => kys_wf hM i hi
  have HT := fun i hi => kys_take r i hi
  have HL : Hid (r.kys.take (cpl r.t).toNat = r.kys) := by show _ = _; rw [List.take_of_length_le (by simp [RunD.kys])]
  have h4' : cpl r.t ≤ 1000 := by omega
  unfold RunD.v
  generalize r.kys = K at *
  obtain ⟨n, hn⟩ : ∃ n : Nat, cpl r.t = (n : Int) := ⟨(cpl r.t).toNat, by omega⟩
  rw [hn] at hc h2 h4 h4' HW HT HL
  simp only [Int.toNat_natCast] at HW HT HL
  clear hn hM h1
  have hf3 : r.f ≤ 1000 := by omega
  go_enter Tryd.func15, Tryd.ntmps15
  go_wp2_with fail
  generalize w.alloc _ = w1 at *
  refine hc.mono ?_
  clear hc
  rintro e w2 ⟨rfl, hb2⟩
  have hx2 := hx.below hb2
  have hS2 := seen_below (seen_below hS hb0) hb2
  have hB2 : Below B w w2 := (hb0.trans (hb2.mono hb0.size)).mono (by omega)
  have hs2 := hb2.size
  have hs1 := hb0.size
  have hpw := heap_lt hx
  clear hx hS hb0 hb2
  go_wp2_with fail
  go_loopw [12] (fun i wr => ∃ (j : Nat) (T : List AtK), j ≤ n ∧ i = .int .i64 (j : Int) ∧ sg S (K.take j) = some T ∧ Seen wr b T ∧ RB wr w.heap.size r ∧ T.length ≤ 1000000 + j ∧ w2.heap.size ≤ wr.heap.size ∧ Below B w wr) (fun i _ => n - (intOf i).toNat)
  case atStart => exact ⟨0, S, Nat.zero_le _, rfl, by simp [sg], hS2, hx2, by omega, Nat.le_refl _, hB2⟩
  case round =>
    obtain ⟨j, T, hj, rfl, hsg, hST, hxr, hlT, hsz, hBr⟩ := hrel
    clear hS2 hx2 hB2
    have HG : Hid (sg S (K.take j) = some T) := hsg
    clear hsg
    by_cases hlt : j < n
    · have hlt' : (j : Int) < (n : Int) := by omega
      have hwf := HW j hlt
      have hkt := HT j hlt
      have HS : Hid (sg S (K.take (j + 1)) = if (r.c, r.q, r.f + (j : Int)) ∈ T then none else some (T ++ [(r.c, r.q, r.f + (j : Int))])) := by
        show _ = _
        rw [hkt, sg_app, HG.out]
        rfl
      have hkey := kA_key hwf
      unfold atV at hkey
      simp only at hkey
      obtain ⟨hw1, D, ho, hsD, hhD⟩ := hST
      obtain ⟨c0, c1, c2, c3⟩ := hxr.cells
      have hha := hhD _ hwf
      clear hkt HT HW
      by_cases hin : (r.c, r.q, r.f + (j : Int)) ∈ T
      · have HN : Hid (sg S K = none) := sg_none (j := j + 1) (by rw [HS.out, if_pos hin])
        rw [decide_eq_true hin] at hha
        clear HS HG hin
        go_wp2_with (at_lookup; refine wpList_lookup_own_unit _ rfl _ _ 42 rfl 94 95 atomKeyed Tryd.underlying42 (zero92 _) b T.length D rfl (ho.alloc _) _ _ rfl hkey ?_; rw [hha])
        go_ret
        rw [HN.out]
        exact ⟨rfl, fun T h => (by cases h), (hBr.alloc (by omega) _).alloc (by simp; omega) _⟩
      · have HG2 : Hid (sg S (K.take (j + 1)) = some (T ++ [(r.c, r.q, r.f + (j : Int))])) := by show _ = _; rw [HS.out, if_neg hin]
        rw [decide_eq_false hin] at hha
        clear HS HG
        go_wp2_with (first
          | (at_lookup; refine wpList_lookup_own_unit _ rfl _ _ 42 rfl 94 95 atomKeyed Tryd.underlying42 (zero92 _) b T.length D rfl (ho.alloc _) _ _ rfl hkey ?_; rw [hha])
          | (at_mapUpdate; refine wpList_mapUpdate_own _ rfl _ _ _ 42 rfl 94 95 atomKeyed Tryd.underlying42 (unitElem (H := Unit)) b T.length D rfl ((ho.alloc _).alloc _) (by unfold maxLen; omega) _ (.agg #[]) _ rfl rfl hkey (.agg []) [] unitElem_mk ?_; intro w9 ho9 hg9))
        have R1 := seen_put hw1 hwf hin ho hsD hhD ho9
        have hs9 := hg9.size
        have hsa : ((wr.alloc (.cells #[.int .i64 r.c, .int .i64 r.q, .int .i64 (r.f + (j : Int))] 94)).alloc (.cells #[] 95)).heap.size = wr.heap.size + 2 := by simp
        have hxa := RB.below (RB.below hxr ((Below.refl _ wr).alloc (Nat.le_refl _) (.cells #[.int .i64 r.c, .int .i64 r.q, .int .i64 (r.f + (j : Int))] 94))) ((Below.refl _ _).alloc (Nat.le_refl _) (.cells #[] 95))
        have R2 : RB w9 w.heap.size r := by
          have h := hg9.block w.heap.size (by omega) (fun e => by injection e with e; omega)
          unfold RB
          rw [h]
          exact hxa
        have R3 : Below B w w9 := ((hBr.alloc (by omega) _).alloc (by rw [show (wr.alloc (.cells #[.int .i64 r.c, .int .i64 r.q, .int .i64 (r.f + (j : Int))] 94)).heap.size = wr.heap.size + 1 by simp]; omega) _).grown hg9 (by omega) (fun k hk => by injection hk with hk; omega)
        clear ho9 hg9 ho hhD hsD hha
        go_roundw
        case rel => exact ⟨j + 1, _, by omega, by go_num, HG2.out, R1, R2, by simp; omega, by omega, R3⟩
        case measure => simp [intOf]; omega
    · obtain rfl : j = n := by omega
      have HE : Hid (sg S K = some T) := by have := HG.out; rw [HL.out] at this; exact this
      clear HG HT HW HL
      go_wp2_with fail
      go_ret
      rw [HE.out]
      exact ⟨rfl, fun T' h => (by cases h; exact hST), hBr⟩
end Go.Proofs.YtjimolafoihnpaaDoor

/-
  The contract of Check.
-/
namespace Go.Proofs.YtjimolafoihnpaaDoor
open Go.Maps Go.WideShapes Go.RowKit Go.ChangeShapes Go.ChangeAt Go.PlainAid

theorem RdN.at {w : World} {ao : Option Addr} {n cp : Nat} {l : List RunD} (h : RdN w (.slice ao n cp) l) (i : Nat) (r : RunD) (hr : l[i]? = some r) : ∃ b off, ao = some ⟨b, off, none⟩ ∧ b < w.heap.size ∧
    w.cell? ⟨b, off + i * 4, none⟩ = some (.int .i64 r.c) ∧ w.cell? ⟨b, off + i * 4 + 1, none⟩ = some (.int .i64 r.q) ∧ w.cell? ⟨b, off + i * 4 + 2, none⟩ = some (.int .i64 r.f) ∧ w.cell? ⟨b, off + i * 4 + 3, none⟩ = some (.string r.t) := by
  obtain ⟨ao', cp', e, -, h⟩ := h
  injection e with e1 e2 e3
  subst e1
  exact h i r hr
/-- Does the rest stand as it must, behind the marks S and the run p? -/
def ckG : List AtK → Option RunD → List RunD → Bool
  | _, _, [] => true
  | S, p, r :: l => mayR r && (match p with | none => true | some a => !nxR a r) && (match sg S r.kys with | none => false | some T => decide (T.length ≤ 1000) && ckG T (some r) l)
theorem ckG_cons (S : List AtK) (p : Option RunD) (r : RunD) (l : List RunD) : ckG S p (r :: l) = (mayR r && (match p with | none => true | some a => !nxR a r) && (match sg S r.kys with | none => false | some T => decide (T.length ≤ 1000) && ckG T (some r) l)) := rfl
/-- What Check answers. -/
def ckR (l : List RunD) : Int := if ckG [] none l = true then 0 else 120
/-- Texts that a run may have in memory. -/
def RunD.In (r : RunD) : Prop := r.t.size ≤ 1125899906842624
theorem drop_one {l : List RunD} {k : Nat} (h : k < l.length) : l.drop k = l[k] :: l.drop (k + 1) := List.drop_eq_getElem_cons h
theorem prev_some {l : List RunD} {k : Nat} (h : k < l.length) : (if k + 1 = 0 then none else l[k + 1 - 1]?) = some l[k] := by simp [h]

theorem cells4 {w w' : World} {b o : Nat} {p q r s : Value} (h0 : w.cell? ⟨b, o, none⟩ = some p) (h1 : w.cell? ⟨b, o + 1, none⟩ = some q) (h2 : w.cell? ⟨b, o + 2, none⟩ = some r) (h3 : w.cell? ⟨b, o + 3, none⟩ = some s) (hb : b < w.heap.size) (hk : Below w.heap.size w w') :
    w'.cell? ⟨b, o, none⟩ = some p ∧ w'.cell? ⟨b, o + 1, none⟩ = some q ∧ w'.cell? ⟨b, o + 2, none⟩ = some r ∧ w'.cell? ⟨b, o + 3, none⟩ = some s := by
  have g : ∀ j, w'.cell? ⟨b, j, none⟩ = w.cell? ⟨b, j, none⟩ := fun j => hk.cell (p := ⟨b, j, none⟩) hb
  exact ⟨by rw [g]; exact h0, by rw [g]; exact h1, by rw [g]; exact h2, by rw [g]; exact h3⟩
theorem wanted_no {o : Oper} {ops : Array Oper} {tmps : Array Value} {j : Nat} {b c : Bool} (hg : o.guard = some (j, b)) (hy : yielded ops tmps j = some c) (hne : c ≠ b) : Region.wanted o (yielded ops tmps) = false := by
  unfold Region.wanted
  rw [hg]
  simp [hy, hne]
theorem wanted_none {o : Oper} {ops : Array Oper} {tmps : Array Value} {j : Nat} {b : Bool} (hg : o.guard = some (j, b)) (hy : yielded ops tmps j = none) : Region.wanted o (yielded ops tmps) = false := by
  unfold Region.wanted
  rw [hg]
  simp [hy]
theorem rdn_keep {w w' : World} {b off n cp : Nat} {l : List RunD} {B : Nat} (h : RdN w (.slice (some ⟨b, off, none⟩) n cp) l) (hb : b < B) (hk : Below B w w') : RdN w' (.slice (some ⟨b, off, none⟩) n cp) l := by
  obtain ⟨ao, cp', e, hc, h⟩ := h
  injection e with e1 e2 e3
  subst e1 e3
  refine ⟨_, _, by rw [e2], hc, fun i r hr => ?_⟩
  obtain ⟨b', off', e1, h1, c0, c1, c2, c3⟩ := h i r hr
  injection e1 with e1
  injection e1 with e4 e5
  subst e4 e5
  have g : ∀ j, w'.cell? ⟨b, j, none⟩ = w.cell? ⟨b, j, none⟩ := fun j => hk.cell (p := ⟨b, j, none⟩) hb
  exact ⟨b, off, rfl, Nat.lt_of_lt_of_le h1 hk.size, by rw [g]; exact c0, by rw [g]; exact c1, by rw [g]; exact c2, by rw [g]; exact c3⟩

set_option maxRecDepth 20000 in
set_option maxHeartbeats 1000000 in
theorem check_any (v : Value) (l : List RunD) (w : World) (hV : VS w) (hr : RdN w v l) (hm : l.length ≤ 1125899906842624) (hi : ∀ r ∈ l, r.In) :
    Calls Tryd.prog 5 #[v] w fun e w' => e = .returned (.int .i64 (ckR l)) ∧ Below w.heap.size w w' := by
  have hS0 := seen_new w
  have hB0 : Below w.heap.size w (w.alloc (.map #[] 0)) := (Below.refl _ w).alloc (Nat.le_refl _) _
  obtain ⟨ao, cp, hv, -⟩ := id hr
  subst hv
  have hr0 := hr.below hB0
  have HA : ∀ i x, l[i]? = some x → ∃ b off, ao = some ⟨b, off, none⟩ ∧ b < w.heap.size := fun i x h => by obtain ⟨b, off, e1, h1, -⟩ := hr.at i x h; exact ⟨b, off, e1, h1⟩
  clear hr
  have hmm := @run_makeMap Tryd.prog
  go_enter Tryd.func5, Tryd.ntmps5
  go_wp2_with fail
  clear hmm
  generalize w.alloc _ = w0 at *
  go_loopw [9] (fun i wr => ∃ (k : Nat) (T : List AtK), k ≤ l.length ∧ i = .int .i64 (k : Int) ∧ ckG [] none l = ckG T (if k = 0 then none else l[k - 1]?) (l.drop k) ∧ (∀ r, l[k - 1]? = some r → 0 < k → mayR r = true) ∧ T.length ≤ 1000 ∧ Seen wr w.heap.size T ∧ RdN wr (.slice ao l.length cp) l ∧ Below w.heap.size w wr) (fun i _ => l.length - (intOf i).toNat)
  case atStart => exact ⟨0, [], Nat.zero_le _, rfl, by simp, fun r _ h => by omega, by simp, hS0, hr0, hB0⟩
  case round =>
    obtain ⟨k, T, hk, rfl, hck, hpm, hTl, hST, hrd, hBr⟩ := hrel
    clear hS0 hr0 hB0
    have HC : Hid (ckG [] none l = ckG T (if k = 0 then none else l[k - 1]?) (l.drop k)) := hck
    clear hck
    by_cases hlt : k < l.length
    · have hlt' : (k : Int) < (l.length : Int) := by omega
      have hin := hi l[k] (List.getElem_mem hlt)
      obtain ⟨bb, off, e1, -, e2, e3, e4, e5⟩ := hrd.at k l[k] (by simp [hlt])
      have hbb : bb < w.heap.size := by obtain ⟨b', o', q1, q2⟩ := HA k l[k] (by simp [hlt]); rw [e1] at q1; injection q1 with q1; injection q1 with q3; omega
      have HC2 : Hid (ckG [] none l = (mayR l[k] && (match (if k = 0 then none else l[k - 1]?) with | none => true | some a => !nxR a l[k]) && (match sg T l[k].kys with | none => false | some T' => decide (T'.length ≤ 1000) && ckG T' (some l[k]) (l.drop (k + 1))))) := by
        show _ = _
        rw [HC.out, drop_one hlt, ckG_cons]
      clear HC
      have HP : Hid (l[k]? = some l[k]) := by show _ = _; simp [hlt]
      generalize l[k] = r at *
      subst e1
      have hb1 : Below wr.heap.size wr (wr.alloc (.cells #[.int .i64 r.c, .int .i64 r.q, .int .i64 r.f, .string r.t] 44)) := (Below.refl _ wr).alloc (Nat.le_refl _) _
      have hx1 : RB (wr.alloc (.cells #[.int .i64 r.c, .int .i64 r.q, .int .i64 r.f, .string r.t] 44)) wr.heap.size r := heap_alloc_new wr _
      have hB1 := hBr.trans (hb1.mono hBr.size)
      have hS1 := seen_below hST hb1
      have hrd1 := hrd.below hb1
      have hmy := mayBe_any r (wr.alloc (.cells #[.int .i64 r.c, .int .i64 r.q, .int .i64 r.f, .string r.t] 44)).drew (hV.below hB1.drew) hin
      clear hST hrd hb1 hBr
      go_wp2_with fail
      generalize wr.alloc _ = w1 at *
      have hx1d : RB w1.drew wr.heap.size r := hx1
      cases hmr : mayR r
      · have HX : Hid (ckR l = 120) := by show _ = _; rw [ckR, HC2.out, hmr]; rfl
        rw [hmr] at hmy
        unfold RunD.v at hmy
        clear HC2 hmr
        obtain ⟨c0, c1, c2, c3⟩ := hx1.cells
        refine wp_region_held_drew (S := (fun W => W.cell? ⟨wr.heap.size, 0, none⟩ = some (.int .i64 r.c) ∧ W.cell? ⟨wr.heap.size, 1, none⟩ = some (.int .i64 r.q) ∧ W.cell? ⟨wr.heap.size, 2, none⟩ = some (.int .i64 r.f) ∧ W.cell? ⟨wr.heap.size, 3, none⟩ = some (.string r.t))) (by kernel_rfl) ⟨c0, c1, c2, c3⟩ (fun hHeld => ?_)
        refine wpAnyH_take (i := 0) (oi := { dst := some 14, op := Op.load 44 (Operand.tmp 5), type := 44, pos := "doc.go:16", after := #[], guard := none }) (v := .agg #[.int .i64 r.c, .int .i64 r.q, .int .i64 r.f, .string r.t]) rfl (by kernel_rfl) (by kernel_rfl) (by kernel_rfl) (fun _ _ _ h => h) (Or.inl ⟨by rfl, fun W hW => ?_⟩) hHeld ?_
        · obtain ⟨q0, q1, q2, q3⟩ := hW
          go_simp
        simp only [Act.put, List.setIfInBounds_toArray, List.set_cons_zero, List.set_cons_succ]
        refine wpAnyH_ready (rs := [1]) (by kernel_rfl) (by simp) ?_
        refine AllReadyH.cons (o := { dst := some 15, op := Op.call { callee := Callee.value (Operand.func 13), args := #[Operand.tmp 14], argTypes := #[44] }, type := 4, pos := "doc.go:16", after := #[{ on := 0, ground := Ground.data }], guard := none }) rfl (fun K hK => ?_) AllReadyH.nil
        go_simp
        refine hmy.mono ?_
        rintro e w5 ⟨rfl, hb5⟩
        have hx5 := hx1d.below hb5
        obtain ⟨k0, k1, k2, k3⟩ := hx5.cells
        go_wp2_with fail
        refine hK.out _ _ ⟨k0, k1, k2, k3⟩ (fun hHeld => ?_)
        clear hK K
        refine wpAnyH_take (i := 2) (oi := { dst := some 16, op := Op.unOp UnOp.not 4 (Operand.tmp 15), type := 4, pos := "doc.go:16", after := #[{ on := 1, ground := Ground.data }], guard := none }) (v := .bool true) rfl (by kernel_rfl) (by kernel_rfl) (by kernel_rfl) (fun _ _ _ h => h) (Or.inl ⟨by rfl, fun W _ => rfl⟩) hHeld ?_
        simp only [Act.put, List.setIfInBounds_toArray, List.set_cons_zero, List.set_cons_succ]
        refine wpAnyH_take (i := 3) (oi := { dst := some 17, op := Op.move (Operand.tmp 16), type := 4, pos := "doc.go:16", after := #[{ on := 2, ground := Ground.data }, { on := 1, ground := Ground.chain }], guard := none }) (v := .bool true) rfl (by kernel_rfl) (by kernel_rfl) (by kernel_rfl) (fun _ _ _ h => h) (Or.inl ⟨by rfl, fun W _ => rfl⟩) hHeld ?_
        simp only [Act.put, List.setIfInBounds_toArray, List.set_cons_zero, List.set_cons_succ]
        refine wpAnyH_take (i := 4) (oi := { dst := some 18, op := Op.move (Operand.tmp 4), type := 3, pos := "doc.go:16", after := #[{ on := 3, ground := Ground.guard }], guard := some (3, false) }) (v := undef) rfl (by kernel_rfl) (by kernel_rfl) (by kernel_rfl) (fun _ _ _ h => h) (Or.inr ⟨wanted_no (j := 3) (b := false) (c := true) rfl rfl (by decide), rfl⟩) hHeld ?_
        simp only [Act.put, List.setIfInBounds_toArray, List.set_cons_zero, List.set_cons_succ]
        refine wpAnyH_take (i := 5) (oi := { dst := some 19, op := Op.binOp BinOp.gtr 3 (Operand.tmp 18) (Operand.const (Value.int IntKind.i64 0)) 3, type := 4, pos := "doc.go:16", after := #[{ on := 4, ground := Ground.data }, { on := 3, ground := Ground.guard }], guard := some (3, false) }) (v := undef) rfl (by kernel_rfl) (by kernel_rfl) (by kernel_rfl) (fun _ _ _ h => h) (Or.inr ⟨wanted_no (j := 3) (b := false) (c := true) rfl rfl (by decide), rfl⟩) hHeld ?_
        simp only [Act.put, List.setIfInBounds_toArray, List.set_cons_zero, List.set_cons_succ]
        refine wpAnyH_take (i := 6) (oi := { dst := some 20, op := Op.move (Operand.tmp 19), type := 4, pos := "doc.go:16", after := #[{ on := 5, ground := Ground.data }, { on := 3, ground := Ground.chain }, { on := 3, ground := Ground.guard }], guard := some (3, false) }) (v := undef) rfl (by kernel_rfl) (by kernel_rfl) (by kernel_rfl) (fun _ _ _ h => h) (Or.inr ⟨wanted_no (j := 3) (b := false) (c := true) rfl rfl (by decide), rfl⟩) hHeld ?_
        simp only [Act.put, List.setIfInBounds_toArray, List.set_cons_zero, List.set_cons_succ]
        refine wpAnyH_take (i := 7) (oi := { dst := some 21, op := Op.move (Operand.tmp 0), type := 22, pos := "doc.go:16", after := #[{ on := 6, ground := Ground.guard }], guard := some (6, true) }) (v := undef) rfl (by kernel_rfl) (by kernel_rfl) (by kernel_rfl) (fun _ _ _ h => h) (Or.inr ⟨wanted_none (j := 6) (b := true) rfl rfl, rfl⟩) hHeld ?_
        simp only [Act.put, List.setIfInBounds_toArray, List.set_cons_zero, List.set_cons_succ]
        refine wpAnyH_take (i := 8) (oi := { dst := some 22, op := Op.move (Operand.tmp 4), type := 3, pos := "doc.go:16", after := #[{ on := 6, ground := Ground.guard }], guard := some (6, true) }) (v := undef) rfl (by kernel_rfl) (by kernel_rfl) (by kernel_rfl) (fun _ _ _ h => h) (Or.inr ⟨wanted_none (j := 6) (b := true) rfl rfl, rfl⟩) hHeld ?_
        simp only [Act.put, List.setIfInBounds_toArray, List.set_cons_zero, List.set_cons_succ]
        refine wpAnyH_take (i := 9) (oi := { dst := some 23, op := Op.binOp BinOp.sub 3 (Operand.tmp 22) (Operand.const (Value.int IntKind.i64 1)) 3, type := 3, pos := "doc.go:16", after := #[{ on := 8, ground := Ground.data }, { on := 6, ground := Ground.guard }], guard := some (6, true) }) (v := undef) rfl (by kernel_rfl) (by kernel_rfl) (by kernel_rfl) (fun _ _ _ h => h) (Or.inr ⟨wanted_none (j := 6) (b := true) rfl rfl, rfl⟩) hHeld ?_
        simp only [Act.put, List.setIfInBounds_toArray, List.set_cons_zero, List.set_cons_succ]
        refine wpAnyH_take (i := 10) (oi := { dst := some 24, op := Op.indexAddr 22 (Operand.tmp 21) (Operand.tmp 23), type := 0, pos := "doc.go:16", after := #[{ on := 7, ground := Ground.data }, { on := 9, ground := Ground.data }, { on := 6, ground := Ground.guard }], guard := some (6, true) }) (v := undef) rfl (by kernel_rfl) (by kernel_rfl) (by kernel_rfl) (fun _ _ _ h => h) (Or.inr ⟨wanted_none (j := 6) (b := true) rfl rfl, rfl⟩) hHeld ?_
        simp only [Act.put, List.setIfInBounds_toArray, List.set_cons_zero, List.set_cons_succ]
        refine wpAnyH_take (i := 11) (oi := { dst := some 25, op := Op.load 44 (Operand.tmp 24), type := 44, pos := "doc.go:16", after := #[{ on := 10, ground := Ground.data }, { on := 6, ground := Ground.guard }], guard := some (6, true) }) (v := undef) rfl (by kernel_rfl) (by kernel_rfl) (by kernel_rfl) (fun _ _ _ h => h) (Or.inr ⟨wanted_none (j := 6) (b := true) rfl rfl, rfl⟩) hHeld ?_
        simp only [Act.put, List.setIfInBounds_toArray, List.set_cons_zero, List.set_cons_succ]
        refine wpAnyH_take (i := 12) (oi := { dst := some 26, op := Op.load 44 (Operand.tmp 5), type := 44, pos := "doc.go:16", after := #[{ on := 6, ground := Ground.guard }], guard := some (6, true) }) (v := undef) rfl (by kernel_rfl) (by kernel_rfl) (by kernel_rfl) (fun _ _ _ h => h) (Or.inr ⟨wanted_none (j := 6) (b := true) rfl rfl, rfl⟩) hHeld ?_
        simp only [Act.put, List.setIfInBounds_toArray, List.set_cons_zero, List.set_cons_succ]
        refine wpAnyH_take (i := 13) (oi := { dst := some 27, op := Op.call { callee := Callee.value (Operand.func 14), args := #[Operand.tmp 25, Operand.tmp 26], argTypes := #[44, 44] }, type := 4, pos := "doc.go:16", after := #[{ on := 11, ground := Ground.data }, { on := 12, ground := Ground.data }, { on := 6, ground := Ground.chain }, { on := 6, ground := Ground.guard }], guard := some (6, true) }) (v := undef) rfl (by kernel_rfl) (by kernel_rfl) (by kernel_rfl) (fun _ _ _ h => h) (Or.inr ⟨wanted_none (j := 6) (b := true) rfl rfl, rfl⟩) hHeld ?_
        simp only [Act.put, List.setIfInBounds_toArray, List.set_cons_zero, List.set_cons_succ]
        refine wpAnyH_take (i := 14) (oi := { dst := some 28, op := Op.pick (Operand.tmp 20) (Operand.tmp 27) (Operand.const (Value.bool false)), type := 4, pos := "doc.go:16", after := #[{ on := 6, ground := Ground.data }, { on := 13, ground := Ground.data }, { on := 3, ground := Ground.guard }], guard := some (3, false) }) (v := undef) rfl (by kernel_rfl) (by kernel_rfl) (by kernel_rfl) (fun _ _ _ h => h) (Or.inr ⟨wanted_no (j := 3) (b := false) (c := true) rfl rfl (by decide), rfl⟩) hHeld ?_
        simp only [Act.put, List.setIfInBounds_toArray, List.set_cons_zero, List.set_cons_succ]
        refine wpAnyH_take (i := 15) (oi := { dst := some 29, op := Op.pick (Operand.tmp 17) (Operand.const (Value.bool true)) (Operand.tmp 28), type := 4, pos := "doc.go:16", after := #[{ on := 3, ground := Ground.data }, { on := 14, ground := Ground.data }], guard := none }) (v := .bool true) rfl (by kernel_rfl) (by kernel_rfl) (by kernel_rfl) (fun _ _ _ h => h) (Or.inl ⟨by rfl, fun W _ => rfl⟩) hHeld ?_
        simp only [Act.put, List.setIfInBounds_toArray, List.set_cons_zero, List.set_cons_succ]
        refine wpAnyH_done (by kernel_rfl) ?_ _
        have hBf := hB1.drew.trans (hb5.mono hB1.size)
        clear k0 k1 k2 k3 hx5 hmy hb5
        go_wp2_with fail
        go_ret
        rw [HX.out]
        exact ⟨rfl, hBf⟩
      rw [hmr] at hmy
      unfold RunD.v at hmy
      obtain ⟨c0, c1, c2, c3⟩ := hx1.cells
      by_cases hk0 : k = 0
      · have HC3 : Hid (ckG [] none l = (match sg T r.kys with | none => false | some T' => decide (T'.length ≤ 1000) && ckG T' (some r) (l.drop (k + 1)))) := by show _ = _; rw [HC2.out, hmr, if_pos hk0]; simp
        clear HC2
        subst hk0
        refine wp_region_held_drew (S := (fun W => W.cell? ⟨wr.heap.size, 0, none⟩ = some (.int .i64 r.c) ∧ W.cell? ⟨wr.heap.size, 1, none⟩ = some (.int .i64 r.q) ∧ W.cell? ⟨wr.heap.size, 2, none⟩ = some (.int .i64 r.f) ∧ W.cell? ⟨wr.heap.size, 3, none⟩ = some (.string r.t))) (by kernel_rfl) ⟨c0, c1, c2, c3⟩ (fun hHeld => ?_)
        refine wpAnyH_take (i := 0) (oi := { dst := some 14, op := Op.load 44 (Operand.tmp 5), type := 44, pos := "doc.go:16", after := #[], guard := none }) (v := .agg #[.int .i64 r.c, .int .i64 r.q, .int .i64 r.f, .string r.t]) rfl (by kernel_rfl) (by kernel_rfl) (by kernel_rfl) (fun _ _ _ h => h) (Or.inl ⟨by rfl, fun W hW => ?_⟩) hHeld ?_
        · obtain ⟨q0, q1, q2, q3⟩ := hW
          go_simp
        simp only [Act.put, List.setIfInBounds_toArray, List.set_cons_zero, List.set_cons_succ]
        refine wpAnyH_ready (rs := [1]) (by kernel_rfl) (by simp) ?_
        refine AllReadyH.cons (o := { dst := some 15, op := Op.call { callee := Callee.value (Operand.func 13), args := #[Operand.tmp 14], argTypes := #[44] }, type := 4, pos := "doc.go:16", after := #[{ on := 0, ground := Ground.data }], guard := none }) rfl (fun K hK => ?_) AllReadyH.nil
        go_simp
        refine hmy.mono ?_
        rintro e w5 ⟨rfl, hb5⟩
        have hx5 := hx1d.below hb5
        obtain ⟨k0, k1, k2, k3⟩ := hx5.cells
        go_wp2_with fail
        refine hK.out _ _ ⟨k0, k1, k2, k3⟩ (fun hHeld => ?_)
        clear hK K
        refine wpAnyH_take (i := 2) (oi := { dst := some 16, op := Op.unOp UnOp.not 4 (Operand.tmp 15), type := 4, pos := "doc.go:16", after := #[{ on := 1, ground := Ground.data }], guard := none }) (v := .bool false) rfl (by kernel_rfl) (by kernel_rfl) (by kernel_rfl) (fun _ _ _ h => h) (Or.inl ⟨by rfl, fun W _ => rfl⟩) hHeld ?_
        simp only [Act.put, List.setIfInBounds_toArray, List.set_cons_zero, List.set_cons_succ]
        refine wpAnyH_take (i := 3) (oi := { dst := some 17, op := Op.move (Operand.tmp 16), type := 4, pos := "doc.go:16", after := #[{ on := 2, ground := Ground.data }, { on := 1, ground := Ground.chain }], guard := none }) (v := .bool false) rfl (by kernel_rfl) (by kernel_rfl) (by kernel_rfl) (fun _ _ _ h => h) (Or.inl ⟨by rfl, fun W _ => rfl⟩) hHeld ?_
        simp only [Act.put, List.setIfInBounds_toArray, List.set_cons_zero, List.set_cons_succ]
        refine wpAnyH_take (i := 4) (oi := { dst := some 18, op := Op.move (Operand.tmp 4), type := 3, pos := "doc.go:16", after := #[{ on := 3, ground := Ground.guard }], guard := some (3, false) }) (v := .int .i64 0) rfl (by kernel_rfl) (by kernel_rfl) (by kernel_rfl) (fun _ _ _ h => h) (Or.inl ⟨by rfl, fun W _ => rfl⟩) hHeld ?_
        simp only [Act.put, List.setIfInBounds_toArray, List.set_cons_zero, List.set_cons_succ]
        refine wpAnyH_take (i := 5) (oi := { dst := some 19, op := Op.binOp BinOp.gtr 3 (Operand.tmp 18) (Operand.const (Value.int IntKind.i64 0)) 3, type := 4, pos := "doc.go:16", after := #[{ on := 4, ground := Ground.data }, { on := 3, ground := Ground.guard }], guard := some (3, false) }) (v := .bool false) rfl (by kernel_rfl) (by kernel_rfl) (by kernel_rfl) (fun _ _ _ h => h) (Or.inl ⟨by rfl, fun W _ => rfl⟩) hHeld ?_
        simp only [Act.put, List.setIfInBounds_toArray, List.set_cons_zero, List.set_cons_succ]
        refine wpAnyH_take (i := 6) (oi := { dst := some 20, op := Op.move (Operand.tmp 19), type := 4, pos := "doc.go:16", after := #[{ on := 5, ground := Ground.data }, { on := 3, ground := Ground.chain }, { on := 3, ground := Ground.guard }], guard := some (3, false) }) (v := .bool false) rfl (by kernel_rfl) (by kernel_rfl) (by kernel_rfl) (fun _ _ _ h => h) (Or.inl ⟨by rfl, fun W _ => rfl⟩) hHeld ?_
        simp only [Act.put, List.setIfInBounds_toArray, List.set_cons_zero, List.set_cons_succ]
        refine wpAnyH_take (i := 7) (oi := { dst := some 21, op := Op.move (Operand.tmp 0), type := 22, pos := "doc.go:16", after := #[{ on := 6, ground := Ground.guard }], guard := some (6, true) }) (v := undef) rfl (by kernel_rfl) (by kernel_rfl) (by kernel_rfl) (fun _ _ _ h => h) (Or.inr ⟨wanted_no (j := 6) (b := true) (c := false) rfl rfl (by decide), rfl⟩) hHeld ?_
        simp only [Act.put, List.setIfInBounds_toArray, List.set_cons_zero, List.set_cons_succ]
        refine wpAnyH_take (i := 8) (oi := { dst := some 22, op := Op.move (Operand.tmp 4), type := 3, pos := "doc.go:16", after := #[{ on := 6, ground := Ground.guard }], guard := some (6, true) }) (v := undef) rfl (by kernel_rfl) (by kernel_rfl) (by kernel_rfl) (fun _ _ _ h => h) (Or.inr ⟨wanted_no (j := 6) (b := true) (c := false) rfl rfl (by decide), rfl⟩) hHeld ?_
        simp only [Act.put, List.setIfInBounds_toArray, List.set_cons_zero, List.set_cons_succ]
        refine wpAnyH_take (i := 9) (oi := { dst := some 23, op := Op.binOp BinOp.sub 3 (Operand.tmp 22) (Operand.const (Value.int IntKind.i64 1)) 3, type := 3, pos := "doc.go:16", after := #[{ on := 8, ground := Ground.data }, { on := 6, ground := Ground.guard }], guard := some (6, true) }) (v := undef) rfl (by kernel_rfl) (by kernel_rfl) (by kernel_rfl) (fun _ _ _ h => h) (Or.inr ⟨wanted_no (j := 6) (b := true) (c := false) rfl rfl (by decide), rfl⟩) hHeld ?_
        simp only [Act.put, List.setIfInBounds_toArray, List.set_cons_zero, List.set_cons_succ]
        refine wpAnyH_take (i := 10) (oi := { dst := some 24, op := Op.indexAddr 22 (Operand.tmp 21) (Operand.tmp 23), type := 0, pos := "doc.go:16", after := #[{ on := 7, ground := Ground.data }, { on := 9, ground := Ground.data }, { on := 6, ground := Ground.guard }], guard := some (6, true) }) (v := undef) rfl (by kernel_rfl) (by kernel_rfl) (by kernel_rfl) (fun _ _ _ h => h) (Or.inr ⟨wanted_no (j := 6) (b := true) (c := false) rfl rfl (by decide), rfl⟩) hHeld ?_
        simp only [Act.put, List.setIfInBounds_toArray, List.set_cons_zero, List.set_cons_succ]
        refine wpAnyH_take (i := 11) (oi := { dst := some 25, op := Op.load 44 (Operand.tmp 24), type := 44, pos := "doc.go:16", after := #[{ on := 10, ground := Ground.data }, { on := 6, ground := Ground.guard }], guard := some (6, true) }) (v := undef) rfl (by kernel_rfl) (by kernel_rfl) (by kernel_rfl) (fun _ _ _ h => h) (Or.inr ⟨wanted_no (j := 6) (b := true) (c := false) rfl rfl (by decide), rfl⟩) hHeld ?_
        simp only [Act.put, List.setIfInBounds_toArray, List.set_cons_zero, List.set_cons_succ]
        refine wpAnyH_take (i := 12) (oi := { dst := some 26, op := Op.load 44 (Operand.tmp 5), type := 44, pos := "doc.go:16", after := #[{ on := 6, ground := Ground.guard }], guard := some (6, true) }) (v := undef) rfl (by kernel_rfl) (by kernel_rfl) (by kernel_rfl) (fun _ _ _ h => h) (Or.inr ⟨wanted_no (j := 6) (b := true) (c := false) rfl rfl (by decide), rfl⟩) hHeld ?_
        simp only [Act.put, List.setIfInBounds_toArray, List.set_cons_zero, List.set_cons_succ]
        refine wpAnyH_take (i := 13) (oi := { dst := some 27, op := Op.call { callee := Callee.value (Operand.func 14), args := #[Operand.tmp 25, Operand.tmp 26], argTypes := #[44, 44] }, type := 4, pos := "doc.go:16", after := #[{ on := 11, ground := Ground.data }, { on := 12, ground := Ground.data }, { on := 6, ground := Ground.chain }, { on := 6, ground := Ground.guard }], guard := some (6, true) }) (v := undef) rfl (by kernel_rfl) (by kernel_rfl) (by kernel_rfl) (fun _ _ _ h => h) (Or.inr ⟨wanted_no (j := 6) (b := true) (c := false) rfl rfl (by decide), rfl⟩) hHeld ?_
        simp only [Act.put, List.setIfInBounds_toArray, List.set_cons_zero, List.set_cons_succ]
        refine wpAnyH_take (i := 14) (oi := { dst := some 28, op := Op.pick (Operand.tmp 20) (Operand.tmp 27) (Operand.const (Value.bool false)), type := 4, pos := "doc.go:16", after := #[{ on := 6, ground := Ground.data }, { on := 13, ground := Ground.data }, { on := 3, ground := Ground.guard }], guard := some (3, false) }) (v := .bool false) rfl (by kernel_rfl) (by kernel_rfl) (by kernel_rfl) (fun _ _ _ h => h) (Or.inl ⟨by rfl, fun W _ => rfl⟩) hHeld ?_
        simp only [Act.put, List.setIfInBounds_toArray, List.set_cons_zero, List.set_cons_succ]
        refine wpAnyH_take (i := 15) (oi := { dst := some 29, op := Op.pick (Operand.tmp 17) (Operand.const (Value.bool true)) (Operand.tmp 28), type := 4, pos := "doc.go:16", after := #[{ on := 3, ground := Ground.data }, { on := 14, ground := Ground.data }], guard := none }) (v := .bool false) rfl (by kernel_rfl) (by kernel_rfl) (by kernel_rfl) (fun _ _ _ h => h) (Or.inl ⟨by rfl, fun W _ => rfl⟩) hHeld ?_
        simp only [Act.put, List.setIfInBounds_toArray, List.set_cons_zero, List.set_cons_succ]
        refine wpAnyH_done (by kernel_rfl) ?_ _
        have hBW := hB1.drew.trans (hb5.mono hB1.size)
        have hSW := seen_below (w := w1.drew) hS1 hb5
        have hrdW := RdN.below (w := w1.drew) hrd1 hb5
        have hxW := hx5
        clear k0 k1 k2 k3 hx5 hmy hb5 c0 c1 c2 c3 hx1 hS1 hrd1 hB1
        have hse := see_any w.heap.size w.heap.size r T w5 (hV.below hBW) (Nat.le_refl _) hSW hmr hin (by omega)
        obtain ⟨k0, k1, k2, k3⟩ := hxW.cells
        cases hsg : sg T r.kys with
        | none =>
          have HX : Hid (ckR l = 120) := by show _ = _; rw [ckR, HC3.out, hsg]; rfl
          rw [hsg] at hse
          clear HC3 hsg
          unfold RunD.v at hse
          go_wp2_with fail
          refine hse.mono ?_
          rintro e w8 ⟨rfl, -, hb8⟩
          have hB8 := hBW.trans hb8
          clear hse hb8 k0 k1 k2 k3
          go_wp2_with fail
          go_ret
          rw [HX.out]
          exact ⟨rfl, hB8⟩
        | some T2 =>
          rw [hsg] at hse
          have HC4 : Hid (ckG [] none l = (decide (T2.length ≤ 1000) && ckG T2 (some r) (l.drop (0 + 1)))) := by show _ = _; rw [HC3.out, hsg]
          clear HC3 hsg
          unfold RunD.v at hse
          go_wp2_with fail
          refine hse.mono ?_
          rintro e w8 ⟨rfl, hS8, hb8⟩
          have hB8 := hBW.trans hb8
          have hS8 := hS8 T2 rfl
          have hrd8 : RdN w8 (.slice (some ⟨bb, off, none⟩) l.length cp) l := rdn_keep hrdW hbb hb8
          obtain ⟨hw8, D, ho8, hs8, hh8⟩ := hS8
          clear hse hb8 k0 k1 k2 k3
          by_cases hbig : T2.length ≤ 1000
          · have HC5 : Hid (ckG [] none l = ckG T2 (if 0 + 1 = 0 then none else l[0 + 1 - 1]?) (l.drop (0 + 1))) := by
              show _ = _
              rw [HC4.out, decide_eq_true hbig, Bool.true_and, if_neg (by omega), Nat.add_sub_cancel, HP.out]
            have hbi : (T2.length : Int) ≤ 1000 := by omega
            clear HC4
            have hlq := ho8.len Tryd.underlying42 3
            rw [hs8] at hlq
            go_wp2_with fail
            go_roundw
            case rel => exact ⟨1, T2, by omega, by go_num, HC5.out, fun x hx _ => (by have hx2 : l[0]? = some x := hx; rw [HP.out] at hx2; cases hx2; exact hmr), hbig, ⟨hw8, D, ho8, hs8, hh8⟩, hrd8, hB8⟩
            case measure => simp [intOf]; omega
          · have HX : Hid (ckR l = 120) := by show _ = _; rw [ckR, HC4.out, decide_eq_false hbig]; rfl
            have hbi : ¬ (T2.length : Int) ≤ 1000 := by omega
            clear HC4
            have hlq := ho8.len Tryd.underlying42 3
            rw [hs8] at hlq
            go_wp2_with fail
            go_ret
            rw [HX.out]
            exact ⟨rfl, hB8⟩
      obtain ⟨j, rfl⟩ : ∃ j, k = j + 1 := ⟨k - 1, by omega⟩
      have hja : j < l.length := by omega
      have HPj : Hid (l[j]? = some l[j]) := by show _ = _; simp [hja]
      have hma := hpm l[j] (by simp [hja]) (by omega)
      have hia := hi l[j] (List.getElem_mem hja)
      obtain ⟨bb', off', q1, -, g0, g1, g2, g3⟩ := hrd1.at j l[j] (by simp [hja])
      injection q1 with q1
      injection q1 with q2 q3
      subst q2 q3
      have HC3a : Hid (ckG [] none l = (!nxR l[j] r && (match sg T r.kys with | none => false | some T' => decide (T'.length ≤ 1000) && ckG T' (some r) (l.drop (j + 1 + 1))))) := by
        show _ = _
        rw [HC2.out, hmr, if_neg (by omega), Nat.add_sub_cancel, HPj.out]
        simp
      generalize l[j] = a at *
      obtain ⟨m1, m2, m3, m4⟩ := mayR_iff.1 hma
      have hnx := fun W h => isNext_any a r W (hV.below h) hia m3 (by omega) (by omega)
      clear HC2 HPj hpm hma m1 m2 m3 m4 hk0
      unfold RunD.v at hnx
      have hja' : (j : Int) < (l.length : Int) := by omega
      have hll : (l.length : Int) ≤ 1125899906842624 := by omega
      have h0j : (0 : Int) ≤ (j : Int) := by omega
      have hwj : IntKind.i64.wrap ((j : Int) + 1 - 1) = (j : Int) := by rw [Int.add_sub_cancel]; exact wraps_i64 _ (by omega) (by omega)
      have hwk : IntKind.i64.wrap (((j + 1 : Nat) : Int) - 1) = (j : Int) := by rw [show (((j + 1 : Nat) : Int) - 1) = (j : Int) by omega]; exact wraps_i64 _ (by omega) (by omega)
      cases hnr : nxR a r
      · have HC3 : Hid (ckG [] none l = (match sg T r.kys with | none => false | some T' => decide (T'.length ≤ 1000) && ckG T' (some r) (l.drop (j + 1 + 1)))) := by show _ = _; rw [HC3a.out, hnr]; simp
        rw [hnr] at hnx
        clear HC3a hnr
        refine wp_region_held_drew (S := (fun W => W.cell? ⟨wr.heap.size, 0, none⟩ = some (.int .i64 r.c) ∧ W.cell? ⟨wr.heap.size, 1, none⟩ = some (.int .i64 r.q) ∧ W.cell? ⟨wr.heap.size, 2, none⟩ = some (.int .i64 r.f) ∧ W.cell? ⟨wr.heap.size, 3, none⟩ = some (.string r.t) ∧ W.cell? ⟨bb, off + j * 4, none⟩ = some (.int .i64 a.c) ∧ W.cell? ⟨bb, off + j * 4 + 1, none⟩ = some (.int .i64 a.q) ∧ W.cell? ⟨bb, off + j * 4 + 2, none⟩ = some (.int .i64 a.f) ∧ W.cell? ⟨bb, off + j * 4 + 3, none⟩ = some (.string a.t))) (by kernel_rfl) ⟨c0, c1, c2, c3, g0, g1, g2, g3⟩ (fun hHeld => ?_)
        refine wpAnyH_take (i := 0) (oi := { dst := some 14, op := Op.load 44 (Operand.tmp 5), type := 44, pos := "doc.go:16", after := #[], guard := none }) (v := .agg #[.int .i64 r.c, .int .i64 r.q, .int .i64 r.f, .string r.t]) rfl (by kernel_rfl) (by kernel_rfl) (by kernel_rfl) (fun _ _ _ h => h) (Or.inl ⟨by rfl, fun W hW => ?_⟩) hHeld ?_
        · obtain ⟨q0, q1, q2, q3, q4, q5, q6, q7⟩ := hW
          go_simp
        simp only [Act.put, List.setIfInBounds_toArray, List.set_cons_zero, List.set_cons_succ]
        refine wpAnyH_ready (rs := [1]) (by kernel_rfl) (by simp) ?_
        refine AllReadyH.cons (o := { dst := some 15, op := Op.call { callee := Callee.value (Operand.func 13), args := #[Operand.tmp 14], argTypes := #[44] }, type := 4, pos := "doc.go:16", after := #[{ on := 0, ground := Ground.data }], guard := none }) rfl (fun K hK => ?_) AllReadyH.nil
        go_simp
        refine hmy.mono ?_
        rintro e w5 ⟨rfl, hb5⟩
        have hx5 := hx1d.below hb5
        obtain ⟨k0, k1, k2, k3⟩ := hx5.cells
        obtain ⟨x0, x1, x2, x3⟩ := cells4 (w := w1.drew) g0 g1 g2 g3 (by show bb < w1.heap.size; have := hB1.size; omega) hb5
        go_wp2_with fail
        refine hK.out _ _ ⟨k0, k1, k2, k3, x0, x1, x2, x3⟩ (fun hHeld => ?_)
        clear hK K
        refine wpAnyH_take (i := 2) (oi := { dst := some 16, op := Op.unOp UnOp.not 4 (Operand.tmp 15), type := 4, pos := "doc.go:16", after := #[{ on := 1, ground := Ground.data }], guard := none }) (v := .bool false) rfl (by kernel_rfl) (by kernel_rfl) (by kernel_rfl) (fun _ _ _ h => h) (Or.inl ⟨by rfl, fun W _ => rfl⟩) hHeld ?_
        simp only [Act.put, List.setIfInBounds_toArray, List.set_cons_zero, List.set_cons_succ]
        refine wpAnyH_take (i := 3) (oi := { dst := some 17, op := Op.move (Operand.tmp 16), type := 4, pos := "doc.go:16", after := #[{ on := 2, ground := Ground.data }, { on := 1, ground := Ground.chain }], guard := none }) (v := .bool false) rfl (by kernel_rfl) (by kernel_rfl) (by kernel_rfl) (fun _ _ _ h => h) (Or.inl ⟨by rfl, fun W _ => rfl⟩) hHeld ?_
        simp only [Act.put, List.setIfInBounds_toArray, List.set_cons_zero, List.set_cons_succ]
        refine wpAnyH_take (i := 4) (oi := { dst := some 18, op := Op.move (Operand.tmp 4), type := 3, pos := "doc.go:16", after := #[{ on := 3, ground := Ground.guard }], guard := some (3, false) }) (v := .int .i64 ((j + 1 : Nat) : Int)) rfl (by kernel_rfl) (by kernel_rfl) (by kernel_rfl) (fun _ _ _ h => h) (Or.inl ⟨by rfl, fun W _ => rfl⟩) hHeld ?_
        simp only [Act.put, List.setIfInBounds_toArray, List.set_cons_zero, List.set_cons_succ]
        refine wpAnyH_take (i := 5) (oi := { dst := some 19, op := Op.binOp BinOp.gtr 3 (Operand.tmp 18) (Operand.const (Value.int IntKind.i64 0)) 3, type := 4, pos := "doc.go:16", after := #[{ on := 4, ground := Ground.data }, { on := 3, ground := Ground.guard }], guard := some (3, false) }) (v := .bool true) rfl (by kernel_rfl) (by kernel_rfl) (by kernel_rfl) (fun _ _ _ h => h) (Or.inl ⟨by rfl, fun W _ => ?_⟩) hHeld ?_
        · go_simp
        simp only [Act.put, List.setIfInBounds_toArray, List.set_cons_zero, List.set_cons_succ]
        refine wpAnyH_take (i := 6) (oi := { dst := some 20, op := Op.move (Operand.tmp 19), type := 4, pos := "doc.go:16", after := #[{ on := 5, ground := Ground.data }, { on := 3, ground := Ground.chain }, { on := 3, ground := Ground.guard }], guard := some (3, false) }) (v := .bool true) rfl (by kernel_rfl) (by kernel_rfl) (by kernel_rfl) (fun _ _ _ h => h) (Or.inl ⟨by rfl, fun W _ => rfl⟩) hHeld ?_
        simp only [Act.put, List.setIfInBounds_toArray, List.set_cons_zero, List.set_cons_succ]
        refine wpAnyH_take (i := 7) (oi := { dst := some 21, op := Op.move (Operand.tmp 0), type := 22, pos := "doc.go:16", after := #[{ on := 6, ground := Ground.guard }], guard := some (6, true) }) (v := .slice (some ⟨bb, off, none⟩) l.length cp) rfl (by kernel_rfl) (by kernel_rfl) (by kernel_rfl) (fun _ _ _ h => h) (Or.inl ⟨by rfl, fun W _ => rfl⟩) hHeld ?_
        simp only [Act.put, List.setIfInBounds_toArray, List.set_cons_zero, List.set_cons_succ]
        refine wpAnyH_take (i := 8) (oi := { dst := some 22, op := Op.move (Operand.tmp 4), type := 3, pos := "doc.go:16", after := #[{ on := 6, ground := Ground.guard }], guard := some (6, true) }) (v := .int .i64 ((j + 1 : Nat) : Int)) rfl (by kernel_rfl) (by kernel_rfl) (by kernel_rfl) (fun _ _ _ h => h) (Or.inl ⟨by rfl, fun W _ => rfl⟩) hHeld ?_
        simp only [Act.put, List.setIfInBounds_toArray, List.set_cons_zero, List.set_cons_succ]
        refine wpAnyH_take (i := 9) (oi := { dst := some 23, op := Op.binOp BinOp.sub 3 (Operand.tmp 22) (Operand.const (Value.int IntKind.i64 1)) 3, type := 3, pos := "doc.go:16", after := #[{ on := 8, ground := Ground.data }, { on := 6, ground := Ground.guard }], guard := some (6, true) }) (v := .int .i64 (j : Int)) rfl (by kernel_rfl) (by kernel_rfl) (by kernel_rfl) (fun _ _ _ h => h) (Or.inl ⟨by rfl, fun W _ => ?_⟩) hHeld ?_
        · go_simp
          exact wraps_i64 _ (by omega) (by omega)
        simp only [Act.put, List.setIfInBounds_toArray, List.set_cons_zero, List.set_cons_succ]
        refine wpAnyH_take (i := 10) (oi := { dst := some 24, op := Op.indexAddr 22 (Operand.tmp 21) (Operand.tmp 23), type := 0, pos := "doc.go:16", after := #[{ on := 7, ground := Ground.data }, { on := 9, ground := Ground.data }, { on := 6, ground := Ground.guard }], guard := some (6, true) }) (v := .pointer (some ⟨bb, off + j * 4, none⟩)) rfl (by kernel_rfl) (by kernel_rfl) (by kernel_rfl) (fun _ _ _ h => h) (Or.inl ⟨by rfl, fun W _ => ?_⟩) hHeld ?_
        · go_simp
        simp only [Act.put, List.setIfInBounds_toArray, List.set_cons_zero, List.set_cons_succ]
        refine wpAnyH_take (i := 11) (oi := { dst := some 25, op := Op.load 44 (Operand.tmp 24), type := 44, pos := "doc.go:16", after := #[{ on := 10, ground := Ground.data }, { on := 6, ground := Ground.guard }], guard := some (6, true) }) (v := .agg #[.int .i64 a.c, .int .i64 a.q, .int .i64 a.f, .string a.t]) rfl (by kernel_rfl) (by kernel_rfl) (by kernel_rfl) (fun _ _ _ h => h) (Or.inl ⟨by rfl, fun W hW => ?_⟩) hHeld ?_
        · obtain ⟨q0, q1, q2, q3, q4, q5, q6, q7⟩ := hW
          go_simp
        simp only [Act.put, List.setIfInBounds_toArray, List.set_cons_zero, List.set_cons_succ]
        refine wpAnyH_take (i := 12) (oi := { dst := some 26, op := Op.load 44 (Operand.tmp 5), type := 44, pos := "doc.go:16", after := #[{ on := 6, ground := Ground.guard }], guard := some (6, true) }) (v := .agg #[.int .i64 r.c, .int .i64 r.q, .int .i64 r.f, .string r.t]) rfl (by kernel_rfl) (by kernel_rfl) (by kernel_rfl) (fun _ _ _ h => h) (Or.inl ⟨by rfl, fun W hW => ?_⟩) hHeld ?_
        · obtain ⟨q0, q1, q2, q3, q4, q5, q6, q7⟩ := hW
          go_simp
        simp only [Act.put, List.setIfInBounds_toArray, List.set_cons_zero, List.set_cons_succ]
        refine wpAnyH_ready (rs := [13]) (by kernel_rfl) (by simp) ?_
        refine AllReadyH.cons (o := { dst := some 27, op := Op.call { callee := Callee.value (Operand.func 14), args := #[Operand.tmp 25, Operand.tmp 26], argTypes := #[44, 44] }, type := 4, pos := "doc.go:16", after := #[{ on := 11, ground := Ground.data }, { on := 12, ground := Ground.data }, { on := 6, ground := Ground.chain }, { on := 6, ground := Ground.guard }], guard := some (6, true) }) rfl (fun K hK => ?_) AllReadyH.nil
        go_simp
        refine (hnx w5 (hB1.drew.trans (hb5.mono hB1.size))).mono ?_
        rintro e w6 ⟨rfl, hb6⟩
        have hx6 := hx5.below hb6
        obtain ⟨l0, l1, l2, l3⟩ := hx6.cells
        obtain ⟨y0, y1, y2, y3⟩ := cells4 x0 x1 x2 x3 (by have := hB1.size; have := hb5.size; have h9 : w1.drew.heap.size = w1.heap.size := rfl; omega) hb6
        go_wp2_with fail
        refine hK.out _ _ ⟨l0, l1, l2, l3, y0, y1, y2, y3⟩ (fun hHeld => ?_)
        clear hK K
        refine wpAnyH_take (i := 14) (oi := { dst := some 28, op := Op.pick (Operand.tmp 20) (Operand.tmp 27) (Operand.const (Value.bool false)), type := 4, pos := "doc.go:16", after := #[{ on := 6, ground := Ground.data }, { on := 13, ground := Ground.data }, { on := 3, ground := Ground.guard }], guard := some (3, false) }) (v := .bool false) rfl (by kernel_rfl) (by kernel_rfl) (by kernel_rfl) (fun _ _ _ h => h) (Or.inl ⟨by rfl, fun W _ => rfl⟩) hHeld ?_
        simp only [Act.put, List.setIfInBounds_toArray, List.set_cons_zero, List.set_cons_succ]
        refine wpAnyH_take (i := 15) (oi := { dst := some 29, op := Op.pick (Operand.tmp 17) (Operand.const (Value.bool true)) (Operand.tmp 28), type := 4, pos := "doc.go:16", after := #[{ on := 3, ground := Ground.data }, { on := 14, ground := Ground.data }], guard := none }) (v := .bool false) rfl (by kernel_rfl) (by kernel_rfl) (by kernel_rfl) (fun _ _ _ h => h) (Or.inl ⟨by rfl, fun W _ => rfl⟩) hHeld ?_
        simp only [Act.put, List.setIfInBounds_toArray, List.set_cons_zero, List.set_cons_succ]
        refine wpAnyH_done (by kernel_rfl) ?_ _
        have hBW := (hB1.drew.trans (hb5.mono hB1.size)).trans (hb6.mono (hB1.drew.trans (hb5.mono hB1.size)).size)
        have hSW := seen_below (seen_below (w := w1.drew) hS1 hb5) hb6
        have hrdW := RdN.below (RdN.below (w := w1.drew) hrd1 hb5) hb6
        have hxW := hx6
        clear k0 k1 k2 k3 hx5 hmy hb5 c0 c1 c2 c3 hx1 hS1 hrd1 hB1 hx6 hb6 l0 l1 l2 l3 g0 g1 g2 g3 hnx x0 x1 x2 x3 y0 y1 y2 y3
        have hse := see_any w.heap.size w.heap.size r T w6 (hV.below hBW) (Nat.le_refl _) hSW hmr hin (by omega)
        obtain ⟨k0, k1, k2, k3⟩ := hxW.cells
        cases hsg : sg T r.kys with
        | none =>
          have HX : Hid (ckR l = 120) := by show _ = _; rw [ckR, HC3.out, hsg]; rfl
          rw [hsg] at hse
          clear HC3 hsg
          unfold RunD.v at hse
          go_wp2_with fail
          refine hse.mono ?_
          rintro e w8 ⟨rfl, -, hb8⟩
          have hB8 := hBW.trans hb8
          clear hse hb8 k0 k1 k2 k3
          go_wp2_with fail
          go_ret
          rw [HX.out]
          exact ⟨rfl, hB8⟩
        | some T2 =>
          rw [hsg] at hse
          have HC4 : Hid (ckG [] none l = (decide (T2.length ≤ 1000) && ckG T2 (some r) (l.drop (j + 1 + 1)))) := by show _ = _; rw [HC3.out, hsg]
          clear HC3 hsg
          unfold RunD.v at hse
          go_wp2_with fail
          refine hse.mono ?_
          rintro e w8 ⟨rfl, hS8, hb8⟩
          have hB8 := hBW.trans hb8
          have hS8 := hS8 T2 rfl
          have hrd8 : RdN w8 (.slice (some ⟨bb, off, none⟩) l.length cp) l := rdn_keep hrdW hbb hb8
          obtain ⟨hw8, D, ho8, hs8, hh8⟩ := hS8
          clear hse hb8 k0 k1 k2 k3
          by_cases hbig : T2.length ≤ 1000
          · have HC5 : Hid (ckG [] none l = ckG T2 (if j + 1 + 1 = 0 then none else l[j + 1 + 1 - 1]?) (l.drop (j + 1 + 1))) := by
              show _ = _
              rw [HC4.out, decide_eq_true hbig, Bool.true_and, if_neg (by omega), Nat.add_sub_cancel, HP.out]
            have hbi : (T2.length : Int) ≤ 1000 := by omega
            clear HC4
            have hlq := ho8.len Tryd.underlying42 3
            rw [hs8] at hlq
            go_wp2_with fail
            go_roundw
            case rel => exact ⟨j + 1 + 1, T2, by omega, by go_num, HC5.out, fun x hx _ => (by have hx2 : l[j + 1]? = some x := hx; rw [HP.out] at hx2; cases hx2; exact hmr), hbig, ⟨hw8, D, ho8, hs8, hh8⟩, hrd8, hB8⟩
            case measure => simp [intOf]; omega
          · have HX : Hid (ckR l = 120) := by show _ = _; rw [ckR, HC4.out, decide_eq_false hbig]; rfl
            have hbi : ¬ (T2.length : Int) ≤ 1000 := by omega
            clear HC4
            have hlq := ho8.len Tryd.underlying42 3
            rw [hs8] at hlq
            go_wp2_with fail
            go_ret
            rw [HX.out]
            exact ⟨rfl, hB8⟩
      · have HX : Hid (ckR l = 120) := by show _ = _; rw [ckR, HC3a.out, hnr]; rfl
        rw [hnr] at hnx
        clear HC3a hnr
        refine wp_region_held_drew (S := (fun W => W.cell? ⟨wr.heap.size, 0, none⟩ = some (.int .i64 r.c) ∧ W.cell? ⟨wr.heap.size, 1, none⟩ = some (.int .i64 r.q) ∧ W.cell? ⟨wr.heap.size, 2, none⟩ = some (.int .i64 r.f) ∧ W.cell? ⟨wr.heap.size, 3, none⟩ = some (.string r.t) ∧ W.cell? ⟨bb, off + j * 4, none⟩ = some (.int .i64 a.c) ∧ W.cell? ⟨bb, off + j * 4 + 1, none⟩ = some (.int .i64 a.q) ∧ W.cell? ⟨bb, off + j * 4 + 2, none⟩ = some (.int .i64 a.f) ∧ W.cell? ⟨bb, off + j * 4 + 3, none⟩ = some (.string a.t))) (by kernel_rfl) ⟨c0, c1, c2, c3, g0, g1, g2, g3⟩ (fun hHeld => ?_)
        refine wpAnyH_take (i := 0) (oi := { dst := some 14, op := Op.load 44 (Operand.tmp 5), type := 44, pos := "doc.go:16", after := #[], guard := none }) (v := .agg #[.int .i64 r.c, .int .i64 r.q, .int .i64 r.f, .string r.t]) rfl (by kernel_rfl) (by kernel_rfl) (by kernel_rfl) (fun _ _ _ h => h) (Or.inl ⟨by rfl, fun W hW => ?_⟩) hHeld ?_
        · obtain ⟨q0, q1, q2, q3, q4, q5, q6, q7⟩ := hW
          go_simp
        simp only [Act.put, List.setIfInBounds_toArray, List.set_cons_zero, List.set_cons_succ]
        refine wpAnyH_ready (rs := [1]) (by kernel_rfl) (by simp) ?_
        refine AllReadyH.cons (o := { dst := some 15, op := Op.call { callee := Callee.value (Operand.func 13), args := #[Operand.tmp 14], argTypes := #[44] }, type := 4, pos := "doc.go:16", after := #[{ on := 0, ground := Ground.data }], guard := none }) rfl (fun K hK => ?_) AllReadyH.nil
        go_simp
        refine hmy.mono ?_
        rintro e w5 ⟨rfl, hb5⟩
        have hx5 := hx1d.below hb5
        obtain ⟨k0, k1, k2, k3⟩ := hx5.cells
        obtain ⟨x0, x1, x2, x3⟩ := cells4 (w := w1.drew) g0 g1 g2 g3 (by show bb < w1.heap.size; have := hB1.size; omega) hb5
        go_wp2_with fail
        refine hK.out _ _ ⟨k0, k1, k2, k3, x0, x1, x2, x3⟩ (fun hHeld => ?_)
        clear hK K
        refine wpAnyH_take (i := 2) (oi := { dst := some 16, op := Op.unOp UnOp.not 4 (Operand.tmp 15), type := 4, pos := "doc.go:16", after := #[{ on := 1, ground := Ground.data }], guard := none }) (v := .bool false) rfl (by kernel_rfl) (by kernel_rfl) (by kernel_rfl) (fun _ _ _ h => h) (Or.inl ⟨by rfl, fun W _ => rfl⟩) hHeld ?_
        simp only [Act.put, List.setIfInBounds_toArray, List.set_cons_zero, List.set_cons_succ]
        refine wpAnyH_take (i := 3) (oi := { dst := some 17, op := Op.move (Operand.tmp 16), type := 4, pos := "doc.go:16", after := #[{ on := 2, ground := Ground.data }, { on := 1, ground := Ground.chain }], guard := none }) (v := .bool false) rfl (by kernel_rfl) (by kernel_rfl) (by kernel_rfl) (fun _ _ _ h => h) (Or.inl ⟨by rfl, fun W _ => rfl⟩) hHeld ?_
        simp only [Act.put, List.setIfInBounds_toArray, List.set_cons_zero, List.set_cons_succ]
        refine wpAnyH_take (i := 4) (oi := { dst := some 18, op := Op.move (Operand.tmp 4), type := 3, pos := "doc.go:16", after := #[{ on := 3, ground := Ground.guard }], guard := some (3, false) }) (v := .int .i64 ((j + 1 : Nat) : Int)) rfl (by kernel_rfl) (by kernel_rfl) (by kernel_rfl) (fun _ _ _ h => h) (Or.inl ⟨by rfl, fun W _ => rfl⟩) hHeld ?_
        simp only [Act.put, List.setIfInBounds_toArray, List.set_cons_zero, List.set_cons_succ]
        refine wpAnyH_take (i := 5) (oi := { dst := some 19, op := Op.binOp BinOp.gtr 3 (Operand.tmp 18) (Operand.const (Value.int IntKind.i64 0)) 3, type := 4, pos := "doc.go:16", after := #[{ on := 4, ground := Ground.data }, { on := 3, ground := Ground.guard }], guard := some (3, false) }) (v := .bool true) rfl (by kernel_rfl) (by kernel_rfl) (by kernel_rfl) (fun _ _ _ h => h) (Or.inl ⟨by rfl, fun W _ => ?_⟩) hHeld ?_
        · go_simp
        simp only [Act.put, List.setIfInBounds_toArray, List.set_cons_zero, List.set_cons_succ]
        refine wpAnyH_take (i := 6) (oi := { dst := some 20, op := Op.move (Operand.tmp 19), type := 4, pos := "doc.go:16", after := #[{ on := 5, ground := Ground.data }, { on := 3, ground := Ground.chain }, { on := 3, ground := Ground.guard }], guard := some (3, false) }) (v := .bool true) rfl (by kernel_rfl) (by kernel_rfl) (by kernel_rfl) (fun _ _ _ h => h) (Or.inl ⟨by rfl, fun W _ => rfl⟩) hHeld ?_
        simp only [Act.put, List.setIfInBounds_toArray, List.set_cons_zero, List.set_cons_succ]
        refine wpAnyH_take (i := 7) (oi := { dst := some 21, op := Op.move (Operand.tmp 0), type := 22, pos := "doc.go:16", after := #[{ on := 6, ground := Ground.guard }], guard := some (6, true) }) (v := .slice (some ⟨bb, off, none⟩) l.length cp) rfl (by kernel_rfl) (by kernel_rfl) (by kernel_rfl) (fun _ _ _ h => h) (Or.inl ⟨by rfl, fun W _ => rfl⟩) hHeld ?_
        simp only [Act.put, List.setIfInBounds_toArray, List.set_cons_zero, List.set_cons_succ]
        refine wpAnyH_take (i := 8) (oi := { dst := some 22, op := Op.move (Operand.tmp 4), type := 3, pos := "doc.go:16", after := #[{ on := 6, ground := Ground.guard }], guard := some (6, true) }) (v := .int .i64 ((j + 1 : Nat) : Int)) rfl (by kernel_rfl) (by kernel_rfl) (by kernel_rfl) (fun _ _ _ h => h) (Or.inl ⟨by rfl, fun W _ => rfl⟩) hHeld ?_
        simp only [Act.put, List.setIfInBounds_toArray, List.set_cons_zero, List.set_cons_succ]
        refine wpAnyH_take (i := 9) (oi := { dst := some 23, op := Op.binOp BinOp.sub 3 (Operand.tmp 22) (Operand.const (Value.int IntKind.i64 1)) 3, type := 3, pos := "doc.go:16", after := #[{ on := 8, ground := Ground.data }, { on := 6, ground := Ground.guard }], guard := some (6, true) }) (v := .int .i64 (j : Int)) rfl (by kernel_rfl) (by kernel_rfl) (by kernel_rfl) (fun _ _ _ h => h) (Or.inl ⟨by rfl, fun W _ => ?_⟩) hHeld ?_
        · go_simp
          exact wraps_i64 _ (by omega) (by omega)
        simp only [Act.put, List.setIfInBounds_toArray, List.set_cons_zero, List.set_cons_succ]
        refine wpAnyH_take (i := 10) (oi := { dst := some 24, op := Op.indexAddr 22 (Operand.tmp 21) (Operand.tmp 23), type := 0, pos := "doc.go:16", after := #[{ on := 7, ground := Ground.data }, { on := 9, ground := Ground.data }, { on := 6, ground := Ground.guard }], guard := some (6, true) }) (v := .pointer (some ⟨bb, off + j * 4, none⟩)) rfl (by kernel_rfl) (by kernel_rfl) (by kernel_rfl) (fun _ _ _ h => h) (Or.inl ⟨by rfl, fun W _ => ?_⟩) hHeld ?_
        · go_simp
        simp only [Act.put, List.setIfInBounds_toArray, List.set_cons_zero, List.set_cons_succ]
        refine wpAnyH_take (i := 11) (oi := { dst := some 25, op := Op.load 44 (Operand.tmp 24), type := 44, pos := "doc.go:16", after := #[{ on := 10, ground := Ground.data }, { on := 6, ground := Ground.guard }], guard := some (6, true) }) (v := .agg #[.int .i64 a.c, .int .i64 a.q, .int .i64 a.f, .string a.t]) rfl (by kernel_rfl) (by kernel_rfl) (by kernel_rfl) (fun _ _ _ h => h) (Or.inl ⟨by rfl, fun W hW => ?_⟩) hHeld ?_
        · obtain ⟨q0, q1, q2, q3, q4, q5, q6, q7⟩ := hW
          go_simp
        simp only [Act.put, List.setIfInBounds_toArray, List.set_cons_zero, List.set_cons_succ]
        refine wpAnyH_take (i := 12) (oi := { dst := some 26, op := Op.load 44 (Operand.tmp 5), type := 44, pos := "doc.go:16", after := #[{ on := 6, ground := Ground.guard }], guard := some (6, true) }) (v := .agg #[.int .i64 r.c, .int .i64 r.q, .int .i64 r.f, .string r.t]) rfl (by kernel_rfl) (by kernel_rfl) (by kernel_rfl) (fun _ _ _ h => h) (Or.inl ⟨by rfl, fun W hW => ?_⟩) hHeld ?_
        · obtain ⟨q0, q1, q2, q3, q4, q5, q6, q7⟩ := hW
          go_simp
        simp only [Act.put, List.setIfInBounds_toArray, List.set_cons_zero, List.set_cons_succ]
        refine wpAnyH_ready (rs := [13]) (by kernel_rfl) (by simp) ?_
        refine AllReadyH.cons (o := { dst := some 27, op := Op.call { callee := Callee.value (Operand.func 14), args := #[Operand.tmp 25, Operand.tmp 26], argTypes := #[44, 44] }, type := 4, pos := "doc.go:16", after := #[{ on := 11, ground := Ground.data }, { on := 12, ground := Ground.data }, { on := 6, ground := Ground.chain }, { on := 6, ground := Ground.guard }], guard := some (6, true) }) rfl (fun K hK => ?_) AllReadyH.nil
        go_simp
        refine (hnx w5 (hB1.drew.trans (hb5.mono hB1.size))).mono ?_
        rintro e w6 ⟨rfl, hb6⟩
        have hx6 := hx5.below hb6
        obtain ⟨l0, l1, l2, l3⟩ := hx6.cells
        obtain ⟨y0, y1, y2, y3⟩ := cells4 x0 x1 x2 x3 (by have := hB1.size; have := hb5.size; have h9 : w1.drew.heap.size = w1.heap.size := rfl; omega) hb6
        go_wp2_with fail
        refine hK.out _ _ ⟨l0, l1, l2, l3, y0, y1, y2, y3⟩ (fun hHeld => ?_)
        clear hK K
        refine wpAnyH_take (i := 14) (oi := { dst := some 28, op := Op.pick (Operand.tmp 20) (Operand.tmp 27) (Operand.const (Value.bool false)), type := 4, pos := "doc.go:16", after := #[{ on := 6, ground := Ground.data }, { on := 13, ground := Ground.data }, { on := 3, ground := Ground.guard }], guard := some (3, false) }) (v := .bool true) rfl (by kernel_rfl) (by kernel_rfl) (by kernel_rfl) (fun _ _ _ h => h) (Or.inl ⟨by rfl, fun W _ => rfl⟩) hHeld ?_
        simp only [Act.put, List.setIfInBounds_toArray, List.set_cons_zero, List.set_cons_succ]
        refine wpAnyH_take (i := 15) (oi := { dst := some 29, op := Op.pick (Operand.tmp 17) (Operand.const (Value.bool true)) (Operand.tmp 28), type := 4, pos := "doc.go:16", after := #[{ on := 3, ground := Ground.data }, { on := 14, ground := Ground.data }], guard := none }) (v := .bool true) rfl (by kernel_rfl) (by kernel_rfl) (by kernel_rfl) (fun _ _ _ h => h) (Or.inl ⟨by rfl, fun W _ => rfl⟩) hHeld ?_
        simp only [Act.put, List.setIfInBounds_toArray, List.set_cons_zero, List.set_cons_succ]
        refine wpAnyH_done (by kernel_rfl) ?_ _
        have hBf := (hB1.drew.trans (hb5.mono hB1.size)).trans (hb6.mono (hB1.drew.trans (hb5.mono hB1.size)).size)
        clear k0 k1 k2 k3 hx5 hmy hb5 c0 c1 c2 c3 hx1 hS1 hrd1 hB1 hx6 hb6 l0 l1 l2 l3 g0 g1 g2 g3 hnx x0 x1 x2 x3 y0 y1 y2 y3
        go_wp2_with fail
        go_ret
        rw [HX.out]
        exact ⟨rfl, hBf⟩
    · obtain rfl : k = l.length := by omega
      have HE : Hid (ckR l = 0) := by show _ = _; rw [ckR, HC.out, List.drop_length]; rfl
      clear HC hpm hST hrd hi
      go_wp2_with fail
      go_ret
      rw [HE.out]
      exact ⟨rfl, hBr⟩
end Go.Proofs.YtjimolafoihnpaaDoor
