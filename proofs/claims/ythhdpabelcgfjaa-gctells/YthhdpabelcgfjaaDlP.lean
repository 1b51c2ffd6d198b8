/-
  The contracts of applied and Apply.
-/
import Derived.Test.YthhdpabelcgfjaaDlJ
import Derived.Deep.RegionLaw
import Derived.Deep.AppendLies
import Derived.Deep.QuietTactic
import Derived.BigQuiet
namespace Go.Proofs.Ythhdpabelcgfjaa
open Go.ChangeShapes Go.WideShapes Go.ChangeAt Go.RowKit Go.PlainAid

/-- Numbers at a place, with room for as many. -/
def RdP (w : World) (v : Value) (zs : List Int) : Prop :=
  ∃ ao cp, v = .slice ao zs.length cp ∧ zs.length ≤ cp ∧ (0 < zs.length → ∃ b off, ao = some ⟨b, off, none⟩ ∧ b < w.heap.size ∧ ∀ i, i < zs.length → w.cell? ⟨b, off + i, none⟩ = some (.int .i64 (zs.getD i 0)))

theorem rdp_own {w : World} {base n : Nat} {v : Value} {zs : List Int} (h : w.ownsRow base 3 1 v n (iv zs)) : RdP w v zs := by
  have hl := h.1
  rw [iv_length] at hl
  rcases h.2 with ⟨rfl, h0⟩ | ⟨g, cap, cur, rfl, hb, hg, hn, _, hc, ht⟩
  · subst h0
    have : zs = [] := List.eq_nil_of_length_eq_zero (by omega)
    subst this
    exact ⟨none, 0, rfl, Nat.le_refl _, fun h => by simp at h⟩
  · refine ⟨_, cap, by rw [hl, Nat.mul_one], by omega, fun _ => ⟨g, 0, rfl, (h.lt g rfl).2, fun i hi => ?_⟩⟩
    have := h.cells (g := g) rfl i (.int .i64 (zs.getD i 0)) (by simp [iv, hi])
    have hadd : (⟨g, 0, none⟩ : Addr).add i = ⟨g, 0 + i, none⟩ := by unfold Addr.add; split <;> simp_all
    rw [hadd] at this
    exact this
theorem RdP.below {w w' : World} {v : Value} {zs : List Int} (h : RdP w v zs) (hb : Below w.heap.size w w') : RdP w' v zs := by
  obtain ⟨ao, cp, e, h0, h1⟩ := h
  refine ⟨ao, cp, e, h0, fun h => ?_⟩
  obtain ⟨b, off, e1, hl, c0⟩ := h1 h
  exact ⟨b, off, e1, Nat.lt_of_lt_of_le hl hb.size, fun i hi => (hb.cell (p := ⟨b, off + i, none⟩) hl).trans (c0 i hi)⟩

/-- The code points of a text. -/
def pts (t : ByteArray) : List Int := ptL t (cpl t).toNat
/-- What steps make of code points. -/
def apRun : List Int → List St → List Int
  | _, [] => []
  | zs, .keep n :: l => zs.take n ++ apRun (zs.drop n) l
  | zs, .rem n :: l => apRun (zs.drop n) l
  | zs, .ins t :: l => pts t ++ apRun zs l

theorem pts_len {t : ByteArray} (h : 0 ≤ cpl t) : ((pts t).length : Int) = cpl t := by rw [pts, ptL_length]; omega
theorem apRun_len : ∀ (l : List St) (zs : List Int), bsum l ≤ zs.length → (apRun zs l).length = tsum l
  | [], _, _ => by simp [apRun, tsum]
  | .keep n :: l, zs, h => by
    have e1 : bsum (.keep n :: l) = n + bsum l := by simp [bsum, St.b]
    have e2 : tsum (.keep n :: l) = n + tsum l := by simp [tsum, St.c]
    rw [e1] at h
    rw [e2, apRun, List.length_append, apRun_len l _ (by rw [List.length_drop]; omega), List.length_take]
    omega
  | .rem n :: l, zs, h => by
    have e1 : bsum (.rem n :: l) = n + bsum l := by simp [bsum, St.b]
    have e2 : tsum (.rem n :: l) = tsum l := by simp [tsum, St.c]
    rw [e1] at h
    rw [e2, apRun, apRun_len l _ (by rw [List.length_drop]; omega)]
  | .ins t :: l, zs, h => by
    have e1 : bsum (.ins t :: l) = bsum l := by simp [bsum, St.b]
    have e2 : tsum (.ins t :: l) = (cpl t).toNat + tsum l := by simp [tsum, St.c]
    rw [e1] at h
    rw [e2, apRun, List.length_append, apRun_len l _ h, pts, ptL_length]

theorem own_ints {w1 : World} {base n m : Nat} {v' : Value} {L M : List Int} (h : w1.ownsRow base 3 1 v' (n + m) (iv L ++ iv M)) (hn : L.length = n) (hm : M.length = m) :
    w1.ownsRow base 3 1 v' (L ++ M).length (iv (L ++ M)) := by
  subst hn; subst hm
  rw [iv_append, List.length_append]
  exact h
theorem iv_one (l : List Int) : ∀ u ∈ iv l, u.oneCell' = true := by
  intro u hu
  simp only [iv, List.mem_map] at hu
  obtain ⟨x, _, rfl⟩ := hu
  rfl


theorem iv_cells {w : World} {g o : Nat} {zs : List Int} (h : ∀ i, i < zs.length → w.cell? ⟨g, o + i, none⟩ = some (.int .i64 (zs.getD i 0))) : ∀ j u, (iv zs)[j]? = some u → w.cell? ((⟨g, o, none⟩ : Addr).add j) = some u := by
  intro j u hj
  have hj' : j < zs.length := by have := (List.getElem?_eq_some_iff.1 hj).1; rwa [iv_length] at this
  have hadd : (⟨g, o, none⟩ : Addr).add j = ⟨g, o + j, none⟩ := by unfold Addr.add; split <;> simp_all
  rw [hadd, h j hj']
  simp [iv, hj'] at hj
  rw [← hj]
  simp [hj']
theorem addr_add (b o n : Nat) : (⟨b, o, none⟩ : Addr).add n = ⟨b, o + n, none⟩ := by unfold Addr.add; split <;> simp_all
theorem sizeInt (W : World) : (sizeOf 3).run Try.prog W = .ok 1 W := by kernel_rfl
/-- The rest of a slice of numbers. -/
theorem rdp_rest {w : World} (b o len cp n : Nat) (zs : List Int) (hl : len = zs.length) (hn : n ≤ len) (hc : len ≤ cp) (hb : b < w.heap.size) (hz : ∀ i, i < zs.length → w.cell? ⟨b, o + i, none⟩ = some (.int .i64 (zs.getD i 0))) :
    RdP w (.slice (some ⟨b, o + n, none⟩) (len - n) (cp - n)) (zs.drop n) := by
  refine ⟨_, _, by rw [List.length_drop, hl], by rw [List.length_drop]; omega, fun h => ?_⟩
  rw [List.length_drop] at h
  refine ⟨b, o + n, rfl, hb, fun i hi => ?_⟩
  rw [List.length_drop] at hi
  rw [Nat.add_assoc, hz (n + i) (by omega)]
  simp
theorem rdp_none (w : World) (ao : Option Addr) (cp : Nat) (zs : List Int) (h : zs.length = 0) : RdP w (.slice ao 0 cp) zs := ⟨ao, cp, by rw [h], by omega, fun q => by omega⟩
set_option maxRecDepth 20000 in
theorem slice_head (b o len cp n : Nat) (hn : n ≤ len) (hc : len ≤ cp) (h0 : 0 < n) (W : World) :
    (Instr.slice 28 (.slice (some ⟨b, o, none⟩) len cp) none (some (.int .i64 (n : Int))) none).run Try.prog W = .ok (.slice (some ⟨b, o, none⟩) n cp) W := by
  rw [run_slice_h (P := Try.prog) W 28 (some ⟨b, o, none⟩) len cp Try.underlying28 .i64 (n : Int) (by omega) (by omega)]
  have e : Try.prog.elem 28 = 3 := by kernel_rfl
  rw [e, sizeInt]
  simp only [Result.andThen, sliced, Int.toNat_natCast, Option.map_some, Nat.mul_one, addr_add]
  rw [if_neg (by omega)]
  simp

end Go.Proofs.Ythhdpabelcgfjaa

/-
  The contracts of Apply, of the reference's Same, and of live.
-/
namespace Go.Proofs.Ythhdpabelcgfjaa
open Go.ChangeShapes Go.WideShapes Go.ChangeAt Go.RowKit Go.PlainAid

/-- What Apply gives. -/
def apR (s : ByteArray) (ds : List OpD) : ByteArray × Int :=
  if cpl s < 0 then (⟨#[]⟩, 10) else if chk ds ≠ 0 then (⟨#[]⟩, chk ds) else if (bsum (stR ds) : Int) ≠ cpl s then (⟨#[]⟩, 91) else (mk (enc (apRun (pts s) (stR ds))), 0)

theorem pts_ok {t : ByteArray} (h : 0 ≤ cpl t) : ∀ z ∈ pts t, szI z ≠ 0 := (whole_eq (cpl_valid h)).2
theorem apRun_ok : ∀ (l : List St) (zs : List Int), (∀ s ∈ l, s.Ok) → (∀ z ∈ zs, szI z ≠ 0) → ∀ z ∈ apRun zs l, szI z ≠ 0
  | [], _, _, _ => by simp [apRun]
  | .keep n :: l, zs, ho, hz => by
    intro z h
    rw [apRun, List.mem_append] at h
    rcases h with h | h
    · exact hz z (List.mem_of_mem_take h)
    · exact apRun_ok l _ (fun s hs => ho s (by simp [hs])) (fun x hx => hz x (List.mem_of_mem_drop hx)) z h
  | .rem n :: l, zs, ho, hz => by
    intro z h
    rw [apRun] at h
    exact apRun_ok l _ (fun s hs => ho s (by simp [hs])) (fun x hx => hz x (List.mem_of_mem_drop hx)) z h
  | .ins t :: l, zs, ho, hz => by
    intro z h
    rw [apRun, List.mem_append] at h
    rcases h with h | h
    · exact pts_ok (t := t) (by have := ho (.ins t) (by simp); simp only [St.Ok] at this; omega) z h
    · exact apRun_ok l _ (fun s hs => ho s (by simp [hs])) hz z h

theorem rdp_reads {w : World} {base n : Nat} {v : Value} {zs : List Int} (h : w.ownsRow base 3 1 v n (iv zs)) : ReadsI w v zs := by
  have hl := h.1
  rw [iv_length, Nat.mul_one] at hl
  subst hl
  exact readsI_own h


set_option maxRecDepth 20000 in
set_option maxHeartbeats 2000000 in
theorem same_true (va vb : Value) (l : List OpD) (w : World) (hm : l.length ≤ maxLen) (ha : RdD w va l) (hb : RdD w vb l) :
    Calls Try.prog 28 #[va, vb] w fun e w' => e = .returned (.bool true) ∧ Below w.heap.size w w' := by
  obtain ⟨ao, ac, rfl, _, hac⟩ := ha
  obtain ⟨bo, bc, rfl, _, hbc⟩ := hb
  unfold maxLen at hm
  go_enter Try.func28, Try.ntmps28
  go_wp2
  go_loopw [5] (fun i wr => ∃ k : Nat, k ≤ l.length ∧ i = .int .i64 (k : Int) ∧ Below w.heap.size w wr) (fun i _ => l.length - (intOf i).toNat)
  case atStart => exact ⟨0, by omega, rfl, Below.refl _ _⟩
  case round =>
    obtain ⟨k, hk, rfl, hbl⟩ := hrel
    by_cases hlt : k < l.length
    · have hlt' : (k : Int) < (l.length : Int) := by omega
      obtain ⟨b1, o1, rfl, hb1, c0, c1, c2⟩ := hac k l[k] (by simp [hlt])
      obtain ⟨b2, o2, rfl, hb2, d0, d1, d2⟩ := hbc k l[k] (by simp [hlt])
      have hB1 : ∀ o, wr.cell? ⟨b1, o, none⟩ = w.cell? ⟨b1, o, none⟩ := fun o => hbl.cell (p := ⟨b1, o, none⟩) hb1
      have hB2 : ∀ o, wr.cell? ⟨b2, o, none⟩ = w.cell? ⟨b2, o, none⟩ := fun o => hbl.cell (p := ⟨b2, o, none⟩) hb2
      rw [← hB1] at c0 c1 c2
      rw [← hB2] at d0 d1 d2
      clear hB1 hB2 hac hbc
      generalize l[k] = o at *
      go_wp2
      go_quiet (fail)
      go_wp2
      go_roundw
      case rel => exact ⟨k + 1, by omega, by go_num, below_drewN hbl _⟩
      case measure => simp [intOf]; omega
    · clear hac hbc
      go_wp2
      go_ret
      exact ⟨rfl, hbl⟩
end Go.Proofs.Ythhdpabelcgfjaa
