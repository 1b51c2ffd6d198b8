/-
  The contract of see.
-/
import Derived.Test.YtnfnacjadmhclaaDoorDoC
namespace Go.Proofs.YtnfnacjadmhclaaDoor
open Go.Maps Go.WideShapes Go.RowKit Go.ChangeShapes Go.ChangeAt Go.PlainAid

/-- The keys of a run's atoms. -/
def RunD.kys (r : RunD) : List AtK := (List.range (cpl r.t).toNat).map (fun i : Nat => (r.c, r.q, r.f + (i : Int)))
/-- Marks of keys, one behind the other, till one was there. -/
def sg : List AtK → List AtK → Option (List AtK)
  | S, [] => some S
  | S, k :: ks => if k ∈ S then none else sg (S ++ [k]) ks
theorem sg_app : ∀ (S ks : List AtK) (k : AtK), sg S (ks ++ [k]) = (sg S ks).bind (fun T => if k ∈ T then none else some (T ++ [k]))
  | S, [], k => by simp [sg]
  | S, x :: ks, k => by
    rw [List.cons_append, sg, sg]
    split
    · rfl
    · exact sg_app _ ks k
theorem sg_append : ∀ (S a b : List AtK), sg S (a ++ b) = (sg S a).bind (fun T => sg T b)
  | S, [], b => by simp [sg]
  | S, x :: a, b => by
    rw [List.cons_append, sg, sg]
    split
    · rfl
    · exact sg_append _ a b
theorem sg_none {S K : List AtK} {j : Nat} (h : sg S (K.take j) = none) : sg S K = none := by
  rw [← List.take_append_drop j K, sg_append, h]
  rfl
theorem sg_some : ∀ {S ks T : List AtK}, sg S ks = some T → T = S ++ ks
  | S, [], T, h => by simp [sg] at h; simp [h]
  | S, x :: ks, T, h => by
    rw [sg] at h
    split at h
    · cases h
    · rw [sg_some h]; simp
theorem zero92 (W : World) : (zeroValue 92).run Tryd.prog W = .ok (.agg #[]) W := by kernel_rfl
theorem kys_take (r : RunD) (i : Nat) (h : i < (cpl r.t).toNat) : r.kys.take (i + 1) = r.kys.take i ++ [(r.c, r.q, r.f + (i : Int))] := by
  have hl : i < r.kys.length := by simp [RunD.kys, h]
  rw [List.take_succ_eq_append_getElem hl]
  simp [RunD.kys]
theorem kys_wf {r : RunD} (h : mayR r = true) (i : Nat) (hi : i < (cpl r.t).toNat) : AtK.Wf (r.c, r.q, r.f + (i : Int)) := by
  obtain ⟨h1, h2, h3, h4⟩ := mayR_iff.1 h
  obtain ⟨o1, o2, o3, o4⟩ := orM_iff.1 h1
  have e0 : IntKind.i64.min = -9223372036854775808 := by decide
  have e1 : IntKind.i64.max = 9223372036854775807 := by decide
  refine ⟨?_, ?_, ?_⟩ <;> (simp only [Lit.wf, e0, e1, Bool.and_eq_true, decide_eq_true_eq]; omega)

theorem seen_below {w w' : World} {b : Nat} {S : List AtK} (h : Seen w b S) (hb : Below w.heap.size w w') : Seen w' b S := by
  obtain ⟨h1, D, ho, h2, h3⟩ := h
  have hlt := ho.lt
  obtain ⟨es, clock, hh, F, hs, hD⟩ := ho
  exact ⟨h1, D, ⟨es, clock, (hb.block b hlt).trans hh, F, hs, hD⟩, h2, h3⟩

set_option maxRecDepth 20000 in
set_option maxHeartbeats 1000000 in
theorem see_any (B b : Nat) (r : RunD) (S : List AtK) (w : World) (hV : VS w) (hB : B ≤ b) (hS : Seen w b S) (hM : mayR r = true) (hs : r.t.size ≤ 1125899906842624) (hl : S.length ≤ 1000000) :
    Calls Tryd.prog 33 #[.map (some b), r.v] w fun e w' => e = .returned (.bool (sg S r.kys).isSome) ∧ (∀ T, sg S r.kys = some T → Seen w' b T) ∧ Below B w w' := by
  obtain ⟨h1, h2, h3, h4⟩ := mayR_iff.1 hM
  have hbw : b < w.heap.size := by obtain ⟨-, D, ho, -⟩ := hS; exact ho.lt
  have hb0 : Below w.heap.size w (w.alloc (.cells #[.int .i64 r.c, .int .i64 r.q, .int .i64 r.f, .string r.t] 41)) := (Below.refl _ w).alloc (Nat.le_refl _) _
  have hx : RB _ _ r := heap_alloc_new w (.cells #[.int .i64 r.c, .int .i64 r.q, .int .i64 r.f, .string r.t] 41)
  have hc := count_any r.t _ (hV.below hb0) hs
  have HW := fun i hi => kys_wf hM i hi
  have HT := fun i hi => kys_take r i hi
  have HL : Hid (r.kys.take (cpl r.t).toNat = r.kys) := by show _ = _; rw [List.take_of_length_le (by simp [RunD.kys])]
  have h4' : cpl r.t ≤ 1000 := by omega
  unfold RunD.v
  generalize r.kys = K at *
  obtain ⟨n, hn⟩ : ∃ n : Nat, cpl r.t = (n : Int) := ⟨(cpl r.t).toNat, by omega⟩
  rw [hn] at hc h2 h4 h4' HW HT HL
  simp only [Int.toNat_natCast] at HW HT HL
  clear hn hM h1
  have hf3 : r.f ≤ 1000 := by omega
  go_enter Tryd.func33, Tryd.ntmps33
  go_wp2_with fail
  generalize w.alloc _ = w1 at *
  refine hc.mono ?_
  clear hc
  rintro e w2 ⟨rfl, hb2⟩
  have hx2 := hx.below hb2
  have hS2 := seen_below (seen_below hS hb0) hb2
  have hB2 : Below B w w2 := (hb0.trans (hb2.mono hb0.size)).mono (by omega)
  have hs2 := hb2.size
  have hs1 := hb0.size
  have hpw := heap_lt hx
  clear hx hS hb0 hb2
  go_wp2_with fail
  go_loopw [12] (fun i wr => ∃ (j : Nat) (T : List AtK), j ≤ n ∧ i = .int .i64 (j : Int) ∧ sg S (K.take j) = some T ∧ Seen wr b T ∧ RB wr w.heap.size r ∧ T.length ≤ 1000000 + j ∧ w2.heap.size ≤ wr.heap.size ∧ Below B w wr) (fun i _ => n - (intOf i).toNat)
  case atStart => exact ⟨0, S, Nat.zero_le _, rfl, by simp [sg], hS2, hx2, by omega, Nat.le_refl _, hB2⟩
  case round =>
    obtain ⟨j, T, hj, rfl, hsg, hST, hxr, hlT, hsz, hBr⟩ := hrel
    clear hS2 hx2 hB2
    have HG : Hid (sg S (K.take j) = some T) := hsg
    clear hsg
    by_cases hlt : j < n
    · have hlt' : (j : Int) < (n : Int) := by omega
      have hwf := HW j hlt
      have hkt := HT j hlt
      have HS : Hid (sg S (K.take (j + 1)) = if (r.c, r.q, r.f + (j : Int)) ∈ T then none else some (T ++ [(r.c, r.q, r.f + (j : Int))])) := by
        show _ = _
        rw [hkt, sg_app, HG.out]
        rfl
      have hkey := kA_key hwf
      unfold atV at hkey
      simp only at hkey
      obtain ⟨hw1, D, ho, hsD, hhD⟩ := hST
      obtain ⟨c0, c1, c2, c3⟩ := hxr.cells
      have hha := hhD _ hwf
      clear hkt HT HW
      by_cases hin : (r.c, r.q, r.f + (j : Int)) ∈ T
      · have HN : Hid (sg S K = none) := sg_none (j := j + 1) (by rw [HS.out, if_pos hin])
        rw [decide_eq_true hin] at hha
        clear HS HG hin
        go_wp2_with (at_lookup; refine wpList_lookup_own_unit _ rfl _ _ 55 rfl 91 92 atomKeyed Tryd.underlying55 (zero92 _) b T.length D rfl (ho.alloc _) _ _ rfl hkey ?_; rw [hha])
        go_ret
        rw [HN.out]
        exact ⟨rfl, fun T h => (by cases h), (hBr.alloc (by omega) _).alloc (by simp; omega) _⟩
      · have HG2 : Hid (sg S (K.take (j + 1)) = some (T ++ [(r.c, r.q, r.f + (j : Int))])) := by show _ = _; rw [HS.out, if_neg hin]
        rw [decide_eq_false hin] at hha
        clear HS HG
        go_wp2_with (first
          | (at_lookup; refine wpList_lookup_own_unit _ rfl _ _ 55 rfl 91 92 atomKeyed Tryd.underlying55 (zero92 _) b T.length D rfl (ho.alloc _) _ _ rfl hkey ?_; rw [hha])
          | (at_mapUpdate; refine wpList_mapUpdate_own _ rfl _ _ _ 55 rfl 91 92 atomKeyed Tryd.underlying55 (unitElem (H := Unit)) b T.length D rfl ((ho.alloc _).alloc _) (by unfold maxLen; omega) _ (.agg #[]) _ rfl rfl hkey (.agg []) [] unitElem_mk ?_; intro w9 ho9 hg9))
        have R1 := seen_put hw1 hwf hin ho hsD hhD ho9
        have hs9 := hg9.size
        have hsa : ((wr.alloc (.cells #[.int .i64 r.c, .int .i64 r.q, .int .i64 (r.f + (j : Int))] 91)).alloc (.cells #[] 92)).heap.size = wr.heap.size + 2 := by simp
        have hxa := RB.below (RB.below hxr ((Below.refl _ wr).alloc (Nat.le_refl _) (.cells #[.int .i64 r.c, .int .i64 r.q, .int .i64 (r.f + (j : Int))] 91))) ((Below.refl _ _).alloc (Nat.le_refl _) (.cells #[] 92))
        have R2 : RB w9 w.heap.size r := by
          have h := hg9.block w.heap.size (by omega) (fun e => by injection e with e; omega)
          unfold RB
          rw [h]
          exact hxa
        have R3 : Below B w w9 := ((hBr.alloc (by omega) _).alloc (by rw [show (wr.alloc (.cells #[.int .i64 r.c, .int .i64 r.q, .int .i64 (r.f + (j : Int))] 91)).heap.size = wr.heap.size + 1 by simp]; omega) _).grown hg9 (by omega) (fun k hk => by injection hk with hk; omega)
        clear ho9 hg9 ho hhD hsD hha
        go_roundw
        case rel => exact ⟨j + 1, _, by omega, by go_num, HG2.out, R1, R2, by simp; omega, by omega, R3⟩
        case measure => simp [intOf]; omega
    · obtain rfl : j = n := by omega
      have HE : Hid (sg S K = some T) := by have := HG.out; rw [HL.out] at this; exact this
      clear HG HT HW HL
      go_wp2_with fail
      go_ret
      rw [HE.out]
      exact ⟨rfl, fun T' h => (by cases h; exact hST), hBr⟩
end Go.Proofs.YtnfnacjadmhclaaDoor
