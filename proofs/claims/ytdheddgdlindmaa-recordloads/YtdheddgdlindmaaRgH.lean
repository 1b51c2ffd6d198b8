/-
  The reference's add, whole; where take reads a pair, add reads the same.
-/
import Derived.Test.YtdheddgdlindmaaRgA
import Derived.Test.YtdheddgdlindmaaRcV
namespace Go.Proofs.Ytdheddgdlindmaa
open Go.ChangeShapes Go.WideShapes Go.ChangeAt Go.RowKit Go.PlainAid

set_option maxRecDepth 20000 in
set_option maxHeartbeats 3000000 in
theorem add_nil (g : Nat) (x : PaD) (w : World) (h0 : x.k.size = 0) :
    Calls Try.prog 34 #[.pointer (some ⟨g, 0, none⟩), .agg #[.string x.k, .string x.v]] w fun e w' => e = .returned (.bool false) ∧ Below w.heap.size w w' := by
  have hal := alloc_bR w (.cells #[.string x.k, .string x.v] 44)
  have hal2 := hal.trans ((alloc_bR (w.alloc (.cells #[.string x.k, .string x.v] 44)) (.cells #[.string x.v, .int .i64 0, .bool false] 105)).mono hal.size)
  have hpb := heap_alloc_new w (.cells #[.string x.k, .string x.v] 44)
  have p0 : (w.alloc (.cells #[.string x.k, .string x.v] 44)).cell? ⟨w.heap.size, 0, none⟩ = some (.string x.k) := cell_of_row _ _ 0 _ _ (0, 0) hpb
  have p1 : (w.alloc (.cells #[.string x.k, .string x.v] 44)).cell? ⟨w.heap.size, 1, none⟩ = some (.string x.v) := cell_of_row _ _ 1 _ _ (0, 0) hpb
  have p2 : ((w.alloc (.cells #[.string x.k, .string x.v] 44)).alloc (.cells #[.string x.v, .int .i64 0, .bool false] 105)).cell? ⟨w.heap.size, 0, none⟩ = some (.string x.k) := ((alloc_bR _ _).cell (p := ⟨w.heap.size, 0, none⟩) (by simp)).trans p0
  have hne : x.k.toList.isEmpty = true := by
    rw [Go.ByteArray.toList_eq]
    cases h : x.k.data.toList with
    | nil => rfl
    | cons a l => exfalso; have := data_len x.k; rw [h, h0] at this; simp at this
  clear hpb
  go_enter Try.func34, Try.ntmps34
  go_wp2_with fail
  go_ret
  exact ⟨rfl, hal2⟩
theorem add_any (g : Nat) (S : StD) (v1 v2 v3 : Value) (us : List (Value × Value × Value)) (ls : List Value) (x : PaD) (w : World) (hS : SB w g S v1 v2 v3) (hO : OwSt w (g + 1) v1 v2 v3 S us ls) (hv : x.v.size ≤ 1099511627776) (hl : S.bs.length ≤ 2000000 ∧ S.cs.length ≤ 2000000 ∧ S.us.length ≤ 2000000) :
    Calls Try.prog 34 #[.pointer (some ⟨g, 0, none⟩), .agg #[.string x.k, .string x.v]] w fun e w' => ∃ v1 v2 v3 us ls, e = .returned (.bool (adF S x).2) ∧ SB w' g (adF S x).1 v1 v2 v3 ∧ OwSt w' (g + 1) v1 v2 v3 (adF S x).1 us ls ∧ Below g w w' := by
  have hg := heap_lt hS
  unfold adF
  by_cases h0 : x.k.size = 0
  · rw [if_pos h0]
    refine (add_nil g x w h0).mono ?_
    rintro e w' ⟨rfl, hb⟩
    exact ⟨_, _, _, _, _, rfl, hS.below hb, hO.below hb, hb.mono (by omega)⟩
  · rw [if_neg h0]
    by_cases h1 : bt x.k 0 = 98
    · rw [if_pos h1]
      exact add_br g S v1 v2 v3 us ls x w hS hO hv hl.1 h0 h1
    · rw [if_neg h1]
      by_cases h2 : bt x.k 0 = 99
      · rw [if_pos h2]
        exact add_co g S v1 v2 v3 us ls x w hS hO hv hl.2.1 h0 h2
      · rw [if_neg h2]
        by_cases h3 : bt x.k 0 = 110
        · rw [if_pos h3]
          exact add_nx g S v1 v2 v3 us ls x w hS hO hv h0 h3
        · rw [if_neg h3]
          exact add_cu g S v1 v2 v3 us ls x w hS hO hv hl.2.2 h0 h1 h2 h3
/-- A reading that goes on from a bad one is bad. -/
theorem rn_t {s : ByteArray} {a : Int} : (rnF s a true).2.2 = true := rfl
theorem adN_ok {S T : StD} {s : ByteArray} (h : tkN S s = (T, true)) : adN S s = (T, true) := by
  unfold tkN at h
  unfold adN
  rcases h1 : rnF s 0 false with ⟨n, a1, f1⟩
  rw [h1] at h
  simp only at h
  rcases h2 : rnF s a1 f1 with ⟨m, a2, f2⟩
  rw [h2] at h
  simp only [Prod.mk.injEq, Bool.and_eq_true, Bool.not_eq_true'] at h
  obtain ⟨rfl, rfl, -⟩ := h
  cases f1 with
  | true => have := @rn_t s a1; rw [h2] at this; cases this
  | false =>
    rw [gnF_ok h1]
    simp only
    rw [gnF_ok h2]
    rfl
theorem adU_ok {S T : StD} {s : ByteArray} (h : tkU S s = (T, true)) : adU S s = (T, true) := by
  unfold tkU at h
  unfold adU
  rcases h1 : rnF s 0 false with ⟨n, a1, f1⟩
  rw [h1] at h
  simp only at h
  rcases h2 : rnF s a1 f1 with ⟨m, a2, f2⟩
  rw [h2] at h
  simp only at h
  rcases h3 : rnF s a2 f2 with ⟨q, a3, f3⟩
  rw [h3] at h
  simp only [Prod.mk.injEq, Bool.and_eq_true, Bool.not_eq_true'] at h
  obtain ⟨rfl, rfl, -⟩ := h
  cases f2 with
  | true => have := @rn_t s a2; rw [h3] at this; cases this
  | false =>
    cases f1 with
    | true => have := @rn_t s a1; rw [h2] at this; cases this
    | false =>
      rw [gnF_ok h1]
      simp only
      rw [gnF_ok h2]
      simp only
      rw [gnF_ok h3]
      rfl
end Go.Proofs.Ytdheddgdlindmaa

/-
  The reference's Load as data: what add makes fits; it is what the program's Load gives.
-/
namespace Go.Proofs.Ytdheddgdlindmaa
open Go.ChangeShapes Go.WideShapes Go.ChangeAt Go.RowKit Go.PlainAid

theorem rt_t {s : ByteArray} {a : Int} : (rtF s a true).2.2 = true := rfl
theorem rc_t {s : ByteArray} {a : Int} : (rcF s a true).2.2 = true := by
  unfold rcF
  show (rcG s _ _ true).2.2 = true
  rw [rcG_t]
theorem rd_t {s : ByteArray} {a : Int} : (rdF s a true).2.2 = true := rfl
theorem adB_ok {S T : StD} {s : ByteArray} (h : tkB S s = (T, true)) : adB S s = (T, true) := by
  unfold tkB at h
  unfold adB
  rcases h1 : rnF s 0 false with ⟨n, a1, f1⟩
  rw [h1] at h
  simp only at h
  rcases h2 : rtF s a1 f1 with ⟨m, a2, f2⟩
  rw [h2] at h
  simp only at h
  rcases h3 : rcF s a2 f2 with ⟨q, a3, f3⟩
  rw [h3] at h
  simp only [Prod.mk.injEq, Bool.and_eq_true, Bool.not_eq_true'] at h
  obtain ⟨rfl, rfl, -⟩ := h
  cases f2 with
  | true => have := @rc_t s a2; rw [h3] at this; cases this
  | false =>
    cases f1 with
    | true => have := @rt_t s a1; rw [h2] at this; cases this
    | false =>
      rw [gnF_ok h1]
      simp only
      rw [gtF_ok h2]
      simp only
      rw [gcF_ok h3]
      rfl
theorem adC_ok {S T : StD} {s : ByteArray} (h : tkC S s = (T, true)) : adC S s = (T, true) := by
  unfold tkC at h
  unfold adC
  rcases h1 : rnF s 0 false with ⟨n, a1, f1⟩
  rw [h1] at h
  simp only at h
  rcases h2 : rcF s a1 f1 with ⟨m, a2, f2⟩
  rw [h2] at h
  simp only at h
  rcases h3 : rdF s a2 f2 with ⟨q, a3, f3⟩
  rw [h3] at h
  simp only at h
  rcases h4 : rdF s a3 f3 with ⟨o, a4, f4⟩
  rw [h4] at h
  simp only at h
  rcases h5 : rnF s a4 f4 with ⟨c, a5, f5⟩
  rw [h5] at h
  simp only at h
  rcases h6 : rnF s a5 f5 with ⟨e, a6, f6⟩
  rw [h6] at h
  simp only [Prod.mk.injEq, Bool.and_eq_true, Bool.not_eq_true'] at h
  obtain ⟨rfl, rfl, -⟩ := h
  have g5 : f5 = false := by cases f5 with
    | true => have := @rn_t s a5; rw [h6] at this; cases this
    | false => rfl
  subst g5
  have g4 : f4 = false := by cases f4 with
    | true => have := @rn_t s a4; rw [h5] at this; cases this
    | false => rfl
  subst g4
  have g3 : f3 = false := by cases f3 with
    | true => have := @rd_t s a3; rw [h4] at this; cases this
    | false => rfl
  subst g3
  have g2 : f2 = false := by cases f2 with
    | true => have := @rd_t s a2; rw [h3] at this; cases this
    | false => rfl
  subst g2
  have g1 : f1 = false := by cases f1 with
    | true => have := @rc_t s a1; rw [h2] at this; cases this
    | false => rfl
  subst g1
  rw [gnF_ok h1]
  simp only
  rw [gcF_ok h2]
  simp only
  rw [gdF_ok h3]
  simp only
  rw [gdF_ok h4]
  simp only
  rw [gnF_ok h5]
  simp only
  rw [gnF_ok h6]
  rfl
theorem adF_ok {S T : StD} {x : PaD} (h : tkF S x = (T, true)) : adF S x = (T, true) := by
  unfold tkF at h
  unfold adF
  split at h
  · simp at h
  · rename_i h0
    rw [if_neg h0]
    split at h
    · rename_i h1; rw [if_pos h1]; exact adB_ok h
    · rename_i h1
      rw [if_neg h1]
      split at h
      · rename_i h2; rw [if_pos h2]; exact adC_ok h
      · rename_i h2
        rw [if_neg h2]
        split at h
        · rename_i h3; rw [if_pos h3]; exact adN_ok h
        · rename_i h3
          rw [if_neg h3]
          split at h
          · exact adU_ok h
          · simp at h
theorem gcG_len (s : ByteArray) : ∀ (n : Nat) (a : Int) (f : Bool), (gcG s n a f).1.length ≤ n
  | 0, _, _ => by simp [gcG]
  | n + 1, a, true => by simp [gcG]
  | n + 1, a, false => by
    have := gcG_len s n (gnF s a false).2.1 (gnF s a false).2.2
    simp only [gcG, List.length_cons]
    omega
theorem gc_bd (s : ByteArray) (a : Int) (f : Bool) : (gcF s a f).1.length ≤ 1125899906842624 := by
  have h := gcG_len s (gnF s a f).1.toNat (gnF s a f).2.1 (gnF s a f).2.2
  have := gnF_bd s a f
  unfold gcF
  omega
theorem gd_in (s : ByteArray) (a : Int) (f : Bool) : (gdF s a f).1.length ≤ 3000 ∧ ∀ o ∈ (gdF s a f).1, o.In := dec_inR _
/-- A pair more: it is no longer than one more, and it fits. -/
theorem adF_more (S : StD) (x : PaD) : (adF S x).1.bs.length ≤ S.bs.length + 1 ∧ (adF S x).1.cs.length ≤ S.cs.length + 1 ∧ (adF S x).1.us.length ≤ S.us.length + 1 := by
  unfold adF
  split
  · exact ⟨by simp, by simp, by simp⟩
  · split
    · unfold adB; exact ⟨by simp, by simp, by simp⟩
    · split
      · unfold adC; exact ⟨by simp, by simp, by simp⟩
      · split
        · unfold adN; exact ⟨by simp, by simp, by simp⟩
        · unfold adU; exact ⟨by simp, by simp, by simp⟩
theorem adB_fit {S : StD} (s : ByteArray) (h : S.Fit) : (adB S s).1.Fit := by
  unfold adB
  rcases hx1 : gnF s 0 false with ⟨i, a1, f1⟩
  have r2 := gt_sz s a1 f1
  rcases hx2 : gtF s a1 f1 with ⟨nm, a2, f2⟩
  have r3 := gc_bd s a2 f2
  rcases hx3 : gcF s a2 f2 with ⟨lg, a3, f3⟩
  rw [hx2] at r2
  rw [hx3] at r3
  simp only [hx2, hx3] at *
  refine ⟨h.c0, h.c1, h.b0, h.b1, h.cs, fun y hy => ?_⟩
  rcases List.mem_append.1 hy with hy | hy
  · exact h.bs y hy
  · rw [List.mem_singleton.1 hy]
    exact ⟨by simp only; omega, by simp only; omega⟩
theorem adC_fit {S : StD} (s : ByteArray) (h : S.Fit) : (adC S s).1.Fit := by
  unfold adC
  rcases hx1 : gnF s 0 false with ⟨n, a1, f1⟩
  have r2 := gc_bd s a1 f1
  rcases hx2 : gcF s a1 f1 with ⟨ps, a2, f2⟩
  have r3 := gd_in s a2 f2
  rcases hx3 : gdF s a2 f2 with ⟨d, a3, f3⟩
  have r4 := gd_in s a3 f3
  rcases hx4 : gdF s a3 f3 with ⟨o, a4, f4⟩
  rcases hx5 : gnF s a4 f4 with ⟨c, a5, f5⟩
  rcases hx6 : gnF s a5 f5 with ⟨q, a6, f6⟩
  rw [hx2] at r2
  rw [hx3] at r3
  rw [hx4] at r4
  simp only [hx2, hx3, hx4, hx5, hx6] at *
  refine ⟨h.c0, h.c1, h.b0, h.b1, fun y hy => ?_, h.bs⟩
  rcases List.mem_append.1 hy with hy | hy
  · exact h.cs y hy
  · rw [List.mem_singleton.1 hy]
    exact ⟨by simp only; omega, by have := r3.1; simp only; unfold maxLen; omega, r3.2, by have := r4.1; simp only; unfold maxLen; omega, r4.2⟩
theorem adN_fit {S : StD} (s : ByteArray) (h : S.Fit) : (adN S s).1.Fit := by
  unfold adN
  have r1 := gnF_bd s 0 false
  rcases hx1 : gnF s 0 false with ⟨n, a1, f1⟩
  have r2 := gnF_bd s a1 f1
  rcases hx2 : gnF s a1 f1 with ⟨m, a2, f2⟩
  rw [hx1] at r1
  rw [hx2] at r2
  simp only [hx2] at *
  exact ⟨by simp only; omega, by simp only; omega, by simp only; omega, by simp only; omega, h.cs, h.bs⟩
theorem adF_fit {S : StD} (x : PaD) (h : S.Fit) : (adF S x).1.Fit := by
  unfold adF
  split
  · exact h
  · split
    · exact adB_fit _ h
    · split
      · exact adC_fit _ h
      · split
        · exact adN_fit _ h
        · unfold adU
          exact ⟨h.c0, h.c1, h.b0, h.b1, h.cs, h.bs⟩
/-- Adding all pairs. -/
def lhG : StD → List PaD → Option StD
  | S, [] => some S
  | S, x :: r => if (adF S x).2 = true then lhG (adF S x).1 r else none
theorem lhG_ok : ∀ (l : List PaD) (S T : StD), ldG S l = some T → lhG S l = some T
  | [], S, T, h => h
  | x :: r, S, T, h => by
    rw [ldG] at h
    split at h
    · rename_i h1
      have e := adF_ok (S := S) (x := x) (T := (tkF S x).1) (Prod.ext rfl h1)
      rw [lhG, e, if_pos rfl]
      exact lhG_ok r _ T h
    · cases h
theorem lhG_fit : ∀ (l : List PaD) (S T : StD), S.Fit → lhG S l = some T → T.Fit
  | [], S, T, hF, h => by cases h; exact hF
  | x :: r, S, T, hF, h => by
    rw [lhG] at h
    split at h
    · exact lhG_fit r _ T (adF_fit x hF) h
    · cases h
/-- The reference's Load is the program's. -/
theorem lh_eq (l : List PaD) : ldM l (lhG zeroS l) = ldE l := by
  rw [ldE_eq]
  cases h : ldG zeroS l with
  | some S => rw [lhG_ok l _ S h]
  | none =>
    cases g : lhG zeroS l with
    | none => rfl
    | some T =>
      show (if (prE T).2 = 0 ∧ (prE T).1 = l then (T, (0 : Int)) else (zeroS, 150)) = (zeroS, 150)
      by_cases hp : (prE T).2 = 0 ∧ (prE T).1 = l
      · exfalso
        obtain ⟨p1, p2⟩ := hp
        unfold prE at p1 p2
        split at p1
        · rename_i hs
          rw [if_pos hs] at p2
          have hb := ldE_back hs (lhG_fit l _ T zero_fit g)
          simp only at p2
          rw [p2, ldE_eq, h] at hb
          have h2 : (150 : Int) = 0 := congrArg Prod.snd hb
          exact absurd h2 (by decide)
        · exact absurd p1 (by decide)
      · rw [if_neg hp]
theorem lh_long (l : List PaD) (hl : 1000 < l.length) : ldE l = (zeroS, 150) := by
  rw [ldE_eq]
  cases h : ldG zeroS l with
  | none => rfl
  | some S =>
    show (if (prE S).2 = 0 ∧ (prE S).1 = l then (S, (0 : Int)) else (zeroS, 150)) = (zeroS, 150)
    rw [if_neg]
    rintro ⟨-, h2⟩
    have := prE_len S
    rw [h2] at this
    omega
end Go.Proofs.Ytdheddgdlindmaa

/-
  The reference's SamePairs, for any two lists.
-/
namespace Go.Proofs.Ytdheddgdlindmaa
open Go.ChangeShapes Go.WideShapes Go.ChangeAt Go.RowKit Go.PlainAid

set_option maxRecDepth 20000 in
set_option maxHeartbeats 1000000 in
theorem samePa_any (va vb : Value) (A B : List PaD) (w : World) (hA : RdPa w va A) (hB : RdPa w vb B) (hm : A.length ≤ 9223372036854775000) :
    Calls Try.prog 11 #[va, vb] w fun e w' => e = .returned (.bool (decide (A = B))) ∧ Below w.heap.size w w' := by
  obtain ⟨ao, ac, rfl, hac⟩ := hA
  obtain ⟨bo, bc, rfl, hbc⟩ := hB
  by_cases hl : A.length = B.length
  · obtain ⟨res, Hres⟩ : ∃ res, Hid (decide (A = B) = res) := ⟨_, rfl⟩
    have hl' : ((A.length : Int) != (B.length : Int)) = false := by simp [hl]
    rw [Hres.out]
    go_enter Try.func11, Try.ntmps11
    go_wp2_with fail
    go_loopw [5] (fun i wr => ∃ k : Nat, k ≤ A.length ∧ i = .int .i64 (k : Int) ∧ Hid (A.take k = B.take k) ∧ Below w.heap.size w wr) (fun i _ => A.length - (Go.RowKit.intOf i).toNat)
    case atStart => exact ⟨0, by omega, rfl, rfl, Below.refl _ _⟩
    case round =>
      obtain ⟨k, hk, rfl, HT, hbl⟩ := hrel
      by_cases hlt : k < A.length
      · have hlt' : (k : Int) < (A.length : Int) := by omega
        have hltB : k < B.length := by omega
        have hltB' : (k : Int) < (B.length : Int) := by omega
        obtain ⟨b1, o1, rfl, hb1, c0, c1⟩ := hac k A[k] (by simp [hlt])
        obtain ⟨b2, o2, rfl, hb2, d0, d1⟩ := hbc k B[k] (by simp [hltB])
        have hB1 : ∀ o, wr.cell? ⟨b1, o, none⟩ = w.cell? ⟨b1, o, none⟩ := fun o => hbl.cell (p := ⟨b1, o, none⟩) hb1
        have hB2 : ∀ o, wr.cell? ⟨b2, o, none⟩ = w.cell? ⟨b2, o, none⟩ := fun o => hbl.cell (p := ⟨b2, o, none⟩) hb2
        rw [← hB1] at c0 c1
        rw [← hB2] at d0 d1
        clear hB1 hB2 hac hbc
        by_cases he : A[k] = B[k]
        · have HT2 : Hid (A.take (k + 1) = B.take (k + 1)) := by
            show _ = _
            rw [List.take_succ_eq_append_getElem hlt, List.take_succ_eq_append_getElem hltB, HT.out, he]
          rw [he] at c0 c1
          clear he HT
          generalize B[k] = y at *
          go_wp2_with fail
          go_region
          go_wp2_with fail
          exact ⟨⟨k + 1, by omega, by go_num, HT2, Below.drew hbl⟩, by simp [Go.RowKit.intOf]; omega⟩
        · have Hr : Hid (res = false) := by
            show _ = _
            rw [← Hres.out]
            exact decide_eq_false (fun e => he (by subst e; rfl))
          have hne := pad_ne he
          clear he HT
          generalize A[k] = x at *
          generalize B[k] = y at *
          rcases hne with h1 | ⟨h1, h2⟩
          · have h1' : ¬ x.k.toList = y.k.toList := str_neR h1
            clear h1
            go_wp2_with fail
            go_region
            go_wp2_with fail
            go_ret
            exact ⟨by rw [Hr.out]; rfl, Below.drew hbl⟩
          · have h2' : ¬ x.v.toList = y.v.toList := str_neR h2
            rw [h1] at c0
            clear h1 h2
            go_wp2_with fail
            go_region
            go_wp2_with fail
            go_ret
            exact ⟨by rw [Hr.out]; rfl, Below.drew hbl⟩
      · have hlt' : ¬ (k : Int) < (A.length : Int) := by omega
        have Hr : Hid (res = true) := by
          show _ = _
          rw [← Hres.out]
          refine decide_eq_true ?_
          have := HT.out
          rwa [List.take_of_length_le (by omega), List.take_of_length_le (by omega)] at this
        go_wp2_with fail
        go_ret
        exact ⟨by rw [Hr.out]; rfl, hbl⟩
  · have e : decide (A = B) = false := decide_eq_false (fun h => hl (by rw [h]))
    rw [e]
    have hl' : ((A.length : Int) != (B.length : Int)) = true := by simp; omega
    clear e hac hbc
    go_enter Try.func11, Try.ntmps11
    go_wp2_with fail
    go_ret
    exact ⟨rfl, Below.refl _ _⟩
end Go.Proofs.Ytdheddgdlindmaa
