/-
  What the calls of dag answer, and their contracts.
-/
import Derived.Test.YthhdpabelcgfjaaEgF
namespace Go.Proofs.Ythhdpabelcgfjaa.dg
open Go.Maps Go.WideShapes Go.RowKit Go.ChangeShapes Go.ChangeAt Go.PlainAid

def fitsB (P : List Lk) (k : Lk) : Bool := decide (lastN P < k.num) && decide (k.num ≤ 300) && decide (k.ps.length ≤ 2) && k.ps.all (fun p => (nums P).contains p) && decide k.ps.Nodup
theorem fitsB_iff (P : List Lk) (k : Lk) : fitsB P k = true ↔ Fits P k := by
  simp only [fitsB, Bool.and_eq_true, decide_eq_true_eq, List.all_eq_true, List.contains_eq_mem]
  constructor
  · rintro ⟨⟨⟨⟨h1, h2⟩, h3⟩, h4⟩, h5⟩
    exact ⟨h1, h2, h3, h4, h5⟩
  · rintro ⟨h1, h2, h3, h4, h5⟩
    exact ⟨⟨⟨⟨h1, h2⟩, h3⟩, h4⟩, h5⟩
def goodB (L : List Lk) : Bool := (List.range L.length).all fun i => match L[i]? with | some k => fitsB (L.take i) k | none => true
theorem goodB_iff (L : List Lk) : goodB L = true ↔ Good L := by
  simp only [goodB, List.all_eq_true, List.mem_range]
  constructor
  · intro h i hi
    have := h i hi
    rw [List.getElem?_eq_getElem hi] at this
    exact (fitsB_iff _ _).1 this
  · intro h i hi
    rw [List.getElem?_eq_getElem hi]
    exact (fitsB_iff _ _).2 (h i hi)
theorem goodB_true {L : List Lk} (h : Good L) : goodB L = true := (goodB_iff L).2 h
theorem goodB_false {L : List Lk} (h : ¬ Good L) : goodB L = false := by
  rw [Bool.eq_false_iff]
  exact fun e => h ((goodB_iff L).1 e)

/-- What the calls answer. -/
def chkR (L : List Lk) : Int := if goodB L then 0 else 130
def upR (L : List Lk) (n : Int) : List Int × Int := if goodB L then (if (nums L).contains n then (ris L (upM L n), 0) else ([], 131)) else ([], 130)
def comM (L : List Lk) (a b : Int) : Nat → Bool := fun i => upM L a i && upM L b i
def coR (L : List Lk) (a b : Int) : List Int × Int := if goodB L then (if (nums L).contains a && (nums L).contains b then (ris L (chl L (comM L a b)), 0) else ([], 131)) else ([], 130)
def tipR (L : List Lk) : List Int := if goodB L then ris L (chl L (numS L)) else []

/-- An answer of numbers lies new at a value. -/
abbrev NewI (w w' : World) (u : Value) (l : List Int) : Prop := w'.ownsRow w.heap.size 3 1 u l.length (icells l)

theorem inS_num {L : List Lk} (h : Good L) (k : Int) : inS (numS L) k = (nums L).contains k := inS_nums (good_bd h).1 k

set_option maxRecDepth 20000 in
set_option maxHeartbeats 1000000 in
theorem check_any {w : World} {v : Value} {L : List Lk} (hv : RdL w v L) (hl : L.length ≤ maxLen) (hok : ∀ k ∈ L, k.Ok) :
    Calls Try.prog 15 #[v] w fun e w' => e = .returned (.int .i64 (chkR L)) ∧ Below w.heap.size w w' := by
  have cN := numbers_any hv hl hok
  obtain ⟨ao, cp, rfl, _⟩ := hv
  go_enter Try.func15, Try.ntmps15
  go_wp2_with fail
  refine cN.mono ?_
  rintro e w1 ⟨⟨hg, rfl, hs⟩ | ⟨hg, rfl⟩, hb⟩
  · have HG : Hid (chkR L = 0) := by show _ = _; unfold chkR; rw [goodB_true hg]; rfl
    clear cN hg hs
    go_wp2_with fail
    go_ret
    exact ⟨ret_int HG.out.symm, hb⟩
  · have HG : Hid (chkR L = 130) := by show _ = _; unfold chkR; rw [goodB_false hg]; rfl
    clear cN hg
    go_wp2_with fail
    go_ret
    exact ⟨ret_int HG.out.symm, hb⟩

set_option maxRecDepth 20000 in
set_option maxHeartbeats 2000000 in
theorem Above_any {w : World} {v : Value} {L : List Lk} (n : Int) (h0 : -9223372036854775808 ≤ n) (h1 : n ≤ 9223372036854775807) (hv : RdL w v L) (hl : L.length ≤ maxLen) (hok : ∀ k ∈ L, k.Ok) :
    Calls Try.prog 16 #[v, .int .i64 n] w fun e w' => ∃ u, e = .returned (.tuple #[u, .int .i64 (upR L n).2]) ∧ NewI w w' u (upR L n).1 ∧ Below w.heap.size w w' := by
  have cN := numbers_any hv hl hok
  have hrd : ∀ W, Below w.heap.size w W → RdL W v L := fun W ho => hv.below ho
  obtain ⟨ao, cp, rfl, _⟩ := hv
  by_cases hg : Good L
  · have hcn := inS_num hg n
    have hbd := (good_bd hg).1
    have h300 := good_300 hg
    cases hc : (nums L).contains n with
    | false =>
      rw [hc] at hcn
      have e : upR L n = ([], 131) := by unfold upR; rw [goodB_true hg, hc]; rfl
      rw [e]
      clear hbd hc e
      go_enter Try.func16, Try.ntmps16
      go_wp2_with fail
      refine cN.mono ?_
      rintro e w1 ⟨⟨_, rfl, hs⟩ | ⟨hg', _⟩, hb⟩
      · have cH := has_any hs n h0 h1
        rw [hcn] at cH
        clear cN hs hcn hg hrd
        go_wp2_with fail
        refine cH.mono ?_
        rintro e w2 ⟨rfl, hb2⟩
        go_wp2_with fail
        go_ret2
        exact ⟨_, rfl, World.ownsRow_nil _ _ _ _, chain hb hb2⟩
      · exact absurd hg hg'
    | true =>
      rw [hc] at hcn
      have e : upR L n = (ris L (upM L n), 0) := by unfold upR; rw [goodB_true hg, hc]; rfl
      rw [e]
      have hn := hbd n (by simpa [List.contains_eq_mem] using hc)
      obtain ⟨k, rfl⟩ := Int.eq_ofNat_of_zero_le (show 0 ≤ n by omega)
      have cA := fun W hb => above_any k (by omega) (hrd W hb) hg hok
      have cR := fun (W : World) (b : Nat) (hb : Below w.heap.size w W) hs => rising_any (m := upM L (k : Int)) (b := b) w.heap.size hb.size (hrd W hb) hs h300 hok
      clear hbd hc e hrd
      dsimp only
      go_enter Try.func16, Try.ntmps16
      go_wp2_with fail
      refine cN.mono ?_
      rintro e w1 ⟨⟨_, rfl, hs⟩ | ⟨hg', _⟩, hb⟩
      · have cH := has_any hs k h0 h1
        rw [hcn] at cH
        clear cN hs hcn hg
        go_wp2_with fail
        refine cH.mono ?_
        rintro e w2 ⟨rfl, hb2⟩
        have hb3 := chain hb hb2
        have cA' := cA w2 hb3
        clear cH hb hb2 cA
        go_wp2_with fail
        refine cA'.mono ?_
        rintro e w4 ⟨rfl, hs4, hb4⟩
        have hb5 := chain hb3 hb4
        have cR' := cR w4 _ hb5 hs4
        clear cA' hb3 hb4 cR
        go_wp2_with fail
        refine cR'.mono ?_
        rintro e w6 ⟨u, rfl, ho6, hb6⟩
        have HO : Hid (NewI w w6 u (ris L (upM L (k : Int)))) := ho6
        clear cR' ho6
        go_wp2_with fail
        go_ret2
        exact ⟨_, rfl, HO.out, chain hb5 hb6⟩
      · exact absurd hg hg'
  · have e : upR L n = ([], 130) := by unfold upR; rw [goodB_false hg]; rfl
    rw [e]
    clear e
    go_enter Try.func16, Try.ntmps16
    go_wp2_with fail
    refine cN.mono ?_
    rintro e w1 ⟨⟨hg', _⟩ | ⟨_, rfl⟩, hb⟩
    · exact absurd hg' hg
    · clear cN hg
      go_wp2_with fail
      go_ret2
      exact ⟨_, rfl, World.ownsRow_nil _ _ _ _, hb⟩


end Go.Proofs.Ythhdpabelcgfjaa.dg
