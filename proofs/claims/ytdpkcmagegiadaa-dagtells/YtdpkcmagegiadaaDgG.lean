/-
  What the calls of dag answer, and their contracts.
-/
import Derived.Test.YtdpkcmagegiadaaDgF
namespace Go.Proofs.Ytdpkcmagegiadaa
open Go.Maps Go.WideShapes Go.RowKit Go.ChangeShapes Go.ChangeAt Go.PlainAid

def fitsB (P : List Lk) (k : Lk) : Bool := decide (lastN P < k.num) && decide (k.num ≤ 300) && decide (k.ps.length ≤ 2) && k.ps.all (fun p => (nums P).contains p) && decide k.ps.Nodup
theorem fitsB_iff (P : List Lk) (k : Lk) : fitsB P k = true ↔ Fits P k := by
  simp only [fitsB, Bool.and_eq_true, decide_eq_true_eq, List.all_eq_true, List.contains_eq_mem]
  constructor
  · rintro ⟨⟨⟨⟨h1, h2⟩, h3⟩, h4⟩, h5⟩
    exact ⟨h1, h2, h3, h4, h5⟩
  · rintro ⟨h1, h2, h3, h4, h5⟩
    exact ⟨⟨⟨⟨h1, h2⟩, h3⟩, h4⟩, h5⟩
def goodB (L : List Lk) : Bool := (List.range L.length).all fun i => match L[i]? with | some k => fitsB (L.take i) k | none => true
theorem goodB_iff (L : List Lk) : goodB L = true ↔ Good L := by
  simp only [goodB, List.all_eq_true, List.mem_range]
  constructor
  · intro h i hi
    have := h i hi
    rw [List.getElem?_eq_getElem hi] at this
    exact (fitsB_iff _ _).1 this
  · intro h i hi
    rw [List.getElem?_eq_getElem hi]
    exact (fitsB_iff _ _).2 (h i hi)
theorem goodB_true {L : List Lk} (h : Good L) : goodB L = true := (goodB_iff L).2 h
theorem goodB_false {L : List Lk} (h : ¬ Good L) : goodB L = false := by
  rw [Bool.eq_false_iff]
  exact fun e => h ((goodB_iff L).1 e)

/-- What the calls answer. -/
def chkR (L : List Lk) : Int := if goodB L then 0 else 130
def upR (L : List Lk) (n : Int) : List Int × Int := if goodB L then (if (nums L).contains n then (ris L (upM L n), 0) else ([], 131)) else ([], 130)
def comM (L : List Lk) (a b : Int) : Nat → Bool := fun i => upM L a i && upM L b i
def coR (L : List Lk) (a b : Int) : List Int × Int := if goodB L then (if (nums L).contains a && (nums L).contains b then (ris L (chl L (comM L a b)), 0) else ([], 131)) else ([], 130)
def tipR (L : List Lk) : List Int := if goodB L then ris L (chl L (numS L)) else []

/-- An answer of numbers lies new at a value. -/
abbrev NewI (w w' : World) (u : Value) (l : List Int) : Prop := w'.ownsRow w.heap.size 3 1 u l.length (icells l)

theorem inS_num {L : List Lk} (h : Good L) (k : Int) : inS (numS L) k = (nums L).contains k := inS_nums (good_bd h).1 k

set_option maxRecDepth 20000 in
set_option maxHeartbeats 1000000 in
theorem check_any {w : World} {v : Value} {L : List Lk} (hv : RdL w v L) (hl : L.length ≤ maxLen) (hok : ∀ k ∈ L, k.Ok) :
    Calls Try.prog 12 #[v] w fun e w' => e = .returned (.int .i64 (chkR L)) ∧ Below w.heap.size w w' := by
  have cN := numbers_any hv hl hok
  obtain ⟨ao, cp, rfl, _⟩ := hv
  go_enter Try.func12, Try.ntmps12
  go_wp2_with fail
  refine cN.mono ?_
  rintro e w1 ⟨⟨hg, rfl, hs⟩ | ⟨hg, rfl⟩, hb⟩
  · have HG : Hid (chkR L = 0) := by show _ = _; unfold chkR; rw [goodB_true hg]; rfl
    clear cN hg hs
    go_wp2_with fail
    go_ret
    exact ⟨ret_int HG.out.symm, hb⟩
  · have HG : Hid (chkR L = 130) := by show _ = _; unfold chkR; rw [goodB_false hg]; rfl
    clear cN hg
    go_wp2_with fail
    go_ret
    exact ⟨ret_int HG.out.symm, hb⟩

set_option maxRecDepth 20000 in
set_option maxHeartbeats 2000000 in
theorem Above_any {w : World} {v : Value} {L : List Lk} (n : Int) (h0 : -9223372036854775808 ≤ n) (h1 : n ≤ 9223372036854775807) (hv : RdL w v L) (hl : L.length ≤ maxLen) (hok : ∀ k ∈ L, k.Ok) :
    Calls Try.prog 7 #[v, .int .i64 n] w fun e w' => ∃ u, e = .returned (.tuple #[u, .int .i64 (upR L n).2]) ∧ NewI w w' u (upR L n).1 ∧ Below w.heap.size w w' := by
  have cN := numbers_any hv hl hok
  have hrd : ∀ W, Below w.heap.size w W → RdL W v L := fun W ho => hv.below ho
  obtain ⟨ao, cp, rfl, _⟩ := hv
  by_cases hg : Good L
  · have hcn := inS_num hg n
    have hbd := (good_bd hg).1
    have h300 := good_300 hg
    cases hc : (nums L).contains n with
    | false =>
      rw [hc] at hcn
      have e : upR L n = ([], 131) := by unfold upR; rw [goodB_true hg, hc]; rfl
      rw [e]
      clear hbd hc e
      go_enter Try.func7, Try.ntmps7
      go_wp2_with fail
      refine cN.mono ?_
      rintro e w1 ⟨⟨_, rfl, hs⟩ | ⟨hg', _⟩, hb⟩
      · have cH := has_any hs n h0 h1
        rw [hcn] at cH
        clear cN hs hcn hg hrd
        go_wp2_with fail
        refine cH.mono ?_
        rintro e w2 ⟨rfl, hb2⟩
        go_wp2_with fail
        go_ret2
        exact ⟨_, rfl, World.ownsRow_nil _ _ _ _, chain hb hb2⟩
      · exact absurd hg hg'
    | true =>
      rw [hc] at hcn
      have e : upR L n = (ris L (upM L n), 0) := by unfold upR; rw [goodB_true hg, hc]; rfl
      rw [e]
      have hn := hbd n (by simpa [List.contains_eq_mem] using hc)
      obtain ⟨k, rfl⟩ := Int.eq_ofNat_of_zero_le (show 0 ≤ n by omega)
      have cA := fun W hb => above_any k (by omega) (hrd W hb) hg hok
      have cR := fun (W : World) (b : Nat) (hb : Below w.heap.size w W) hs => rising_any (m := upM L (k : Int)) (b := b) w.heap.size hb.size (hrd W hb) hs h300 hok
      clear hbd hc e hrd
      dsimp only
      go_enter Try.func7, Try.ntmps7
      go_wp2_with fail
      refine cN.mono ?_
      rintro e w1 ⟨⟨_, rfl, hs⟩ | ⟨hg', _⟩, hb⟩
      · have cH := has_any hs k h0 h1
        rw [hcn] at cH
        clear cN hs hcn hg
        go_wp2_with fail
        refine cH.mono ?_
        rintro e w2 ⟨rfl, hb2⟩
        have hb3 := chain hb hb2
        have cA' := cA w2 hb3
        clear cH hb hb2 cA
        go_wp2_with fail
        refine cA'.mono ?_
        rintro e w4 ⟨rfl, hs4, hb4⟩
        have hb5 := chain hb3 hb4
        have cR' := cR w4 _ hb5 hs4
        clear cA' hb3 hb4 cR
        go_wp2_with fail
        refine cR'.mono ?_
        rintro e w6 ⟨u, rfl, ho6, hb6⟩
        have HO : Hid (NewI w w6 u (ris L (upM L (k : Int)))) := ho6
        clear cR' ho6
        go_wp2_with fail
        go_ret2
        exact ⟨_, rfl, HO.out, chain hb5 hb6⟩
      · exact absurd hg hg'
  · have e : upR L n = ([], 130) := by unfold upR; rw [goodB_false hg]; rfl
    rw [e]
    clear e
    go_enter Try.func7, Try.ntmps7
    go_wp2_with fail
    refine cN.mono ?_
    rintro e w1 ⟨⟨hg', _⟩ | ⟨_, rfl⟩, hb⟩
    · exact absurd hg' hg
    · clear cN hg
      go_wp2_with fail
      go_ret2
      exact ⟨_, rfl, World.ownsRow_nil _ _ _ _, hb⟩

set_option maxRecDepth 20000 in
set_option maxHeartbeats 2000000 in
theorem Tips_any {w : World} {v : Value} {L : List Lk} (hv : RdL w v L) (hl : L.length ≤ maxLen) (hok : ∀ k ∈ L, k.Ok) :
    Calls Try.prog 11 #[v] w fun e w' => ∃ u, e = .returned u ∧ NewI w w' u (tipR L) ∧ Below w.heap.size w w' := by
  have cN := numbers_any hv hl hok
  have hrd : ∀ W, Below w.heap.size w W → RdL W v L := fun W ho => hv.below ho
  obtain ⟨ao, cp, rfl, _⟩ := hv
  by_cases hg : Good L
  · have e : tipR L = ris L (chl L (numS L)) := by unfold tipR; rw [goodB_true hg]; rfl
    rw [e]
    have cC := fun (W : World) (b : Nat) (hb : Below w.heap.size w W) hs => childless_any (m := numS L) (b := b) w.heap.size hb.size (hrd W hb) hs hg hok
    clear e hrd
    go_enter Try.func11, Try.ntmps11
    go_wp2_with fail
    refine cN.mono ?_
    rintro e w1 ⟨⟨_, rfl, hs⟩ | ⟨hg', _⟩, hb⟩
    · have cC' := cC w1 _ hb hs
      clear cN hs hg cC
      go_wp2_with fail
      refine cC'.mono ?_
      rintro e w6 ⟨u, rfl, ho6, hb6⟩
      have HO : Hid (NewI w w6 u (ris L (chl L (numS L)))) := ho6
      clear cC' ho6
      go_wp2_with fail
      go_ret
      exact ⟨_, rfl, HO.out, hb.trans (hb6.below hb.size (by simp))⟩
    · exact absurd hg hg'
  · have e : tipR L = [] := by unfold tipR; rw [goodB_false hg]; rfl
    rw [e]
    clear e
    go_enter Try.func11, Try.ntmps11
    go_wp2_with fail
    refine cN.mono ?_
    rintro e w1 ⟨⟨hg', _⟩ | ⟨_, rfl⟩, hb⟩
    · exact absurd hg' hg
    · clear cN hg
      go_wp2_with fail
      go_ret
      exact ⟨_, rfl, World.ownsRow_nil _ _ _ _, hb⟩

set_option maxRecDepth 20000 in
set_option maxHeartbeats 4000000 in
theorem Common_any {w : World} {v : Value} {L : List Lk} (a b : Int) (a0 : -9223372036854775808 ≤ a) (a1 : a ≤ 9223372036854775807) (b0 : -9223372036854775808 ≤ b) (b1 : b ≤ 9223372036854775807) (hv : RdL w v L) (hl : L.length ≤ maxLen) (hok : ∀ k ∈ L, k.Ok) :
    Calls Try.prog 9 #[v, .int .i64 a, .int .i64 b] w fun e w' => ∃ u, e = .returned (.tuple #[u, .int .i64 (coR L a b).2]) ∧ NewI w w' u (coR L a b).1 ∧ Below w.heap.size w w' := by
  have cN := numbers_any hv hl hok
  have hrd : ∀ W, Below w.heap.size w W → RdL W v L := fun W ho => hv.below ho
  obtain ⟨ao, cp, rfl, _⟩ := hv
  by_cases hg : Good L
  · have hca := inS_num hg a
    have hcb := inS_num hg b
    have hbd := (good_bd hg).1
    cases hc : (nums L).contains a with
    | false =>
      rw [hc] at hca
      have e : coR L a b = ([], 131) := by unfold coR; rw [goodB_true hg, hc]; rfl
      rw [e]
      clear hbd hc e hcb
      go_enter Try.func9, Try.ntmps9
      go_wp2_with fail
      refine cN.mono ?_
      rintro e w1 ⟨⟨_, rfl, hs⟩ | ⟨hg', _⟩, hb⟩
      · have cH := has_any hs a a0 a1
        rw [hca] at cH
        clear cN hs hca hg hrd
        go_wp2_with fail
        refine cH.mono ?_
        rintro e w2 ⟨rfl, hb2⟩
        clear cH
        go_wp2_with fail
        go_ret2
        exact ⟨_, rfl, World.ownsRow_nil _ _ _ _, chain hb hb2⟩
      · exact absurd hg hg'
    | true =>
      rw [hc] at hca
      cases hd : (nums L).contains b with
      | false =>
        rw [hd] at hcb
        have e : coR L a b = ([], 131) := by unfold coR; rw [goodB_true hg, hc, hd]; rfl
        rw [e]
        clear hbd hc e hd
        go_enter Try.func9, Try.ntmps9
        go_wp2_with fail
        refine cN.mono ?_
        rintro e w1 ⟨⟨_, rfl, hs⟩ | ⟨hg', _⟩, hb⟩
        · have cH := has_any hs a a0 a1
          rw [hca] at cH
          clear cN hca hg hrd
          go_wp2_with fail
          refine cH.mono ?_
          rintro e w2 ⟨rfl, hb2⟩
          have cH2 := has_any (hs.below hb2) b b0 b1
          rw [hcb] at cH2
          clear cH hs hcb
          go_wp2_with fail
          refine cH2.mono ?_
          rintro e w3 ⟨rfl, hb3⟩
          clear cH2
          go_wp2_with fail
          go_ret2
          exact ⟨_, rfl, World.ownsRow_nil _ _ _ _, chain (chain hb hb2) hb3⟩
        · exact absurd hg hg'
      | true =>
        rw [hd] at hcb
        have e : coR L a b = (ris L (chl L (comM L a b)), 0) := by unfold coR; rw [goodB_true hg, hc, hd]; rfl
        rw [e]
        have ha := hbd a (by simpa [List.contains_eq_mem] using hc)
        have hb' := hbd b (by simpa [List.contains_eq_mem] using hd)
        obtain ⟨x, rfl⟩ := Int.eq_ofNat_of_zero_le (show 0 ≤ a by omega)
        obtain ⟨y, rfl⟩ := Int.eq_ofNat_of_zero_le (show 0 ≤ b by omega)
        have cA := fun W hb => above_any x (by omega) (hrd W hb) hg hok
        have cB := fun W hb => above_any y (by omega) (hrd W hb) hg hok
        have cC := fun (W : World) (c : Nat) (hb : Below w.heap.size w W) hs => childless_any (m := comM L (x : Int) (y : Int)) (b := c) w.heap.size hb.size (hrd W hb) hs hg hok
        clear hbd hc e hrd hd
        dsimp only
        go_enter Try.func9, Try.ntmps9
        go_wp2_with fail
        refine cN.mono ?_
        rintro e w1 ⟨⟨_, rfl, hs⟩ | ⟨hg', _⟩, hb⟩
        · have cH := has_any hs x a0 a1
          rw [hca] at cH
          clear cN hca hg
          go_wp2_with fail
          refine cH.mono ?_
          rintro e w2 ⟨rfl, hb2⟩
          have cH2 := has_any (hs.below hb2) y b0 b1
          rw [hcb] at cH2
          clear cH hs hcb
          go_wp2_with fail
          refine cH2.mono ?_
          rintro e w3 ⟨rfl, hb3⟩
          have hb4 := chain (chain hb hb2) hb3
          have cA' := cA w3 hb4
          clear cH2 cA hb hb2 hb3
          go_wp2_with fail
          refine cA'.mono ?_
          rintro e w5 ⟨rfl, hs5, hb5⟩
          have hb6 := chain hb4 hb5
          have cB' := cB w5 hb6
          clear cA' cB hb4 hb5
          go_wp2_with fail
          refine cB'.mono ?_
          rintro e w7 ⟨rfl, hs7, hb7⟩
          have hb8 := chain hb6 hb7
          have cD := and_any (hs5.below hb7) hs7
          clear cB' hb6 hb7 hs5 hs7
          go_wp2_with fail
          refine cD.mono ?_
          rintro e w9 ⟨rfl, hs9, hb9⟩
          have hb10 := chain hb8 hb9
          have cC' := cC w9 _ hb10 hs9
          have hlt : w.heap.size ≤ w7.heap.size := hb8.size
          clear cD cC hb8 hb9 hs9
          go_wp2_with fail
          refine cC'.mono ?_
          rintro e w11 ⟨u, rfl, ho, hO⟩
          have HO : Hid (NewI w w11 u (ris L (chl L (comM L (x : Int) (y : Int))))) := ho
          clear cC' ho
          go_wp2_with fail
          go_ret2
          exact ⟨_, rfl, HO.out, hb10.trans (hO.below hb10.size (by simp; omega))⟩
        · exact absurd hg hg'
  · have e : coR L a b = ([], 130) := by unfold coR; rw [goodB_false hg]; rfl
    rw [e]
    clear e
    go_enter Try.func9, Try.ntmps9
    go_wp2_with fail
    refine cN.mono ?_
    rintro e w1 ⟨⟨hg', _⟩ | ⟨_, rfl⟩, hb⟩
    · exact absurd hg' hg
    · clear cN hg
      go_wp2_with fail
      go_ret2
      exact ⟨_, rfl, World.ownsRow_nil _ _ _ _, hb⟩
end Go.Proofs.Ytdpkcmagegiadaa
