/-
  What is above a commit: links backward, and the contract of above.
-/
import Derived.Test.YthhdpabelcgfjaaEgE
import Derived.RangeFuncNested
import Derived.RangeFuncBound
import Derived.RangeFuncCalls
import Derived.RangeFuncLeaves
import Derived.RangeFuncBox
import Derived.Shelf.Abstract
import Derived.Shelf.RegionOpen
import Derived.OwnWalkIn
import Derived.TacticsInMore
import Derived.LoopNIn
import Derived.LoopIn
namespace Go.Proofs.Ythhdpabelcgfjaa.dg
open Go.Maps Go.WideShapes Go.RowKit Go.ChangeShapes Go.ChangeAt Go.PlainAid Go.Shelf
attribute [local go_sem] Oper.semAt_some

/-- A place of a link. -/
abbrev Pl (L : List Lk) := { i : Nat // i < L.length }
/-- The places from r on have come, backward. -/
def Dn (L : List Lk) (r : Nat) (pre : List (Pl L)) : Prop := pre.map (·.1) = ((List.range L.length).drop r).reverse
theorem Dn.start (L : List Lk) : Dn L L.length [] := by simp [Dn]
theorem Dn.step {L : List Lk} {q : Nat} {pre : List (Pl L)} (h : Dn L (q + 1) pre) (hq : q < L.length) : Dn L q (pre ++ [⟨q, hq⟩]) := by
  unfold Dn at *
  rw [List.map_append, h, List.drop_eq_getElem_cons (i := q) (by simpa using hq), List.reverse_cons]
  simp
theorem Dn.len {L : List Lk} {r : Nat} {pre : List (Pl L)} (h : Dn L r pre) : pre.length = L.length - r := by
  have := congrArg List.length h
  simpa using this

/-- A link's value. -/
def lkV (L : List Lk) (p : Nat → Option Addr × Nat) (i : Pl L) : Value := .agg #[.int .i64 L[i.1].num, .slice (p i.1).1 L[i.1].ps.length (p i.1).2]
/-- How links lie, place by place. -/
structure LiesL (n₀ : Nat) (W : World) (ao : Option Addr) (L : List Lk) (p : Nat → Option Addr × Nat) : Prop where
  lie : ∀ i (h : i < L.length), ∃ b off, ao = some ⟨b, off, none⟩ ∧ b < n₀ ∧ W.cell? ⟨b, off + i * 2, none⟩ = some (.int .i64 L[i].num) ∧ W.cell? ⟨b, off + i * 2 + 1, none⟩ = some (.slice (p i).1 L[i].ps.length (p i).2) ∧ RdI W (.slice (p i).1 L[i].ps.length (p i).2) L[i].ps
theorem LiesL.below {W W' : World} {ao : Option Addr} {L : List Lk} {p : Nat → Option Addr × Nat} (h : LiesL W.heap.size W ao L p) (hb : Below W.heap.size W W') : LiesL W.heap.size W' ao L p :=
  ⟨fun i hi => by
    obtain ⟨b, off, e1, e2, e3, e4, e5⟩ := h.lie i hi
    exact ⟨b, off, e1, e2, (hb.cell (p := ⟨b, off + i * 2, none⟩) e2).trans e3, (hb.cell (p := ⟨b, off + i * 2 + 1, none⟩) e2).trans e4, e5.below hb⟩⟩
theorem lies_of {W : World} {ao : Option Addr} {len cp : Nat} {L : List Lk} (h : RdL W (.slice ao len cp) L) : len = L.length ∧ ∃ p, LiesL W.heap.size W ao L p := by
  obtain ⟨_, _, e, _, hc⟩ := h
  cases e
  refine ⟨rfl, ?_⟩
  have key : ∀ i : Nat, ∃ p : Option Addr × Nat, ∀ (h : i < L.length), ∃ b off, ao = some ⟨b, off, none⟩ ∧ b < W.heap.size ∧ W.cell? ⟨b, off + i * 2, none⟩ = some (.int .i64 L[i].num) ∧ W.cell? ⟨b, off + i * 2 + 1, none⟩ = some (.slice p.1 L[i].ps.length p.2) ∧ RdI W (.slice p.1 L[i].ps.length p.2) L[i].ps := by
    intro i
    by_cases h : i < L.length
    · obtain ⟨b, off, pv, e1, e2, e3, e4, e5⟩ := hc i L[i] (by simp [h])
      obtain ⟨a, c, rfl, _⟩ := id e5
      exact ⟨(a, c), fun _ => ⟨b, off, e1, e2, e3, e4, e5⟩⟩
    · exact ⟨(none, 0), fun h' => absurd h' h⟩
  obtain ⟨p, hp⟩ := Classical.skolem.1 key
  exact ⟨p, ⟨fun i hi => hp i hi⟩⟩

/-- What a round keeps: what lay below, and the box of the links' value. -/
def Kp (n₀ Bs : Nat) (sv : Value) (A B : World) : Prop := Below n₀ A B ∧ (Boxed A Bs 37 sv → Boxed B Bs 37 sv)
theorem Kp.refl (n₀ Bs : Nat) (sv : Value) (A : World) : Kp n₀ Bs sv A A := ⟨Below.refl _ _, id⟩
theorem Kp.trans {n₀ Bs : Nat} {sv : Value} {A B C : World} (h : Kp n₀ Bs sv A B) (k : Kp n₀ Bs sv B C) : Kp n₀ Bs sv A C := ⟨h.1.trans k.1, fun x => k.2 (h.2 x)⟩

set_option maxRecDepth 100000 in
set_option maxHeartbeats 2000000 in
theorem back1_in (n : Nat) (hn : 1 ≤ n) (l Bs n₀ : Nat) (ao : Option Addr) (cp : Nat) (L : List Lk) (p : Nat → Option Addr × Nat) (hl : L.length ≤ 300) (J Jx : List (Pl L) → World → Prop)
    (hY : ∀ pre x W, J pre W → pre.length < L.length → YieldAt Fence.wide (n - 1) Try.prog l #[.int .i64 (x.1 : Int), lkV L p x] W fun e W' =>
      (e = .returned (.bool true) ∧ J (pre ++ [x]) W' ∧ Kp n₀ Bs (.slice ao L.length cp) W W') ∨ (e = .returned (.bool false) ∧ Jx (pre ++ [x]) W'))
    (W : World) (hBs : Boxed W Bs 37 (.slice ao L.length cp)) (hc : ∀ W', Below n₀ W W' → LiesL n₀ W' ao L p) (h0 : J [] W) :
    CallsIn Fence.wide n Try.prog 52 #[.func (.yield l) #[] #[], .pointer (some ⟨Bs, 0, none⟩)] W fun e W' => (∃ v, e = .returned v) ∧
      ((∃ ys, Dn L 0 ys ∧ J ys W') ∨ (∃ pre, True ∧ Jx pre W')) := by
  have hB0 := hBs.cell
  refine callsIn_of_wp Try.func52 rfl trivial ?_ rfl
  simp only [Try.ntmps52, List.size_toArray, List.length_cons, List.length_nil, Nat.reduceAdd, Nat.reduceSub, Array.replicate_succ, Array.replicate_zero, List.push_toArray, List.append_toArray, List.nil_append, List.cons_append]
  gi_wp2
  gi_loopw [3] (fun i wr => ∃ (r : Nat) (pre : List (Pl L)), r ≤ L.length ∧ i = .int .i64 ((r : Int) - 1) ∧ Dn L r pre ∧ J pre wr ∧ Below n₀ W wr ∧ Boxed wr Bs 37 (.slice ao L.length cp)) (fun i _ => (Go.RowKit.intOf i + 1).toNat)
  case atStart => exact ⟨L.length, [], Nat.le_refl _, rfl, Dn.start L, h0, Below.refl _ _, hBs⟩
  case round =>
    obtain ⟨r, pre, hr, rfl, hD, hJs, hb, hbx⟩ := hrel
    have hB1 := hbx.cell
    clear hB0
    cases r with
    | zero =>
      gi_wp2
      go_end0
      exact ⟨⟨_, rfl⟩, .inl ⟨pre, hD, hJs⟩⟩
    | succ q =>
      have hq : q < L.length := by omega
      have hlen := hD.len
      have e1 : ((q + 1 : Nat) : Int) - 1 = (q : Int) := by omega
      rw [e1]
      obtain ⟨fn, tmps, assign, body, hy, hR⟩ := hY pre ⟨q, hq⟩ wr hJs (by omega)
      obtain ⟨b, off, rfl, hb0, c0, c1, _⟩ := (hc wr hb).lie q hq
      have hq1 : (0 : Int) ≤ (q : Int) := by omega
      have hq2 : (q : Int) < (L.length : Int) := by omega
      unfold lkV at hy
      dsimp only at hy
      clear e1 hc hY
      gi_wp2
      refine hR.mono ?_
      rintro e W3 (⟨rfl, hJ3, hk3⟩ | ⟨rfl, hJx3⟩)
      · gi_wp2
        exact ⟨⟨q, pre ++ [⟨q, hq⟩], by omega, by go_num, hD.step hq, hJ3, hb.trans hk3.1, hk3.2 hbx⟩, by simp only [Go.RowKit.intOf]; omega⟩
      · gi_wp2
        refine bodyPost_ret (results_none rfl _ _ _) rfl ?_
        exact ⟨⟨_, rfl⟩, .inr ⟨_, trivial, hJx3⟩⟩

set_option maxHeartbeats 1000000 in
theorem back_in (n : Nat) (a : Option Addr) (len cap : Nat) (w : World) :
    CallsIn Fence.wide n Try.prog 46 #[.slice a len cap] w fun e w' => e = .returned (.func (.func 52) #[] #[.pointer (some ⟨w.heap.size, 0, none⟩)]) ∧ w' = w.alloc (.cells #[.slice a len cap] 37) := by
  refine callsIn_of_wp Try.func46 rfl trivial ?_ rfl
  simp only [Try.ntmps46, List.size_toArray, List.length_cons, List.length_nil, Nat.reduceAdd, Nat.reduceSub, Array.replicate_succ, Array.replicate_zero, List.push_toArray, List.append_toArray, List.nil_append, List.cons_append]
  gi_wp2
  go_ret
  exact ⟨rfl, rfl⟩

theorem back_stops (n : Nat) (hn : 1 ≤ n) (Bs n₀ : Nat) (ao : Option Addr) (cp : Nat) (L : List Lk) (p : Nat → Option Addr × Nat) (hl : L.length ≤ 300) (w : World) (hBs : Boxed w Bs 37 (.slice ao L.length cp)) (hn₀ : n₀ ≤ w.heap.size) (hc : ∀ W', Below n₀ w W' → LiesL n₀ W' ao L p) :
    SeqStopsK Fence.wide n Try.prog 52 #[.pointer (some ⟨Bs, 0, none⟩)] (fun x : Pl L => #[Value.int .i64 (x.1 : Int), lkV L p x]) (Kp n₀ Bs (.slice ao L.length cp)) (Dn L 0) (fun _ => True) L.length w := fun l J Jx W hW _ _ hY h0 =>
  back1_in n hn l Bs n₀ ao cp L p hl J Jx hY W ((hW.block Bs (heap_lt hBs)).trans hBs) (fun W' hb => hc W' ((hW.mono hn₀).trans hb)) h0

/-- One link of above's loop. -/
def stepU (m : Nat → Bool) (k : Lk) : Nat → Bool := if inS m k.num then putL m k.ps else m
def upI (L : List Lk) (m : Nat → Bool) (is : List Nat) : Nat → Bool := is.foldl (fun m i => match L[i]? with | some k => stepU m k | none => m) m
theorem upI_snoc (L : List Lk) (m : Nat → Bool) (is : List Nat) (i : Nat) (h : i < L.length) : upI L m (is ++ [i]) = stepU (upI L m is) L[i] := by
  unfold upI
  rw [List.foldl_append]
  simp [h]
/-- What is above a number, as marks. -/
def upM (L : List Lk) (n : Int) : Nat → Bool := L.foldr (fun k m => stepU m k) (putL (fun _ => false) [n])
theorem upI_all (L : List Lk) (m : Nat → Bool) : upI L m (List.range L.length).reverse = L.foldr (fun k m => stepU m k) m := by
  unfold upI
  rw [List.foldl_reverse]
  have key : ∀ r, r ≤ L.length → ((List.range L.length).drop (L.length - r)).foldr (fun i m => match L[i]? with | some k => stepU m k | none => m) m = (L.drop (L.length - r)).foldr (fun k m => stepU m k) m := by
    intro r
    induction r with
    | zero => intro _; rw [Nat.sub_zero, List.drop_length, List.drop_eq_nil_of_le (by simp)]; rfl
    | succ r ih =>
      intro hr
      have e : L.length - r = L.length - (r + 1) + 1 := by omega
      have hi : L.length - (r + 1) < L.length := by omega
      have := ih (by omega)
      rw [e] at this
      rw [List.drop_eq_getElem_cons (l := List.range L.length) (by simpa using hi), List.drop_eq_getElem_cons (l := L) hi, List.foldr_cons, List.foldr_cons, this]
      simp [hi]
  have := key L.length (Nat.le_refl _)
  simpa using this

theorem box_own {W W' : World} {B p : Nat} {n : Int} {pv : Value} {row : Option Nat} (h : Box W p n pv) (hg : W.grownBy W' row) (hr : ∀ r, row = some r → B ≤ r ∧ ∃ o : Obj, W.heap[r]? = some o ∧ o.isCells = false) : Box W' p n pv := by
  refine (hg.block p (heap_lt h) (fun e => ?_)).trans h
  obtain ⟨_, o, ho, hc⟩ := hr p e.symm
  rw [h] at ho
  cases ho
  cases hc
theorem boxed_only {W W' : World} {S : List Nat} {p : Nat} {t : TypeId} {v : Value} (h : Boxed W p t v) (ho : Only S W W') (hp : p ∉ S) : Boxed W' p t v := only_heap h ho hp
theorem kp_below {n₀ Bs : Nat} {sv : Value} {A B : World} (hb : Below A.heap.size A B) (hn : n₀ ≤ A.heap.size) : Kp n₀ Bs sv A B := ⟨hb.mono hn, fun h => (hb.block Bs (heap_lt h)).trans h⟩
theorem kp_only {n₀ Bs g : Nat} {sv : Value} {A B : World} (ho : Only [g] A B) (hn : n₀ ≤ A.heap.size) (hg : n₀ ≤ g) (hne : Bs ≠ g) : Kp n₀ Bs sv A B := ⟨ho.below hn (by simp [hg]), fun h => boxed_only h ho (by simp [hne])⟩
theorem keeps_below {C : Nat} {A B : World} (hb : Below A.heap.size A B) : KeepsFrom C A B := KeepsFrom.of_grownBy (grown_of_below hb) (by simp)
theorem keeps_only {C g : Nat} {A B : World} (ho : Only [g] A B) (hg : g < C) : KeepsFrom C A B := KeepsFrom.of_grownBy (grown_of_only ho) (by simp [hg])

set_option maxRecDepth 100000 in
set_option maxHeartbeats 4000000 in
theorem above_any {w : World} {v : Value} {L : List Lk} (n : Nat) (h1 : n < 512) (hv : RdL w v L) (hg : Good L) (hok : ∀ k ∈ L, k.Ok) :
    Calls Try.prog 32 #[v, .int .i64 (n : Int)] w fun e w' => e = .returned (.map (some w.heap.size)) ∧ IsSet w' w.heap.size (upM L (n : Int)) ∧ Below w.heap.size w w' := by
  have hl := good_300 hg
  have hps := good_ps hg
  have htw : ∀ i (h : i < L.length), L[i].ps.length ≤ 2 := fun i h => (hg i h).two
  obtain ⟨ao, cp, rfl, _⟩ := id hv
  obtain ⟨_, p, hp⟩ := lies_of hv
  have hmm := @run_makeMap Try.prog
  clear hv hg
  have hM0 : IsSet (w.alloc (.map #[] 0)) w.heap.size (fun _ => false) := by
    have := World.ownsMap_made (H := Unit) w Try.prog 3 unitElem
    rw [← SD_none] at this
    exact tightS this
  have hb3 : Below w.heap.size w (((w.alloc (.map #[] 0)).alloc (.cells #[.map (some w.heap.size)] 68)).alloc (.cells #[.int .i64 (n : Int)] 3)) := (((Below.refl _ _).alloc (Nat.le_refl _) _).alloc (by simp) _).alloc (by simp; omega) _
  have hM3 : IsSet (((w.alloc (.map #[] 0)).alloc (.cells #[.map (some w.heap.size)] 68)).alloc (.cells #[.int .i64 (n : Int)] 3)) w.heap.size (fun _ => false) := (hM0.only (Only.alloc [] _ _) (by simp)).only (Only.alloc [] _ _) (by simp)
  have hX3 : Boxed (((w.alloc (.map #[] 0)).alloc (.cells #[.map (some w.heap.size)] 68)).alloc (.cells #[.int .i64 (n : Int)] 3)) (w.heap.size + 1) 68 (.map (some w.heap.size)) := by
    have := (Boxed.new (w.alloc (.map #[] 0)) 68 (.map (some w.heap.size))).alloc (.cells #[.int .i64 (n : Int)] 3)
    simpa using this
  have hrd := one_rdi ((w.alloc (.map #[] 0)).alloc (.cells #[.map (some w.heap.size)] 68)) (n : Int)
  have cP := put_any hM3 hrd (by simp) (by intro x hx; simp at hx; omega)
  simp only [World.size_alloc] at cP hrd
  refine (callsIn_wide (n := 6)).1 ?_
  refine callsIn_of_wp_marks Try.func32 rfl trivial ?_ rfl
  simp only [Try.ntmps32, List.size_toArray, List.length_cons, List.length_nil, Nat.reduceAdd, Nat.reduceSub, Array.replicate_succ, Array.replicate_zero, List.push_toArray, List.append_toArray, List.nil_append, List.cons_append]
  gi_wp2
  refine ⟨trivial, (callsIn_wide.2 cP).mono ?_⟩
  rintro e w1 ⟨rfl, hS1, hO1⟩
  have hX1 := boxed_only hX3 hO1 (by simp)
  have hB1 : Below w.heap.size w w1 := hb3.trans (hO1.below hb3.size (by simp))
  have hz1 : w.heap.size + 3 ≤ w1.heap.size := by have := hO1.size; simp at this; omega
  clear hmm hM0 hb3 hM3 hX3 hrd cP hO1
  gi_wp2
  refine ⟨trivial, (back_in _ _ _ _ _).mono ?_⟩
  rintro e w' ⟨rfl, rfl⟩
  gi_wp2
  have hbA : Below w1.heap.size w1 (w1.alloc (.cells #[.slice ao L.length cp] 37)) := (Below.refl _ _).alloc (Nat.le_refl _) _
  have hS0 := hS1.below hbA
  have hX0 := boxed_only hX1 (Only.of_below (S := []) hbA) (by simp)
  have hB0 := hB1.trans (hbA.mono hB1.size)
  have hL0 := Boxed.new w1 37 (.slice ao L.length cp)
  have hz0 : (w1.alloc (.cells #[.slice ao L.length cp] 37)).heap.size = w1.heap.size + 1 := by simp
  have hc0 : ∀ W', Below w.heap.size (w1.alloc (.cells #[.slice ao L.length cp] 37)) W' → LiesL w.heap.size W' ao L p := fun W' hb => hp.below (hB0.trans hb)
  clear hS1 hX1 hbA
  obtain ⟨W0, hW0⟩ : ∃ W0, w1.alloc (.cells #[.slice ao L.length cp] 37) = W0 := ⟨_, rfl⟩
  rw [hW0] at hS0 hX0 hB0 hL0 hz0 hc0 ⊢
  clear hW0
  refine wpIn_rangeFunc_ownH rfl (by omega) (gf := 52) (lb := #[.pointer (some ⟨w1.heap.size, 0, none⟩)]) rfl trivial (enters_of Try.func52 (by kernel_rfl) rfl)
    (back_stops (6 - 1) (by omega) w1.heap.size w.heap.size ao cp L p hl W0 hL0 hB0.size hc0) Kp.trans
    (fun W l o o' hwl h1 h2 h3 => ⟨belowK_b hB0.size W l o o' hwl h1 h2 h3, fun hb => ?_⟩) (Below.refl _ _) (fun _ => rfl)
    (fun pre W => (IsSet W w.heap.size (upI L (putL (fun _ => false) [(n : Int)]) (pre.map (·.1))) ∧ Boxed W (w.heap.size + 1) 68 (.map (some w.heap.size))) ∧ Below w.heap.size w W)
    (fun _ _ _ => False)
    (OwnFrom.and (OwnFrom.and (fun s A B row hs hg hr => World.ownsMap.kept hs hg (fun e => by have := (hr _ e.symm).1; omega)) (Own.from (boxed_own _ _ _) _)) (ownFrom_below (Nat.le_refl _) (by omega)))
    (fun _ _ _ _ _ hs _ _ => hs)
    ⟨⟨hS0, hX0⟩, hB0⟩
    (fun x a' W => ∃ Bx, Box W Bx L[x.1].num (.slice (p x.1).1 L[x.1].ps.length (p x.1).2) ∧ a' = { tmps := #[.slice ao L.length cp, .int .i64 (n : Int), undef, undef, .map none, .pointer (some ⟨w.heap.size + 1, 0, none⟩), undef, .pointer (some ⟨Bx, 0, none⟩), .map (some w.heap.size), .map (some w.heap.size), .int .i64 (n : Int), .slice (some ⟨w.heap.size + 1 + 1, 0, none⟩) 1 1, .tuple #[], .slice ao L.length cp, .func (.func 52) #[] #[.pointer (some ⟨w1.heap.size, 0, none⟩)], .int .i64 (x.1 : Int), lkV L p x, undef, undef, undef, undef, undef, undef, undef, undef, undef], defers := [] })
    (fun x a' _ X Y row hs hg hr => by obtain ⟨Bx, h2, h3⟩ := hs; exact ⟨Bx, box_own h2 hg hr, h3⟩)
    ?assign ?body ?done ?stop
  · refine (grownBy_putObj' W l o').block _ (heap_lt hb) (fun e => ?_) |>.trans hb
    cases e
    rw [hb] at h1
    cases h1
    cases h2
  case assign =>
    rintro l pre x W K ⟨⟨hS, hX⟩, hB⟩ hK
    unfold lkV
    gi_wp2
    have hbA := (Below.refl W.heap.size W).alloc (Nat.le_refl _) (.cells #[.int .i64 L[x.1].num, .slice (p x.1).1 L[x.1].ps.length (p x.1).2] 42)
    exact hK _ _ (keeps_below hbA) (kp_below hbA hB.size) ⟨⟨hS.below hbA, boxed_only hX (Only.of_below (S := []) hbA) (by simp)⟩, hB.trans (hbA.mono hB.size)⟩ ⟨W.heap.size, Box.new W _ _, rfl⟩
  case body =>
    rintro l pre x a' W hl' ⟨r, hr⟩ ⟨⟨hS, hX⟩, hB⟩ ⟨Bx, hBx, rfl⟩ hlt
    have cX := hX.cell
    have x0 := hBx.c0
    have hkO := hok L[x.1] (by simp)
    have hkp := hps L[x.1] (by simp)
    obtain ⟨_, _, _, _, _, _, hrd⟩ := (hp.below hB).lie x.1 x.2
    have HU : Hid (upI L (putL (fun _ => false) [(n : Int)]) ((pre ++ [x]).map (·.1)) = stepU (upI L (putL (fun _ => false) [(n : Int)]) (pre.map (·.1))) L[x.1]) := by
      show _ = _
      rw [List.map_append, List.map_singleton, upI_snoc _ _ _ _ x.2]
    have cH := has_any hS L[x.1].num hkO.n0 hkO.n1
    have hpl : Hid (L[x.1].ps.length ≤ 4611686018427387904) := Nat.le_trans (htw x.1 x.2) (by decide)
    clear hc0 hp hok hps hkO
    generalize upI L (putL (fun _ => false) [(n : Int)]) (pre.map (·.1)) = M at *
    have hBn : w.heap.size ≤ W.heap.size := hB.size
    have h5 : 1 ≤ 6 - 1 - 1 := by omega
    cases hc : inS M L[x.1].num with
    | false =>
      rw [hc] at cH
      have HU' : Hid (upI L (putL (fun _ => false) [(n : Int)]) ((pre ++ [x]).map (·.1)) = M) := by show _ = _; rw [HU.out, stepU, hc]; simp
      clear HU hc
      gi_wp2
      refine ⟨trivial, (CallsIn.inRound l (callsIn_wide.2 cH)).mono ?_⟩
      rintro e w2 ⟨rfl, hb2⟩
      gi_wp2
      exact ⟨keeps_below hb2, kp_below hb2 hBn, ⟨by rw [HU'.out]; exact hS.below hb2, boxed_only hX (Only.of_below (S := []) hb2) (by simp)⟩, hB.trans (hb2.mono hBn)⟩
    | true =>
      rw [hc] at cH
      have HU' : Hid (upI L (putL (fun _ => false) [(n : Int)]) ((pre ++ [x]).map (·.1)) = putL M L[x.1].ps) := by show _ = _; rw [HU.out, stepU, hc]; simp
      clear HU hc
      gi_wp2
      refine ⟨trivial, (CallsIn.inRound l (callsIn_wide.2 cH)).mono ?_⟩
      rintro e w2 ⟨rfl, hb2⟩
      have hX2 := boxed_only hX (Only.of_below (S := []) hb2) (by simp)
      have cX2 := hX2.cell
      have y1 := (hBx.below hb2).c1
      have hS2 := hS.below hb2
      have cP := put_any hS2 (hrd.below hb2) hpl.out hkp
      have hB2 := hB.trans (hb2.mono hBn)
      clear hX hBx hS hrd cH cX x0
      gi_wp2
      refine ⟨trivial, (CallsIn.inRound l (callsIn_wide.2 cP)).mono ?_⟩
      rintro e w3 ⟨rfl, hS3, hO3⟩
      gi_wp2
      exact ⟨(keeps_below hb2).trans (keeps_only hO3 (by omega)), (kp_below hb2 hBn).trans (kp_only hO3 hB2.size (Nat.le_refl _) (by omega)), ⟨by rw [HU'.out]; exact hS3, boxed_only hX2 hO3 (by simp)⟩, hB2.trans (hO3.below hB2.size (by simp))⟩
  case done =>
    rintro D zs W hD hDn ⟨⟨hS, hX⟩, hB⟩ hK
    have cX := hX.cell
    have HS : Hid (IsSet W w.heap.size (upM L (n : Int))) := by
      unfold Dn at hDn
      rw [hDn, List.drop_zero, upI_all] at hS
      exact hS
    clear hS hc0 hDn
    gi_wp2
    refine ⟨by simp, .inl ⟨_, _, rfl, run_takeDeferred hK, ?_⟩⟩
    refine ⟨_, results_tmp rfl _ _ _, rfl, World.ownsMap.kept HS.out (grownBy_putObj' W D (.deferred none)) (fun e => by simp at e; omega), hB.trans (belowK_b (w := w) (Nat.le_refl _) W D _ _ (by omega) hK rfl rfl)⟩
  case stop =>
    rintro D c pre W _ _ h _
    exact h.elim
end Go.Proofs.Ythhdpabelcgfjaa.dg
