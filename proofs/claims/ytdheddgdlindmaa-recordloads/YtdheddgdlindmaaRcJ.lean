/-
  record's reader: counted numbers.
-/
import Derived.Test.YtdheddgdlindmaaRcI
namespace Go.Proofs.Ytdheddgdlindmaa
open Go.ChangeShapes Go.WideShapes Go.ChangeAt Go.RowKit Go.PlainAid

/-- Reading numbers till one is not there. -/
def rcG (s : ByteArray) : Nat → Int → Bool → List Int × Int × Bool
  | 0, a, f => ([], a, f)
  | k + 1, a, f => match f with
    | true => ([], a, true)
    | false => ((rnF s a false).1 :: (rcG s k (rnF s a false).2.1 (rnF s a false).2.2).1, (rcG s k (rnF s a false).2.1 (rnF s a false).2.2).2)
/-- counted. -/
def rcF (s : ByteArray) (a : Int) (f : Bool) : List Int × Int × Bool := rcG s (rnF s a f).1.toNat (rnF s a f).2.1 (rnF s a f).2.2
theorem rcG_t (s : ByteArray) (k : Nat) (a : Int) : rcG s k a true = ([], a, true) := by cases k <;> rfl
theorem rn_bd (s : ByteArray) (a : Int) (f : Bool) : 0 ≤ (rnF s a f).1 ∧ (rnF s a f).1 ≤ 1125899906842624 := by
  cases f with
  | true => exact ⟨Int.le_refl _, by show (0 : Int) ≤ _; decide⟩
  | false =>
    simp only [rnF]
    rcases pk.tk_cases s a 1125899906842624 with ⟨n, p, hr, hn, -⟩ | ⟨er, hr, -⟩
    · rw [hr]; exact ⟨by simp, hn⟩
    · rw [hr]; exact ⟨Int.le_refl _, by show (0 : Int) ≤ _; decide⟩
/-- Where a number was read, it goes on; not behind the end. -/
theorem rn_at {s : ByteArray} {a : Int} (h : (rnF s a false).2.2 = false) : a < (rnF s a false).2.1 ∧ (rnF s a false).2.1 ≤ s.size := by
  simp only [rnF] at h ⊢
  rcases pk.tk_cases s a 1125899906842624 with ⟨n, p, hr, -, h1, h2, -⟩ | ⟨er, hr, he⟩
  · rw [hr]; exact ⟨h1, by simp only; omega⟩
  · rw [hr] at h
    simp at h
    omega
theorem Try.infoIntR : (Try.prog.info? 3).map (fun i => (i.zero, i.size, i.bytes)) = some (some (.int .i64 0), 1, 8) := by kernel_rfl
def ivs (l : List Int) : List Value := l.map (Value.int .i64)
theorem rdi_own {W : World} {B : Nat} {v : Value} {l : List Int} (h : W.ownsRow B 3 1 v l.length (ivs l)) : RdI W v l := by
  rcases h.2 with ⟨rfl, h0⟩ | ⟨g, cap, cur, rfl, _, hg, -⟩
  · have : l = [] := List.length_eq_zero_iff.1 h0
    subst this
    exact RdI.nil W
  · refine ⟨_, _, rfl, fun i o hi => ⟨g, 0, rfl, heap_lt hg, ?_⟩⟩
    have q := h.cells (g := g) rfl i (.int .i64 o) (by simp [ivs, hi])
    have hadd : (⟨g, 0, none⟩ : Addr).add i = ⟨g, i, none⟩ := by unfold Addr.add; split <;> simp_all
    rw [hadd] at q
    rw [Nat.zero_add]
    exact q
def lenV : Value → Nat
  | .slice _ n _ => n
  | _ => 0
theorem gq_own {w W W' : World} {q : Nat} {o : Option Nat} (h : w.grownBy W (some q)) (hg : W.grownBy W' o) (hv : ∀ j, o = some j → w.heap.size ≤ j) : w.grownBy W' (some q) :=
  ⟨hg.os.trans h.os, hg.tape.trans h.tape, hg.output.trans h.output, Nat.le_trans h.size hg.size, fun i hi hn => (hg.block i (Nat.lt_of_lt_of_le hi h.size) (fun e => by have := hv i e.symm; omega)).trans (h.block i hi hn)⟩
theorem one_intR (n : Int) : ∀ u ∈ [Value.int .i64 n], u.oneCell' = true := by
  intro u hu
  simp at hu
  subst hu
  rfl
set_option maxRecDepth 20000 in
set_option maxHeartbeats 2000000 in
theorem rcountQ_any (q : Nat) (s : ByteArray) (a : Int) (f : Bool) (w : World) (h : RQ w q s a f) (hs : s.size ≤ 1099511627776) :
    Calls Try.prog 61 #[.pointer (some ⟨q, 0, none⟩)] w fun e w' => ∃ u, e = .returned u ∧ w'.ownsRow w.heap.size 3 1 u (rcF s a f).1.length (ivs (rcF s a f).1) ∧ RQ w' q s (rcF s a f).2.1 (rcF s a f).2.2 ∧ w.grownBy w' (some q) := by
  obtain ⟨i0, hin, hz0, hz1, hz2⟩ := info_parts Try.infoIntR
  have hsm : s.size ≤ maxLen := by unfold maxLen; omega
  have c1 := rnumQ_any q s a f w h hsm
  have cN := fun a f W (h : RQ W q s a f) => rnumQ_any q s a f W h hsm
  have hqw := heap_lt h
  obtain ⟨R, HR⟩ : ∃ R, Hid (rcF s a f = R) := ⟨_, rfl⟩
  rw [HR.out]
  have hbd := rn_bd s a f
  have HR2 : Hid (rcG s (rnF s a f).1.toNat (rnF s a f).2.1 (rnF s a f).2.2 = R) := HR
  clear HR
  rcases hx : rnF s a f with ⟨n, a1, f1⟩
  rw [hx] at c1 hbd HR2
  simp only at c1 hbd HR2
  obtain ⟨hb0, hb1⟩ := hbd
  obtain ⟨N, rfl⟩ : ∃ N : Nat, n = (N : Int) := ⟨n.toNat, by omega⟩
  rw [Int.toNat_natCast] at HR2
  have ha1 : f1 = false → 0 < a1 := fun e => by
    subst e
    cases f with
    | true => simp [rnF] at hx
    | false =>
      simp only [rnF] at hx
      rcases pk.tk_cases s a 1125899906842624 with ⟨n, p, hr, -, h1, h2, h3⟩ | ⟨er, hr, he⟩
      · rw [hr] at hx; simp at hx; omega
      · rw [hr] at hx; simp at hx; omega
  have ha2 : f1 = false → a1 ≤ s.size := fun e => by
    subst e
    cases f with
    | true => simp [rnF] at hx
    | false => have := (rn_at (s := s) (a := a) (by rw [hx])).2; rw [hx] at this; exact this
  clear hx h
  go_enter Try.func61, Try.ntmps61
  go_wp2_with fail
  refine c1.mono ?_
  rintro e w1 ⟨rfl, hr1, hg1⟩
  clear c1
  go_wp2_with fail
  go_loopw [3] (fun lv wr => ∃ (L : List Int) (a : Int) (f : Bool), L.length ≤ N ∧ wr.ownsRow w.heap.size 3 1 lv L.length (ivs L) ∧ (f = false → (L.length : Int) ≤ a ∧ a ≤ s.size) ∧ (L.length : Int) ≤ s.size + 1 ∧ Hid ((L ++ (rcG s (N - L.length) a f).1, (rcG s (N - L.length) a f).2) = R) ∧ RQ wr q s a f ∧ w.grownBy wr (some q)) (fun lv _ => N - lenV lv)
  case atStart => exact ⟨[], a1, f1, by simp, World.ownsRow_nil _ _ _ _, fun e => ⟨by have := ha1 e; simp; omega, ha2 e⟩, by simp; omega, by show _ = _; simpa using HR2.out, hr1, hg1⟩
  case round =>
    clear HR2 hr1 hg1 ha1 ha2
    obtain ⟨L, a, f, hN, ho, haf, hls, HG, hq, hg⟩ := hrel
    obtain ⟨al, kl, rfl⟩ := own_form ho
    obtain ⟨y0, y1, y2⟩ := cellsRQ hq
    by_cases hlt : L.length < N
    · have hlt' : (L.length : Int) < (N : Int) := by omega
      cases f with
      | true =>
        have e : R = (L, a, true) := by rw [← HG.out, rcG_t]; simp
        subst e
        clear HG cN
        go_wp2_with fail
        go_ret
        exact ⟨_, rfl, ho, hq, hg⟩
      | false =>
        obtain ⟨h1, h2⟩ := haf rfl
        have cX := cN a false wr hq
        have hat := @rn_at s a
        have HG2 : Hid ((L ++ [(rnF s a false).1] ++ (rcG s (N - (L.length + 1)) (rnF s a false).2.1 (rnF s a false).2.2).1, (rcG s (N - (L.length + 1)) (rnF s a false).2.1 (rnF s a false).2.2).2) = R) := by
          show _ = _
          rw [← HG.out, show N - L.length = (N - (L.length + 1)) + 1 by omega, rcG]
          simp only [List.append_assoc, List.singleton_append]
        rcases hx : rnF s a false with ⟨n2, a2, f2⟩
        rw [hx] at cX hat HG2
        simp only at cX hat HG2
        clear HG cN hx haf
        go_wp2_with fail
        refine cX.mono ?_
        rintro e w2 ⟨rfl, hq2, hg2⟩
        have hne : (Value.slice al L.length kl).ownBlock ≠ some q := fun e => by have := (ho.lt q e).1; omega
        have ho2 := ho.kept hg2 (.inr hne)
        have hal := alloc_bR w2 (.cells #[.int .i64 n2] 3)
        have hoE := own_belowG ho2 hal
        have hg3 := gq_trans (gq_trans hg hg2) (gq_below hal)
        have hq3 := hq2.below hal
        have hs2 := hg3.size
        clear cX y0 y1 y2 ho hq hg2 hq2 ho2
        go_wp2_with (at_builtin; refine wpList_append_own _ rfl (.tmp 18) (.tmp 21) 45 rfl w.heap.size 3 i0 (.int .i64 0) 1 8 Try.underlying45 hin hz0 hz1 hz2 rfl (by decide) _ L.length _ rfl hoE ⟨_, 0, none⟩ 1 1 [.int .i64 n2] rfl rfl (many_new _ _ _) (one_intR _) (by unfold maxLen; omega) (by omega) (by omega) ?_; intro v6 w6 ho6 hg6 _)
        have hg7 := gq_own hg3 hg6 (fun j hj => (hoE.lt j hj).1)
        have hq7 : RQ w6 q s a2 f2 := (hg6.block q (heap_lt hq3) (fun e => hne e.symm)).trans hq3
        have ho7 : w6.ownsRow w.heap.size 3 1 v6 (L ++ [n2]).length (ivs (L ++ [n2])) := by
          unfold ivs
          rw [List.length_append, List.map_append]
          exact ho6
        obtain ⟨a7, k7, e7⟩ := own_form ho7
        refine ⟨⟨L ++ [n2], a2, f2, by simp; omega, ho7, fun e => ?_, by simp; omega, by simpa using HG2, hq7, hg7⟩, ?_⟩
        · have := hat e
          simp
          omega
        · rw [e7]
          simp [lenV]
          omega
    · have hlt' : ¬ (L.length : Int) < (N : Int) := by omega
      have e : R = (L, a, f) := by
        rw [← HG.out, show N - L.length = 0 by omega, rcG]
        simp
      subst e
      clear HG cN
      go_wp2_with fail
      go_ret
      exact ⟨_, rfl, ho, hq, hg⟩
end Go.Proofs.Ytdheddgdlindmaa
