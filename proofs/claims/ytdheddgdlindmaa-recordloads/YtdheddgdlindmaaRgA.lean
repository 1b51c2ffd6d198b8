/-
  The reference of record: its reader.
-/
import Derived.Test.YtdheddgdlindmaaRcU
import Derived.Test.YtdheddgdlindmaaRcL
import Derived.Test.YtdheddgdlindmaaRcT
import Derived.Deep.RegionLaw
namespace Go.Proofs.Ytdheddgdlindmaa
open Go.ChangeShapes Go.WideShapes Go.ChangeAt Go.RowKit Go.PlainAid

/-- The reference's reader. -/
def RXr (W : World) (q : Nat) (s : ByteArray) (a : Int) (f : Bool) : Prop := W.heap[q]? = some (.cells #[.string s, .int .i64 a, .bool f] 105)
theorem cellsRXr {W : World} {q : Nat} {s : ByteArray} {a : Int} {f : Bool} (h : RXr W q s a f) : W.cell? ⟨q, 0, none⟩ = some (.string s) ∧ W.cell? ⟨q, 1, none⟩ = some (.int .i64 a) ∧ W.cell? ⟨q, 2, none⟩ = some (.bool f) := by
  have q := fun j => cell_of_row W q j _ _ (0, 0) h
  exact ⟨q 0, q 1, q 2⟩
theorem RXr.below {W W' : World} {q : Nat} {s : ByteArray} {a : Int} {f : Bool} (h : RXr W q s a f) (hb : Below W.heap.size W W') : RXr W' q s a f := (hb.block q (heap_lt h)).trans h
/-- What its num gives. -/
def gnF (s : ByteArray) (a : Int) (f : Bool) : Int × Int × Bool := match f with
  | true => (0, a, true)
  | false => if (pk.tk s a 1125899906842624).2.2 = 0 then ((pk.tk s a 1125899906842624).1, (pk.tk s a 1125899906842624).2.1, false) else (0, a, true)
/-- Its text. -/
def gtF (s : ByteArray) (a : Int) (f : Bool) : ByteArray × Int × Bool := match f with
  | true => (⟨#[]⟩, a, true)
  | false => if (pk.tkT s a).2.2 = 0 then ((pk.tkT s a).1, (pk.tkT s a).2.1, false) else (⟨#[]⟩, a, true)
theorem gnF_ok {s : ByteArray} {a c x : Int} {f : Bool} (h : rnF s a f = (c, x, false)) : gnF s a f = (c, x, false) := by
  cases f with
  | true => simp [rnF] at h
  | false =>
    simp only [rnF, Prod.mk.injEq, bne_eq_false_iff_eq] at h
    simp only [gnF]
    rw [if_pos h.2.2, h.1, h.2.1]
theorem gnF_no {s : ByteArray} {a c x : Int} {f : Bool} (h : rnF s a f = (c, x, true)) : gnF s a f = (0, a, true) ∧ c = 0 := by
  cases f with
  | true => simp [rnF] at h; exact ⟨rfl, h.1.symm⟩
  | false =>
    simp only [rnF, Prod.mk.injEq, bne_iff_ne] at h
    simp only [gnF]
    rw [if_neg h.2.2]
    refine ⟨rfl, ?_⟩
    rcases pk.tk_cases s a 1125899906842624 with ⟨n, p, hr, -⟩ | ⟨er, hr, -⟩
    · rw [hr] at h; exact absurd rfl h.2.2
    · rw [hr] at h; exact h.1.symm
theorem gtF_ok {s t : ByteArray} {a x : Int} {f : Bool} (h : rtF s a f = (t, x, false)) : gtF s a f = (t, x, false) := by
  cases f with
  | true => simp [rtF] at h
  | false =>
    simp only [rtF, Prod.mk.injEq, bne_eq_false_iff_eq] at h
    simp only [gtF]
    rw [if_pos h.2.2, h.1, h.2.1]
theorem gtF_no {s t : ByteArray} {a x : Int} {f : Bool} (h : rtF s a f = (t, x, true)) : gtF s a f = (⟨#[]⟩, a, true) := by
  cases f with
  | true => rfl
  | false =>
    simp only [rtF, Prod.mk.injEq, bne_iff_ne] at h
    simp only [gtF]
    rw [if_neg h.2.2]
set_option maxRecDepth 20000 in
set_option maxHeartbeats 1000000 in
theorem gnum_any (q : Nat) (s : ByteArray) (a : Int) (f : Bool) (w : World) (h : RXr w q s a f) (hs : s.size ≤ maxLen) :
    Calls Try.prog 63 #[.pointer (some ⟨q, 0, none⟩)] w fun e w' => e = .returned (.int .i64 (gnF s a f).1) ∧ RXr w' q s (gnF s a f).2.1 (gnF s a f).2.2 ∧ w.grownBy w' (some q) := by
  have cP := fun u : Beh w => (pk.refNum_any s a u.it hs).mono (R' := fun e w' => e = .returned (.tuple #[.int .i64 (pk.tk s a 1125899906842624).1, .int .i64 (pk.tk s a 1125899906842624).2.1, .int .i64 (pk.tk s a 1125899906842624).2.2]) ∧ Below u.it.heap.size u.it w') (by rintro e w' ⟨rfl, rfl⟩; exact ⟨rfl, Below.refl _ _⟩)
  have hd : (pk.tk s a 1125899906842624).2.2 ≠ 0 ∨ f = true → gnF s a f = (0, a, true) := fun h => by
    cases f with
    | true => rfl
    | false => simp only [gnF]; rw [if_neg (h.resolve_right (by decide))]
  have hd2 : (pk.tk s a 1125899906842624).2.2 = 0 → f = false → gnF s a f = ((pk.tk s a 1125899906842624).1, (pk.tk s a 1125899906842624).2.1, false) := fun h1 h2 => by
    subst h2
    simp only [gnF]
    rw [if_pos h1]
  obtain ⟨D, HD⟩ : ∃ D, Hid (gnF s a f = D) := ⟨_, rfl⟩
  rw [HD.out] at hd hd2 ⊢
  generalize pk.tk s a 1125899906842624 = T at *
  have k0 : ∀ u : Beh w, u.it.cell? ⟨q, 0, none⟩ = some (.string s) := fun u => (cellsRXr (h.below u.h)).1
  have k1 : ∀ u : Beh w, u.it.cell? ⟨q, 1, none⟩ = some (.int .i64 a) := fun u => (cellsRXr (h.below u.h)).2.1
  go_enter Try.func63, Try.ntmps63
  go_upto_region 1 with fail
  refine wp_region_beh (by kernel_rfl) (by kernel_rfl) ?_
  repeat (go_big_quiet_step ((go_at_call 81; exact Beh.call (cP _))))
  refine wpQuiet_nil ?_
  intro wq hw'
  have hwq := Beh.out hw'
  have hq := h.below hwq
  clear hw' cP k0 k1 HD
  obtain ⟨y0, y1, y2⟩ := cellsRXr hq
  have f1 := frz hq 1
  have f2 := frz hq 2
  by_cases h0 : T.2.2 = 0
  · have n0 : (T.2.2 != 0) = false := by rw [h0]; rfl
    cases f with
    | true =>
      have e := hd (.inr rfl)
      subst e
      clear hd hd2
      go_wp2_with fail
      go_ret
      exact ⟨rfl, heap_setCell hq 2 _, gq_trans (gq_below hwq) (grown_set _ _ _ _)⟩
    | false =>
      have e := hd2 h0 rfl
      subst e
      clear hd hd2 h0
      go_wp2_with fail
      go_ret
      exact ⟨rfl, heap_setCell hq 1 _, gq_trans (gq_below hwq) (grown_set _ _ _ _)⟩
  · have n0 : (T.2.2 != 0) = true := bne_iff_ne.2 h0
    have e := hd (.inl h0)
    subst e
    clear hd hd2
    go_wp2_with fail
    go_ret
    exact ⟨rfl, heap_setCell hq 2 _, gq_trans (gq_below hwq) (grown_set _ _ _ _)⟩
set_option maxRecDepth 20000 in
set_option maxHeartbeats 1000000 in
theorem gtext_any (q : Nat) (s : ByteArray) (a : Int) (f : Bool) (w : World) (h : RXr w q s a f) (hs : s.size ≤ maxLen) :
    Calls Try.prog 64 #[.pointer (some ⟨q, 0, none⟩)] w fun e w' => e = .returned (.string (gtF s a f).1) ∧ RXr w' q s (gtF s a f).2.1 (gtF s a f).2.2 ∧ w.grownBy w' (some q) := by
  have cP := fun u : Beh w => (pk.refText_any s a u.it hs).mono (R' := fun e w' => e = .returned (.tuple #[.string (pk.tkT s a).1, .int .i64 (pk.tkT s a).2.1, .int .i64 (pk.tkT s a).2.2]) ∧ Below u.it.heap.size u.it w') (by rintro e w' ⟨rfl, rfl⟩; exact ⟨rfl, Below.refl _ _⟩)
  have hd : (pk.tkT s a).2.2 ≠ 0 ∨ f = true → gtF s a f = (⟨#[]⟩, a, true) := fun h => by
    cases f with
    | true => rfl
    | false => simp only [gtF]; rw [if_neg (h.resolve_right (by decide))]
  have hd2 : (pk.tkT s a).2.2 = 0 → f = false → gtF s a f = ((pk.tkT s a).1, (pk.tkT s a).2.1, false) := fun h1 h2 => by
    subst h2
    simp only [gtF]
    rw [if_pos h1]
  obtain ⟨D, HD⟩ : ∃ D, Hid (gtF s a f = D) := ⟨_, rfl⟩
  rw [HD.out] at hd hd2 ⊢
  generalize pk.tkT s a = T at *
  have k0 : ∀ u : Beh w, u.it.cell? ⟨q, 0, none⟩ = some (.string s) := fun u => (cellsRXr (h.below u.h)).1
  have k1 : ∀ u : Beh w, u.it.cell? ⟨q, 1, none⟩ = some (.int .i64 a) := fun u => (cellsRXr (h.below u.h)).2.1
  go_enter Try.func64, Try.ntmps64
  go_upto_region 1 with fail
  refine wp_region_beh (by kernel_rfl) (by kernel_rfl) ?_
  repeat (go_big_quiet_step ((go_at_call 82; exact Beh.call (cP _))))
  refine wpQuiet_nil ?_
  intro wq hw'
  have hwq := Beh.out hw'
  have hq := h.below hwq
  clear hw' cP k0 k1 HD
  obtain ⟨y0, y1, y2⟩ := cellsRXr hq
  have f1 := frz hq 1
  have f2 := frz hq 2
  by_cases h0 : T.2.2 = 0
  · have n0 : (T.2.2 != 0) = false := by rw [h0]; rfl
    cases f with
    | true =>
      have e := hd (.inr rfl)
      subst e
      clear hd hd2
      go_wp2_with fail
      go_ret
      exact ⟨rfl, heap_setCell hq 2 _, gq_trans (gq_below hwq) (grown_set _ _ _ _)⟩
    | false =>
      have e := hd2 h0 rfl
      subst e
      clear hd hd2 h0
      go_wp2_with fail
      go_ret
      exact ⟨rfl, heap_setCell hq 1 _, gq_trans (gq_below hwq) (grown_set _ _ _ _)⟩
  · have n0 : (T.2.2 != 0) = true := bne_iff_ne.2 h0
    have e := hd (.inl h0)
    subst e
    clear hd hd2
    go_wp2_with fail
    go_ret
    exact ⟨rfl, heap_setCell hq 2 _, gq_trans (gq_below hwq) (grown_set _ _ _ _)⟩
theorem gnF_bd (s : ByteArray) (a : Int) (f : Bool) : 0 ≤ (gnF s a f).1 ∧ (gnF s a f).1 ≤ 1125899906842624 := by
  rcases h : rnF s a f with ⟨t, x, g⟩
  cases g with
  | true => rw [(gnF_no h).1]; exact ⟨Int.le_refl _, by show (0 : Int) ≤ _; decide⟩
  | false =>
    rw [gnF_ok h]
    have := rn_bd s a f
    rw [h] at this
    exact this
/-- Its numbers. -/
def gcG (s : ByteArray) : Nat → Int → Bool → List Int × Int × Bool
  | 0, a, f => ([], a, f)
  | k + 1, a, f => match f with
    | true => ([], a, true)
    | false => ((gnF s a false).1 :: (gcG s k (gnF s a false).2.1 (gnF s a false).2.2).1, (gcG s k (gnF s a false).2.1 (gnF s a false).2.2).2)
def gcF (s : ByteArray) (a : Int) (f : Bool) : List Int × Int × Bool := gcG s (gnF s a f).1.toNat (gnF s a f).2.1 (gnF s a f).2.2
theorem gcG_t (s : ByteArray) (k : Nat) (a : Int) : gcG s k a true = ([], a, true) := by cases k <;> rfl
theorem gn_at {s : ByteArray} {a : Int} (h : (gnF s a false).2.2 = false) : a < (gnF s a false).2.1 ∧ (gnF s a false).2.1 ≤ s.size := by
  rcases hx : rnF s a false with ⟨n, x, g⟩
  cases g with
  | true => rw [(gnF_no hx).1] at h; cases h
  | false =>
    rw [gnF_ok hx]
    have := rn_at (s := s) (a := a) (by rw [hx])
    rw [hx] at this
    exact this
theorem gcG_ok {s : ByteArray} : ∀ (k : Nat) (a : Int) (l : List Int) (x : Int), rcG s k a false = (l, x, false) → gcG s k a false = (l, x, false)
  | 0, a, l, x, h => h
  | k + 1, a, l, x, h => by
    rw [rcG] at h
    rcases hx : rnF s a false with ⟨n, a1, g⟩
    rw [hx] at h
    simp only at h
    cases g with
    | true =>
      rw [rcG_t] at h
      simp at h
    | false =>
      rw [gcG, gnF_ok hx]
      simp only
      rcases hy : rcG s k a1 false with ⟨m, a2, g2⟩
      rw [hy] at h
      simp only [Prod.mk.injEq] at h
      obtain ⟨rfl, rfl, rfl⟩ := h
      rw [gcG_ok k a1 m a2 hy]
theorem gcF_ok {s : ByteArray} {a : Int} {f : Bool} {l : List Int} {x : Int} (h : rcF s a f = (l, x, false)) : gcF s a f = (l, x, false) := by
  unfold rcF at h
  unfold gcF
  rcases hx : rnF s a f with ⟨n, a1, g⟩
  rw [hx] at h
  simp only at h
  cases g with
  | true => rw [rcG_t] at h; simp at h
  | false => rw [gnF_ok hx]; exact gcG_ok _ _ _ _ h
/-- Its delta. -/
def gdF (s : ByteArray) (a : Int) (f : Bool) : List OpD × Int × Bool := ((decR (gtF s a f).1).1, (gtF s a f).2.1, (gtF s a f).2.2 || ((decR (gtF s a f).1).2 != 0))
theorem gdF_ok {s : ByteArray} {a : Int} {f : Bool} {l : List OpD} {x : Int} (h : rdF s a f = (l, x, false)) : gdF s a f = (l, x, false) := by
  unfold rdF at h
  unfold gdF
  rcases hx : rtF s a f with ⟨t, a1, g⟩
  rw [hx] at h
  simp only at h
  cases g with
  | true => simp at h
  | false =>
    rw [gtF_ok hx]
    simp only [Bool.false_or]
    exact h
theorem gt_sz (s : ByteArray) (a : Int) (f : Bool) : (gtF s a f).1.size ≤ 20000 := by
  rcases hx : rtF s a f with ⟨t, a1, g⟩
  cases g with
  | true => rw [gtF_no hx]; show ByteArray.size ⟨#[]⟩ ≤ _; decide
  | false =>
    rw [gtF_ok hx]
    have := rt_bd s a f
    rw [hx] at this
    exact this
set_option maxRecDepth 20000 in
set_option maxHeartbeats 1000000 in
theorem gdelta_any (q : Nat) (s : ByteArray) (a : Int) (f : Bool) (w : World) (h : RXr w q s a f) (hs : s.size ≤ maxLen) :
    Calls Try.prog 66 #[.pointer (some ⟨q, 0, none⟩)] w fun e w' => ∃ u, e = .returned u ∧ w'.ownsRow w.heap.size 96 3 u (gdF s a f).1.length (ocs (gdF s a f).1) ∧ RXr w' q s (gdF s a f).2.1 (gdF s a f).2.2 ∧ w.grownBy w' (some q) := by
  have cT := gtext_any q s a f w h hs
  have hz := gt_sz s a f
  unfold gdF
  rcases hx : gtF s a f with ⟨t, a', f'⟩
  rw [hx] at cT hz
  simp only at cT hz ⊢
  have cD := fun W => refDecode_any t W (by unfold maxLen; omega)
  rw [ref_dec] at cD
  clear hx
  generalize decR t = D at *
  go_enter Try.func66, Try.ntmps66
  go_wp2_with fail
  refine cT.mono ?_
  rintro e w1 ⟨rfl, h1, g1⟩
  clear cT
  go_wp2_with fail
  refine (cD _).mono ?_
  rintro e w2 ⟨u, rfl, ho, hb⟩
  have h2 := h1.below hb
  obtain ⟨aa, ka, rfl⟩ := own_form ho
  obtain ⟨y0, y1, y2⟩ := cellsRXr h2
  have f2 := frz h2 2
  clear cD
  by_cases hd : D.2 = 0
  · have n0 : (D.2 != 0) = false := by rw [hd]; rfl
    go_wp2_with fail
    go_ret
    rw [n0, Bool.or_false]
    exact ⟨_, rfl, own_lower ho g1.size, h2, gq_trans g1 (gq_below hb)⟩
  · have n0 : (D.2 != 0) = true := bne_iff_ne.2 hd
    go_wp2_with fail
    go_ret
    rw [n0, Bool.or_true]
    exact ⟨_, rfl, own_lower (own_set ho h2 (by decide)) g1.size, heap_setCell h2 2 _, gq_trans g1 (gq_trans (gq_below hb) (grown_set _ _ _ _))⟩
end Go.Proofs.Ytdheddgdlindmaa

/-
  The reference's reader: its numbers.
-/
namespace Go.Proofs.Ytdheddgdlindmaa
open Go.ChangeShapes Go.WideShapes Go.ChangeAt Go.RowKit Go.PlainAid

theorem gn_pos {s : ByteArray} {a : Int} (h : (gnF s a false).2.2 = false) : 0 < (gnF s a false).2.1 := by
  rcases hx : rnF s a false with ⟨n, x, g⟩
  cases g with
  | true => rw [(gnF_no hx).1] at h; cases h
  | false =>
    rw [gnF_ok hx]
    simp only [rnF] at hx
    rcases pk.tk_cases s a 1125899906842624 with ⟨n, p, hr, -, h1, h2, h3⟩ | ⟨er, hr, he⟩
    · rw [hr] at hx; simp at hx; simp only; omega
    · rw [hr] at hx; simp at hx; omega
set_option maxRecDepth 20000 in
set_option maxHeartbeats 2000000 in
theorem gnumbers_any (q : Nat) (s : ByteArray) (a : Int) (f : Bool) (w : World) (h : RXr w q s a f) (hs : s.size ≤ 1099511627776) :
    Calls Try.prog 65 #[.pointer (some ⟨q, 0, none⟩)] w fun e w' => ∃ u, e = .returned u ∧ w'.ownsRow w.heap.size 3 1 u (gcF s a f).1.length (ivs (gcF s a f).1) ∧ RXr w' q s (gcF s a f).2.1 (gcF s a f).2.2 ∧ w.grownBy w' (some q) := by
  obtain ⟨i0, hin, hz0, hz1, hz2⟩ := info_parts Try.infoIntR
  have hsm : s.size ≤ maxLen := by unfold maxLen; omega
  have c1 := gnum_any q s a f w h hsm
  have cN := fun a f W (h : RXr W q s a f) => gnum_any q s a f W h hsm
  have hqw := heap_lt h
  obtain ⟨R, HR⟩ : ∃ R, Hid (gcF s a f = R) := ⟨_, rfl⟩
  rw [HR.out]
  have hbd := gnF_bd s a f
  have HR2 : Hid (gcG s (gnF s a f).1.toNat (gnF s a f).2.1 (gnF s a f).2.2 = R) := HR
  clear HR
  rcases hx : gnF s a f with ⟨n, a1, f1⟩
  rw [hx] at c1 hbd HR2
  simp only at c1 hbd HR2
  obtain ⟨hb0, hb1⟩ := hbd
  obtain ⟨N, rfl⟩ : ∃ N : Nat, n = (N : Int) := ⟨n.toNat, by omega⟩
  rw [Int.toNat_natCast] at HR2
  have hq1 : f1 = false → a1 ≤ s.size := fun e => by
    subst e
    cases f with
    | true => simp [gnF] at hx
    | false => have := (gn_at (s := s) (a := a) (by rw [hx])).2; rw [hx] at this; exact this
  have ha1 : f1 = false → 0 < a1 := fun e => by
    subst e
    cases f with
    | true => simp [gnF] at hx
    | false => have := gn_pos (s := s) (a := a) (by rw [hx]); rw [hx] at this; exact this
  have ha2 := hq1
  clear hq1
  clear hx h
  go_enter Try.func65, Try.ntmps65
  go_wp2_with fail
  refine c1.mono ?_
  rintro e w1 ⟨rfl, hr1, hg1⟩
  clear c1
  go_wp2_with fail
  go_loopw [3, 5] (fun lv iv wr => ∃ (L : List Int) (a : Int) (f : Bool), L.length ≤ N ∧ iv = .int .i64 (L.length : Int) ∧ wr.ownsRow w.heap.size 3 1 lv L.length (ivs L) ∧ (f = false → (L.length : Int) ≤ a ∧ a ≤ s.size) ∧ (L.length : Int) ≤ s.size + 1 ∧ Hid ((L ++ (gcG s (N - L.length) a f).1, (gcG s (N - L.length) a f).2) = R) ∧ RXr wr q s a f ∧ w.grownBy wr (some q)) (fun lv _ _ => N - lenV lv)
  case atStart => exact ⟨[], a1, f1, by simp, rfl, World.ownsRow_nil _ _ _ _, fun e => ⟨by have := ha1 e; simp; omega, ha2 e⟩, by simp; omega, by show _ = _; simpa using HR2.out, hr1, hg1⟩
  case round =>
    clear HR2 hr1 hg1 ha1 ha2
    obtain ⟨L, a, f, hN, rfl, ho, haf, hls, HG, hq, hg⟩ := hrel
    obtain ⟨al, kl, rfl⟩ := own_form ho
    obtain ⟨y0, y1, y2⟩ := cellsRXr hq
    by_cases hlt : L.length < N
    · have hlt' : (L.length : Int) < (N : Int) := by omega
      cases f with
      | true =>
        have e : R = (L, a, true) := by rw [← HG.out, gcG_t]; simp
        subst e
        clear HG cN
        go_wp2_with fail
        go_ret
        exact ⟨_, rfl, ho, hq, hg⟩
      | false =>
        obtain ⟨h1, h2⟩ := haf rfl
        have cX := cN a false wr hq
        have hat := @gn_at s a
        have HG2 : Hid ((L ++ [(gnF s a false).1] ++ (gcG s (N - (L.length + 1)) (gnF s a false).2.1 (gnF s a false).2.2).1, (gcG s (N - (L.length + 1)) (gnF s a false).2.1 (gnF s a false).2.2).2) = R) := by
          show _ = _
          rw [← HG.out, show N - L.length = (N - (L.length + 1)) + 1 by omega, gcG]
          simp only [List.append_assoc, List.singleton_append]
        rcases hx : gnF s a false with ⟨n2, a2, f2⟩
        rw [hx] at cX hat HG2
        simp only at cX hat HG2
        clear HG cN hx haf
        go_wp2_with fail
        refine cX.mono ?_
        rintro e w2 ⟨rfl, hq2, hg2⟩
        have hne : (Value.slice al L.length kl).ownBlock ≠ some q := fun e => by have := (ho.lt q e).1; omega
        have ho2 := ho.kept hg2 (.inr hne)
        have hal := alloc_bR w2 (.cells #[.int .i64 n2] 3)
        have hoE := own_belowG ho2 hal
        have hg3 := gq_trans (gq_trans hg hg2) (gq_below hal)
        have hq3 := hq2.below hal
        have hs2 := hg3.size
        clear cX y0 y1 y2 ho hq hg2 hq2 ho2
        go_wp2_with (at_builtin; refine wpList_append_own _ rfl (.tmp 23) (.tmp 25) 45 rfl w.heap.size 3 i0 (.int .i64 0) 1 8 Try.underlying45 hin hz0 hz1 hz2 rfl (by decide) _ L.length _ rfl hoE ⟨_, 0, none⟩ 1 1 [.int .i64 n2] rfl rfl (many_new _ _ _) (one_intR _) (by unfold maxLen; omega) (by omega) (by omega) ?_; intro v6 w6 ho6 hg6 _)
        have hg7 := gq_own hg3 hg6 (fun j hj => (hoE.lt j hj).1)
        have hq7 : RXr w6 q s a2 f2 := (hg6.block q (heap_lt hq3) (fun e => hne e.symm)).trans hq3
        have ho7 : w6.ownsRow w.heap.size 3 1 v6 (L ++ [n2]).length (ivs (L ++ [n2])) := by
          unfold ivs
          rw [List.length_append, List.map_append]
          exact ho6
        obtain ⟨a7, k7, e7⟩ := own_form ho7
        refine ⟨⟨L ++ [n2], a2, f2, by simp; omega, by simp, ho7, fun e => ?_, by simp; omega, by simpa using HG2, hq7, hg7⟩, ?_⟩
        · have := hat e
          simp
          omega
        · rw [e7]
          simp [lenV]
          omega
    · have hlt' : ¬ (L.length : Int) < (N : Int) := by omega
      have e : R = (L, a, f) := by
        rw [← HG.out, show N - L.length = 0 by omega, gcG]
        simp
      subst e
      clear HG cN
      go_wp2_with fail
      go_ret
      exact ⟨_, rfl, ho, hq, hg⟩
end Go.Proofs.Ytdheddgdlindmaa

/-
  The reference's add: on its way.
-/
namespace Go.Proofs.Ytdheddgdlindmaa
open Go.ChangeShapes Go.WideShapes Go.ChangeAt Go.RowKit Go.PlainAid

/-- What add makes of a pair's value, by its kind. -/
def adB (S : StD) (s : ByteArray) : StD × Bool := match gnF s 0 false with
  | (i, a, f) => match gtF s a f with
    | (nm, a, f) => match gcF s a f with
      | (lg, _, f) => (⟨S.nc, S.nb, S.cs, S.bs ++ [⟨i, nm, lg⟩], S.us⟩, !f)
def adC (S : StD) (s : ByteArray) : StD × Bool := match gnF s 0 false with
  | (n, a, f) => match gcF s a f with
    | (ps, a, f) => match gdF s a f with
      | (d, a, f) => match gdF s a f with
        | (o, a, f) => match gnF s a f with
          | (c, a, f) => match gnF s a f with
            | (q, _, f) => (⟨S.nc, S.nb, S.cs ++ [⟨n, ps, d, o, c, q⟩], S.bs, S.us⟩, !f)
def adN (S : StD) (s : ByteArray) : StD × Bool := match gnF s 0 false with
  | (n, a, f) => match gnF s a f with
    | (m, _, f) => (⟨n, m, S.cs, S.bs, S.us⟩, !f)
def adU (S : StD) (s : ByteArray) : StD × Bool := match gnF s 0 false with
  | (c, a, f) => match gnF s a f with
    | (b, a, f) => match gnF s a f with
      | (q, _, f) => (⟨S.nc, S.nb, S.cs, S.bs, S.us ++ [⟨c, b, q⟩]⟩, !f)
/-- add. -/
def adF (S : StD) (x : PaD) : StD × Bool :=
  if x.k.size = 0 then (S, false) else if bt x.k 0 = 98 then adB S x.v else if bt x.k 0 = 99 then adC S x.v else if bt x.k 0 = 110 then adN S x.v else adU S x.v
/-- add on its way: the state's box lies at g. -/
structure Tg (w : World) (g : Nat) (S : StD) (v1 v2 v3 : Value) (us : List (Value × Value × Value)) (ls : List Value) (x : PaD) (a : Int) (f : Bool) (W : World) : Prop where
  sb : SB W g S v1 v2 v3
  ow : OwSt W (g + 1) v1 v2 v3 S us ls
  rq : RXr W (w.heap.size + 1) x.v a f
  pb : W.heap[w.heap.size]? = some (.cells #[.string x.k, .string x.v] 44)
  bl : Below g w W
  hg : g < w.heap.size
section
variable {w W W' : World} {g : Nat} {S : StD} {v1 v2 v3 : Value} {us : List (Value × Value × Value)} {ls : List Value} {x : PaD} {a a' : Int} {f f' : Bool}
theorem noRow_rg : NoRow 105 := ⟨by decide, by decide, by decide, by decide, by decide⟩
theorem Tg.call (h : Tg w g S v1 v2 v3 us ls x a f W) (hr : RXr W' (w.heap.size + 1) x.v a' f') (hg : W.grownBy W' (some (w.heap.size + 1))) : Tg w g S v1 v2 v3 us ls x a' f' W' := by
  have h1 := h.hg
  have hk : ∀ k o, k ≠ w.heap.size + 1 → W.heap[k]? = some o → W'.heap[k]? = some o := fun k o hk h => (hg.block k (heap_lt h) (by simpa using hk)).trans h
  exact ⟨hk _ _ (by omega) h.sb, h.ow.rk (rk_box h.rq hg) noRow_rg, hr, hk _ _ (by omega) h.pb, h.bl.grown hg (by have := h.bl.size; omega) (fun j hj => by cases hj; omega), h.hg⟩
theorem Tg.below (h : Tg w g S v1 v2 v3 us ls x a f W) (hb : Below W.heap.size W W') : Tg w g S v1 v2 v3 us ls x a f W' :=
  ⟨h.sb.below hb, h.ow.below hb, h.rq.below hb, (hb.block _ (heap_lt h.pb)).trans h.pb, h.bl.trans (hb.mono (by have := h.bl.size; have := h.hg; omega)), h.hg⟩
theorem Tg.lt (h : Tg w g S v1 v2 v3 us ls x a f W) : w.heap.size + 1 < W.heap.size := heap_lt h.rq
theorem tg_new (hS : SB w g S v1 v2 v3) (hO : OwSt w (g + 1) v1 v2 v3 S us ls) : Tg w g S v1 v2 v3 us ls x 0 false ((w.alloc (.cells #[.string x.k, .string x.v] 44)).alloc (.cells #[.string x.v, .int .i64 0, .bool false] 105)) := by
  have h1 := heap_alloc_new (w.alloc (.cells #[.string x.k, .string x.v] 44)) (.cells #[.string x.v, .int .i64 0, .bool false] 105)
  rw [World.size_alloc] at h1
  have hb : Below w.heap.size w ((w.alloc (.cells #[.string x.k, .string x.v] 44)).alloc (.cells #[.string x.v, .int .i64 0, .bool false] 105)) := (alloc_bR w _).trans ((alloc_bR _ _).mono (alloc_bR w _).size)
  refine ⟨hS.below hb, hO.below hb, h1, ?_, hb.mono (Nat.le_of_lt (heap_lt hS)), heap_lt hS⟩
  exact ((alloc_bR (w.alloc (.cells #[.string x.k, .string x.v] 44)) (.cells #[.string x.v, .int .i64 0, .bool false] 105)).block _ (by rw [World.size_alloc]; omega)).trans (heap_alloc_new w _)
/-- A row has grown, and the state's box tells it. -/
theorem Tg.grow {e z n j : Nat} {vr v9 : Value} {xs : List Value} (h : Tg w g S v1 v2 v3 us ls x a f W) (ho : W.ownsRow (g + 1) e z vr n xs) (he : e = 48 ∨ e = 50 ∨ e = 61) (hg9 : W.grownBy W' vr.ownBlock) :
    SB W' g S v1 v2 v3 ∧ RXr (W'.setCell ⟨g, j, none⟩ v9) (w.heap.size + 1) x.v a f ∧ (W'.setCell ⟨g, j, none⟩ v9).heap[w.heap.size]? = some (.cells #[.string x.k, .string x.v] 44) ∧ Below g w (W'.setCell ⟨g, j, none⟩ v9) ∧ Rk W W' e := by
  have h1 := h.hg
  have hne : ∀ (k : Nat) (c : Array Value) (t : TypeId), W.heap[k]? = some (Obj.cells c t) → e ≠ t → W'.heap[k]? = some (Obj.cells c t) := fun k c t hk hn => (hg9.block k (heap_lt hk) (box_apart ho hk hn)).trans hk
  have hs := fun k (hn : k ≠ g) => Below.heap_setCell W' ⟨g, j, none⟩ v9 k (by simp only; omega)
  have e1 : e ≠ 26 ∧ e ≠ 105 ∧ e ≠ 44 := by rcases he with rfl | rfl | rfl <;> exact ⟨by decide, by decide, by decide⟩
  exact ⟨hne _ _ _ h.sb e1.1, (hs _ (by omega)).trans (hne _ _ _ h.rq e1.2.1), (hs _ (by omega)).trans (hne _ _ _ h.pb e1.2.2), (h.bl.grown hg9 (by have := h.bl.size; omega) (fun j hj => by have := (ho.lt j hj).1; omega)).setCell (p := ⟨g, j, none⟩) (Nat.le_refl _) _, rk_own ho hg9⟩
theorem tg_br {i : Int} {nm : ByteArray} {lg : List Int} {u v9 : Value} (h : Tg w g S v1 v2 v3 us ls x a f W) (hu : W.ownsRow (g + 1) 3 1 u lg.length (ivs lg)) (ho9 : W'.ownsRow (g + 1) 50 3 v9 (S.bs.length + 1) (bcs S.bs ls ++ [.int .i64 i, .string nm, u])) (hg9 : W.grownBy W' v2.ownBlock) :
    Tg w g ⟨S.nc, S.nb, S.cs, S.bs ++ [⟨i, nm, lg⟩], S.us⟩ v1 v9 v3 us (ls ++ [u]) x a f (W'.setCell ⟨g, 3, none⟩ v9) := by
  obtain ⟨h1, h2, h3, h4, h5⟩ := h.grow (j := 3) (v9 := v9) h.ow.b.row (.inr (.inl rfl)) hg9
  have hk := rk_set (x := v9) (j := 3) h1
  refine ⟨heap_setCell h1 3 v9, ⟨?_, ?_, ?_⟩, h2, h3, h4, h.hg⟩
  · exact (h.ow.c.rk h5 (by decide) (by decide) (by decide)).rk hk (by decide) (by decide) (by decide)
  · exact (OwBr.app (x := ⟨i, nm, lg⟩) h.ow.b hu ho9 h5).rk hk (by decide) (by decide)
  · exact hk _ _ _ _ _ _ (by decide) (h5 _ _ _ _ _ _ (by decide) h.ow.u)
theorem tg_co {n c q : Int} {ps : List Int} {d o : List OpD} {u1 u2 u3 v9 : Value} (h : Tg w g S v1 v2 v3 us ls x a f W) (hu1 : W.ownsRow (g + 1) 3 1 u1 ps.length (ivs ps)) (hu2 : W.ownsRow (g + 1) 96 3 u2 d.length (ocs d)) (hu3 : W.ownsRow (g + 1) 96 3 u3 o.length (ocs o)) (ho9 : W'.ownsRow (g + 1) 48 6 v9 (S.cs.length + 1) (ccs S.cs us ++ [.int .i64 n, u1, u2, u3, .int .i64 c, .int .i64 q])) (hg9 : W.grownBy W' v1.ownBlock) :
    Tg w g ⟨S.nc, S.nb, S.cs ++ [⟨n, ps, d, o, c, q⟩], S.bs, S.us⟩ v9 v2 v3 (us ++ [(u1, u2, u3)]) ls x a f (W'.setCell ⟨g, 2, none⟩ v9) := by
  obtain ⟨h1, h2, h3, h4, h5⟩ := h.grow (j := 2) (v9 := v9) h.ow.c.row (.inl rfl) hg9
  have hk := rk_set (x := v9) (j := 2) h1
  refine ⟨heap_setCell h1 2 v9, ⟨?_, ?_, ?_⟩, h2, h3, h4, h.hg⟩
  · exact (OwCo.app (x := ⟨n, ps, d, o, c, q⟩) (u := (u1, u2, u3)) h.ow.c hu1 hu2 hu3 ho9 h5).rk hk (by decide) (by decide) (by decide)
  · exact (h.ow.b.rk h5 (by decide) (by decide)).rk hk (by decide) (by decide)
  · exact hk _ _ _ _ _ _ (by decide) (h5 _ _ _ _ _ _ (by decide) h.ow.u)
theorem tg_cu {c b q : Int} {v9 : Value} (h : Tg w g S v1 v2 v3 us ls x a f W) (ho9 : W'.ownsRow (g + 1) 61 3 v9 (S.us.length + 1) (ucs S.us ++ [.int .i64 c, .int .i64 b, .int .i64 q])) (hg9 : W.grownBy W' v3.ownBlock) :
    Tg w g ⟨S.nc, S.nb, S.cs, S.bs, S.us ++ [⟨c, b, q⟩]⟩ v1 v2 v9 us ls x a f (W'.setCell ⟨g, 4, none⟩ v9) := by
  obtain ⟨h1, h2, h3, h4, h5⟩ := h.grow (j := 4) (v9 := v9) h.ow.u (.inr (.inr rfl)) hg9
  have hk := rk_set (x := v9) (j := 4) h1
  refine ⟨heap_setCell h1 4 v9, ⟨?_, ?_, ?_⟩, h2, h3, h4, h.hg⟩
  · exact (h.ow.c.rk h5 (by decide) (by decide) (by decide)).rk hk (by decide) (by decide) (by decide)
  · exact (h.ow.b.rk h5 (by decide) (by decide)).rk hk (by decide) (by decide)
  · show World.ownsRow _ _ _ _ _ (S.us ++ [_]).length (ucs (S.us ++ [_]))
    rw [List.length_append, ucs_app]
    exact hk _ _ _ _ _ _ (by decide) ho9
theorem tg_nx {n m : Int} (h : Tg w g S v1 v2 v3 us ls x a f W) : Tg w g ⟨n, m, S.cs, S.bs, S.us⟩ v1 v2 v3 us ls x a f ((W.setCell ⟨g, 0, none⟩ (.int .i64 n)).setCell ⟨g, 1, none⟩ (.int .i64 m)) := by
  have h1 := h.hg
  have k1 := heap_setCell h.sb 0 (.int .i64 n)
  have k2 := heap_setCell k1 1 (.int .i64 m)
  have hs := fun k (hn : k ≠ g) => (Below.heap_setCell (W.setCell ⟨g, 0, none⟩ (.int .i64 n)) ⟨g, 1, none⟩ (.int .i64 m) k (by simp only; omega)).trans (Below.heap_setCell W ⟨g, 0, none⟩ (.int .i64 n) k (by simp only; omega))
  have ow2 := (h.ow.rk (rk_set (x := .int .i64 n) (j := 0) h.sb) noRow_st).rk (rk_set (x := .int .i64 m) (j := 1) k1) noRow_st
  refine ⟨k2, ⟨ow2.c, ow2.b, ow2.u⟩, (hs _ (by omega)).trans h.rq, (hs _ (by omega)).trans h.pb, (h.bl.setCell (p := ⟨g, 0, none⟩) (Nat.le_refl _) _).setCell (p := ⟨g, 1, none⟩) (Nat.le_refl _) _, h.hg⟩
end
end Go.Proofs.Ytdheddgdlindmaa

/-
  The reference's add: the next numbers.
-/
namespace Go.Proofs.Ytdheddgdlindmaa
open Go.ChangeShapes Go.WideShapes Go.ChangeAt Go.RowKit Go.PlainAid

/-- The key's first byte. -/
theorem key_one {k : ByteArray} (h0 : k.size ≠ 0) : ∃ c : UInt8, k.extract 0 1 = ⟨#[c]⟩ ∧ bt k 0 = (c.toNat : Int) := by
  obtain ⟨⟨l⟩⟩ := k
  cases l with
  | nil => exact absurd rfl h0
  | cons c l =>
    refine ⟨c, ?_, ?_⟩
    · apply ByteArray.ext
      simp [ByteArray.data_extract]
    · have hd := bt_data ⟨⟨c :: l⟩⟩ 0 (by show 0 < (c :: l).length; simp)
      rw [hd]
      simp
section
variable {w W W' : World} {g : Nat} {S : StD} {v1 v2 v3 : Value} {us : List (Value × Value × Value)} {ls : List Value} {x : PaD} {a a' : Int} {f f' : Bool}
theorem tg_n0 {n : Int} (h : Tg w g S v1 v2 v3 us ls x a f W) : Tg w g ⟨n, S.nb, S.cs, S.bs, S.us⟩ v1 v2 v3 us ls x a f (W.setCell ⟨g, 0, none⟩ (.int .i64 n)) := by
  have h1 := h.hg
  have hs := fun k (hn : k ≠ g) => Below.heap_setCell W ⟨g, 0, none⟩ (.int .i64 n) k (by simp only; omega)
  have ow2 := h.ow.rk (rk_set (x := .int .i64 n) (j := 0) h.sb) noRow_st
  exact ⟨heap_setCell h.sb 0 _, ⟨ow2.c, ow2.b, ow2.u⟩, (hs _ (by omega)).trans h.rq, (hs _ (by omega)).trans h.pb, h.bl.setCell (p := ⟨g, 0, none⟩) (Nat.le_refl _) _, h.hg⟩
theorem tg_n1 {n : Int} (h : Tg w g S v1 v2 v3 us ls x a f W) : Tg w g ⟨S.nc, n, S.cs, S.bs, S.us⟩ v1 v2 v3 us ls x a f (W.setCell ⟨g, 1, none⟩ (.int .i64 n)) := by
  have h1 := h.hg
  have hs := fun k (hn : k ≠ g) => Below.heap_setCell W ⟨g, 1, none⟩ (.int .i64 n) k (by simp only; omega)
  have ow2 := h.ow.rk (rk_set (x := .int .i64 n) (j := 1) h.sb) noRow_st
  exact ⟨heap_setCell h.sb 1 _, ⟨ow2.c, ow2.b, ow2.u⟩, (hs _ (by omega)).trans h.rq, (hs _ (by omega)).trans h.pb, h.bl.setCell (p := ⟨g, 1, none⟩) (Nat.le_refl _) _, h.hg⟩
end
set_option maxRecDepth 20000 in
set_option maxHeartbeats 3000000 in
theorem add_nx (g : Nat) (S : StD) (v1 v2 v3 : Value) (us : List (Value × Value × Value)) (ls : List Value) (x : PaD) (w : World) (hS : SB w g S v1 v2 v3) (hO : OwSt w (g + 1) v1 v2 v3 S us ls) (hv : x.v.size ≤ 1099511627776) (h0 : x.k.size ≠ 0) (hk : bt x.k 0 = 110) :
    Calls Try.prog 34 #[.pointer (some ⟨g, 0, none⟩), .agg #[.string x.k, .string x.v]] w fun e w' => ∃ v1 v2 v3 us ls, e = .returned (.bool (adN S x.v).2) ∧ SB w' g (adN S x.v).1 v1 v2 v3 ∧ OwSt w' (g + 1) v1 v2 v3 (adN S x.v).1 us ls ∧ Below g w w' := by
  have hvm : x.v.size ≤ maxLen := by unfold maxLen; omega
  have T0 := tg_new (x := x) hS hO
  have hb := get_bt x.k
  have c1 := fun W (h : Tg w g S v1 v2 v3 us ls x 0 false W) => gnum_any _ x.v 0 false W h.rq hvm
  rcases hx1 : gnF x.v 0 false with ⟨n, a1, f1⟩
  rw [hx1] at c1
  have c2 := fun (S : StD) W (h : Tg w g S v1 v2 v3 us ls x a1 f1 W) => gnum_any _ x.v a1 f1 W h.rq hvm
  rcases hx2 : gnF x.v a1 f1 with ⟨m, a2, f2⟩
  rw [hx2] at c2
  have HC : adN S x.v = (⟨n, m, S.cs, S.bs, S.us⟩, !f2) := by unfold adN; simp only [hx1, hx2]
  rw [HC]
  simp only at c1 c2 ⊢
  clear hx1 hx2 HC
  obtain ⟨c, hc, hc2⟩ := key_one h0
  obtain rfl : c = 110 := UInt8.toNat_inj.1 (by rw [hk] at hc2; have : c.toNat = 110 := by omega
                                                exact this)
  clear hc2
  have hpos : (0 : Int) < (x.k.size : Int) := by omega
  have hne : x.k.toList.isEmpty = false := by
    rw [Go.ByteArray.toList_eq]
    cases h : x.k.data.toList with
    | nil => exact absurd (by rw [← data_len, h]; rfl) h0
    | cons => rfl
  have hpb := heap_alloc_new w (.cells #[.string x.k, .string x.v] 44)
  have p0 : (w.alloc (.cells #[.string x.k, .string x.v] 44)).cell? ⟨w.heap.size, 0, none⟩ = some (.string x.k) := cell_of_row _ _ 0 _ _ (0, 0) hpb
  have p1 : (w.alloc (.cells #[.string x.k, .string x.v] 44)).cell? ⟨w.heap.size, 1, none⟩ = some (.string x.v) := cell_of_row _ _ 1 _ _ (0, 0) hpb
  have p2 := cell_of_row _ _ 0 _ _ (0, 0) T0.pb
  clear hpb
  go_enter Try.func34, Try.ntmps34
  go_wp2_with fail
  refine (c1 _ T0).mono ?_
  rintro e w1 ⟨rfl, hr1, hg1⟩
  have T1 := T0.call hr1 hg1
  have f1 := frz T1.sb 0
  obtain ⟨y0, y1, y2, y3, y4⟩ := cellsSB T1.sb
  have U1 := tg_n0 (n := n) T1
  clear T0 c1 p0 p1 p2 T1
  go_wp2_with fail
  refine (c2 _ _ U1).mono ?_
  rintro e w2 ⟨rfl, hr2, hg2⟩
  have T2 := U1.call hr2 hg2
  have T9 := tg_n1 (n := m) T2
  clear y0 y1 y2 y3 y4
  obtain ⟨y0, y1, y2, y3, y4⟩ := cellsSB T2.sb
  have z1 := frz T2.sb 1
  obtain ⟨q0, q1, q2⟩ := cellsRXr T2.rq
  obtain ⟨s0, s1, s2⟩ := cellsRXr T9.rq
  clear U1 c2 hS hO
  cases f2
  · go_wp2_with fail
    go_ret
    exact ⟨_, _, _, _, _, rfl, T9.sb, T9.ow, T9.bl⟩
  · go_wp2_with fail
    go_ret
    exact ⟨_, _, _, _, _, rfl, T9.sb, T9.ow, T9.bl⟩
end Go.Proofs.Ytdheddgdlindmaa

/-
  The reference's add: a client.
-/
namespace Go.Proofs.Ytdheddgdlindmaa
open Go.ChangeShapes Go.WideShapes Go.ChangeAt Go.RowKit Go.PlainAid

section
variable {w W W' : World} {g : Nat} {S : StD} {v1 v2 v3 : Value} {us : List (Value × Value × Value)} {ls : List Value} {x : PaD} {a a' : Int} {f f' : Bool}
/-- The rows of the state lie ahead of what add makes. -/
def Ah (n : Nat) (v1 v2 v3 : Value) : Prop := ∀ v : Value, v = v1 ∨ v = v2 ∨ v = v3 → ∀ k, v.ownBlock = some k → k < n
theorem OwSt.ah {B : Nat} (h : OwSt W B v1 v2 v3 S us ls) : Ah W.heap.size v1 v2 v3 := by
  intro v hv k hk
  rcases hv with rfl | rfl | rfl
  · exact (h.c.row.lt k hk).2
  · exact (h.b.row.lt k hk).2
  · exact (h.u.lt k hk).2
/-- A local box is written to. -/
theorem Tg.box {k j : Nat} {c : Array Value} {t0 : TypeId} {y : Value} (h : Tg w g S v1 v2 v3 us ls x a f W) (hA : Ah w.heap.size v1 v2 v3) (hb : W.heap[k]? = some (.cells c t0)) (hk : w.heap.size + 1 < k) (ht : 3 ≠ t0 ∧ 96 ≠ t0) : Tg w g S v1 v2 v3 us ls x a f (W.setCell ⟨k, j, none⟩ y) := by
  have h1 := h.hg
  have hs := fun i (hn : i ≠ k) => Below.heap_setCell W ⟨k, j, none⟩ y i (by simp only; omega)
  have hg := grown_set W k j y
  have hR := rk_box hb hg
  have hn : ∀ v : Value, v = v1 ∨ v = v2 ∨ v = v3 → v.ownBlock ≠ some k := fun v hv e => by have := hA v hv k e; omega
  refine ⟨(hs _ (by omega)).trans h.sb, ⟨⟨h.ow.c.ul, h.ow.c.row.kept hg (.inr (hn _ (.inl rfl))), fun i z u hi hu => ?_⟩, ⟨h.ow.b.ul, h.ow.b.row.kept hg (.inr (hn _ (.inr (.inl rfl)))), fun i z u hi hu => ?_⟩, h.ow.u.kept hg (.inr (hn _ (.inr (.inr rfl))))⟩, (hs _ (by omega)).trans h.rq, (hs _ (by omega)).trans h.pb, h.bl.setCell (p := ⟨k, j, none⟩) (by simp only; omega) _, h.hg⟩
  · obtain ⟨i1, i2, i3⟩ := h.ow.c.inn i z u hi hu
    exact ⟨hR _ _ _ _ _ _ ht.1 i1, hR _ _ _ _ _ _ ht.2 i2, hR _ _ _ _ _ _ ht.2 i3⟩
  · exact hR _ _ _ _ _ _ ht.1 (h.ow.b.inn i z u hi hu)
theorem box_call {k q : Nat} {o : Obj} (hb : W.heap[k]? = some o) (hk : q < k) (hg : W.grownBy W' (some q)) : W'.heap[k]? = some o := (hg.block k (heap_lt hb) (by simp; omega)).trans hb
end
theorem cells3 {W : World} {k : Nat} {a b c : Value} {t : TypeId} (h : W.heap[k]? = some (.cells #[a, b, c] t)) : W.cell? ⟨k, 0, none⟩ = some a ∧ W.cell? ⟨k, 1, none⟩ = some b ∧ W.cell? ⟨k, 2, none⟩ = some c :=
  ⟨cell_of_row _ _ 0 _ _ (0, 0) h, cell_of_row _ _ 1 _ _ (0, 0) h, cell_of_row _ _ 2 _ _ (0, 0) h⟩
set_option maxRecDepth 20000 in
set_option maxHeartbeats 3000000 in
theorem add_cu (g : Nat) (S : StD) (v1 v2 v3 : Value) (us : List (Value × Value × Value)) (ls : List Value) (x : PaD) (w : World) (hS : SB w g S v1 v2 v3) (hO : OwSt w (g + 1) v1 v2 v3 S us ls) (hv : x.v.size ≤ 1099511627776) (hl : S.us.length ≤ 2000000) (h0 : x.k.size ≠ 0) (hk1 : bt x.k 0 ≠ 98) (hk2 : bt x.k 0 ≠ 99) (hk3 : bt x.k 0 ≠ 110) :
    Calls Try.prog 34 #[.pointer (some ⟨g, 0, none⟩), .agg #[.string x.k, .string x.v]] w fun e w' => ∃ v1 v2 v3 us ls, e = .returned (.bool (adU S x.v).2) ∧ SB w' g (adU S x.v).1 v1 v2 v3 ∧ OwSt w' (g + 1) v1 v2 v3 (adU S x.v).1 us ls ∧ Below g w w' := by
  obtain ⟨i0, hin, hz0, hz1, hz2⟩ := info_parts Try.infoCu
  have hvm : x.v.size ≤ maxLen := by unfold maxLen; omega
  have hA := hO.ah
  have T0 := tg_new (x := x) hS hO
  have c1 := fun W (h : Tg w g S v1 v2 v3 us ls x 0 false W) => gnum_any _ x.v 0 false W h.rq hvm
  rcases hx1 : gnF x.v 0 false with ⟨i, a1, f1⟩
  rw [hx1] at c1
  have c2 := fun W (h : Tg w g S v1 v2 v3 us ls x a1 f1 W) => gnum_any _ x.v a1 f1 W h.rq hvm
  rcases hx2 : gnF x.v a1 f1 with ⟨nm, a2, f2⟩
  rw [hx2] at c2
  have c3 := fun W (h : Tg w g S v1 v2 v3 us ls x a2 f2 W) => gnum_any _ x.v a2 f2 W h.rq hvm
  rcases hx3 : gnF x.v a2 f2 with ⟨lg, a3, f3⟩
  rw [hx3] at c3
  have HC : adU S x.v = (⟨S.nc, S.nb, S.cs, S.bs, S.us ++ [⟨i, nm, lg⟩]⟩, !f3) := by unfold adU; simp only [hx1, hx2, hx3]
  rw [HC]
  simp only at c1 c2 c3 ⊢
  clear hx1 hx2 hx3 HC
  obtain ⟨c, hc, hc2⟩ := key_one h0
  rw [hc2] at hk1 hk2 hk3
  have d1 : (c == 98) = false := beq_eq_false_iff_ne.2 fun e => hk1 (by rw [e]; rfl)
  have d2 : (c == 99) = false := beq_eq_false_iff_ne.2 fun e => hk2 (by rw [e]; rfl)
  have d3 : (c == 110) = false := beq_eq_false_iff_ne.2 fun e => hk3 (by rw [e]; rfl)
  clear hc2 hk1 hk2 hk3
  have hpos : (0 : Int) < (x.k.size : Int) := by omega
  have hne : x.k.toList.isEmpty = false := by
    rw [Go.ByteArray.toList_eq]
    cases h : x.k.data.toList with
    | nil => exact absurd (by rw [← data_len, h]; rfl) h0
    | cons => rfl
  have hpb := heap_alloc_new w (.cells #[.string x.k, .string x.v] 44)
  have p0 : (w.alloc (.cells #[.string x.k, .string x.v] 44)).cell? ⟨w.heap.size, 0, none⟩ = some (.string x.k) := cell_of_row _ _ 0 _ _ (0, 0) hpb
  have p1 : (w.alloc (.cells #[.string x.k, .string x.v] 44)).cell? ⟨w.heap.size, 1, none⟩ = some (.string x.v) := cell_of_row _ _ 1 _ _ (0, 0) hpb
  have p2 := cell_of_row _ _ 0 _ _ (0, 0) T0.pb
  clear hpb
  go_enter Try.func34, Try.ntmps34
  go_wp2_with fail
  refine (c1 _ T0).mono ?_
  rintro e w1 ⟨rfl, hr1, hg1⟩
  have T1 := T0.call hr1 hg1
  have hal1 := alloc_bR w1 (.cells #[.int .i64 i, .int .i64 0, .int .i64 0] 61)
  have U1 := T1.below hal1
  have B1 := heap_alloc_new w1 (.cells #[.int .i64 i, .int .i64 0, .int .i64 0] 61)
  have hkb := T1.lt
  clear T0 c1 p0 p1 p2 T1 hS hO hal1 hr1 hg1
  go_wp2_with fail
  refine (c2 _ U1).mono ?_
  rintro e w2 ⟨rfl, hr2, hg2⟩
  have T2 := U1.call hr2 hg2
  have B2 := box_call B1 hkb hg2
  have z2 := frz B2 1
  obtain ⟨y0, y1, y2⟩ := cells3 B2
  have U2 := T2.box (j := 1) (y := .int .i64 nm) hA B2 hkb ⟨by decide, by decide⟩
  have C2 := heap_setCell B2 1 (.int .i64 nm)
  clear U1 B1 c2 T2 hr2 hg2
  go_wp2_with fail
  refine (c3 _ U2).mono ?_
  rintro e w3 ⟨rfl, hr3, hg3⟩
  clear y0 y1 y2 z2
  have T3 := U2.call hr3 hg3
  have B3 := box_call C2 hkb hg3
  have z3 := frz B3 2
  obtain ⟨y0, y1, y2⟩ := cells3 B3
  have U3 := T3.box (j := 2) (y := .int .i64 lg) hA B3 hkb ⟨by decide, by decide⟩
  have C3 := heap_setCell B3 2 (.int .i64 lg)
  clear U2 B2 C2 c3 T3 hr3 hg3
  go_upto_region 8 with fail
  clear y0 y1 y2 z3 B3
  generalize hW3 : w3.setCell ⟨w1.heap.size, 2, none⟩ (.int .i64 lg) = W3 at *
  have C3' : W3.heap[w1.heap.size]? = some (.cells #[.int .i64 i, .int .i64 nm, .int .i64 lg] 61) := C3
  obtain ⟨a2, k2, rfl⟩ := own_form U3.ow.u
  clear hW3 C3
  have hal := alloc_bR W3 (.cells #[.int .i64 i, .int .i64 nm, .int .i64 lg] 61)
  have TA := U3.below hal
  have CA := (hal.block _ (heap_lt C3')).trans C3'
  have T4 := TA.below (Below.drew (Below.refl _ _))
  obtain ⟨y0, y1, y2, y3, y4⟩ := cellsSB U3.sb
  obtain ⟨t0, t1, t2, t3, t4⟩ := cellsSB TA.sb
  obtain ⟨r0, r1, r2⟩ := cells3 C3'
  obtain ⟨s0, s1, s2⟩ := cells3 CA
  go_region_law (first
    | (refine step_append_lies _ (by rfl) (.tmp 32) (.tmp 34) 24 (by rfl) (g + 1) 61 i0 (.agg #[.int .i64 0, .int .i64 0, .int .i64 0]) 3 24 Try.underlying24 hin hz0 hz1 hz2 rfl (by decide) _ S.us.length _ (by rfl) T4.ow.u ⟨_, 0, none⟩ 1 1 [.int .i64 i, .int .i64 nm, .int .i64 lg] (by rfl) rfl (many_new _ _ _) (three_cu _ _ _) (by decide) (by unfold maxLen; omega) (by omega) (by have := T4.lt; have := T4.hg; omega) _ rfl ?_; intro g9 cap9 w9 ho9 hg9 hgg hgl; have T9 := tg_cu T4 ho9 hg9; obtain ⟨hE9, -⟩ := T4.grow (j := 4) (v9 := .slice none 0 0) T4.ow.u (.inr (.inr rfl)) hg9; obtain ⟨p0, p1, p2, p3, p4⟩ := cellsSB hE9; have p6 := frz hE9 4))
  all_goals
    obtain ⟨q0, q1, q2⟩ := cellsRXr T9.rq
    clear U3 TA T4 y0 y1 y2 y3 y4 r0 r1 r2 s0 s1 s2 t0 t1 t2 t3 t4 p0 p1 p2 p3 p4 p6 hE9 ho9 hg9 hal C3' CA
    go_wp2_with fail
    go_ret
    exact ⟨_, _, _, _, _, rfl, T9.sb, T9.ow, T9.bl⟩
end Go.Proofs.Ytdheddgdlindmaa

/-
  The reference's add: a branch.
-/
namespace Go.Proofs.Ytdheddgdlindmaa
open Go.ChangeShapes Go.WideShapes Go.ChangeAt Go.RowKit Go.PlainAid

set_option maxRecDepth 20000 in
set_option maxHeartbeats 3000000 in
theorem add_br (g : Nat) (S : StD) (v1 v2 v3 : Value) (us : List (Value × Value × Value)) (ls : List Value) (x : PaD) (w : World) (hS : SB w g S v1 v2 v3) (hO : OwSt w (g + 1) v1 v2 v3 S us ls) (hv : x.v.size ≤ 1099511627776) (hl : S.bs.length ≤ 2000000) (h0 : x.k.size ≠ 0) (hk : bt x.k 0 = 98) :
    Calls Try.prog 34 #[.pointer (some ⟨g, 0, none⟩), .agg #[.string x.k, .string x.v]] w fun e w' => ∃ v1 v2 v3 us ls, e = .returned (.bool (adB S x.v).2) ∧ SB w' g (adB S x.v).1 v1 v2 v3 ∧ OwSt w' (g + 1) v1 v2 v3 (adB S x.v).1 us ls ∧ Below g w w' := by
  obtain ⟨i0, hin, hz0, hz1, hz2⟩ := info_parts Try.infoBr
  have hvm : x.v.size ≤ maxLen := by unfold maxLen; omega
  have hA := hO.ah
  have T0 := tg_new (x := x) hS hO
  have c1 := fun W (h : Tg w g S v1 v2 v3 us ls x 0 false W) => gnum_any _ x.v 0 false W h.rq hvm
  rcases hx1 : gnF x.v 0 false with ⟨i, a1, f1⟩
  rw [hx1] at c1
  have c2 := fun W (h : Tg w g S v1 v2 v3 us ls x a1 f1 W) => gtext_any _ x.v a1 f1 W h.rq hvm
  rcases hx2 : gtF x.v a1 f1 with ⟨nm, a2, f2⟩
  rw [hx2] at c2
  have c3 := fun W (h : Tg w g S v1 v2 v3 us ls x a2 f2 W) => gnumbers_any _ x.v a2 f2 W h.rq hv
  rcases hx3 : gcF x.v a2 f2 with ⟨lg, a3, f3⟩
  rw [hx3] at c3
  have HC : adB S x.v = (⟨S.nc, S.nb, S.cs, S.bs ++ [⟨i, nm, lg⟩], S.us⟩, !f3) := by unfold adB; simp only [hx1, hx2, hx3]
  rw [HC]
  simp only at c1 c2 c3 ⊢
  clear hx1 hx2 hx3 HC
  obtain ⟨c, hc, hc2⟩ := key_one h0
  obtain rfl : c = 98 := UInt8.toNat_inj.1 (by rw [hk] at hc2; have : c.toNat = 98 := by omega
                                               exact this)
  clear hc2
  have hpos : (0 : Int) < (x.k.size : Int) := by omega
  have hne : x.k.toList.isEmpty = false := by
    rw [Go.ByteArray.toList_eq]
    cases h : x.k.data.toList with
    | nil => exact absurd (by rw [← data_len, h]; rfl) h0
    | cons => rfl
  have hpb := heap_alloc_new w (.cells #[.string x.k, .string x.v] 44)
  have p0 : (w.alloc (.cells #[.string x.k, .string x.v] 44)).cell? ⟨w.heap.size, 0, none⟩ = some (.string x.k) := cell_of_row _ _ 0 _ _ (0, 0) hpb
  have p1 : (w.alloc (.cells #[.string x.k, .string x.v] 44)).cell? ⟨w.heap.size, 1, none⟩ = some (.string x.v) := cell_of_row _ _ 1 _ _ (0, 0) hpb
  have p2 := cell_of_row _ _ 0 _ _ (0, 0) T0.pb
  clear hpb
  go_enter Try.func34, Try.ntmps34
  go_wp2_with fail
  refine (c1 _ T0).mono ?_
  rintro e w1 ⟨rfl, hr1, hg1⟩
  have T1 := T0.call hr1 hg1
  have hal1 := alloc_bR w1 (.cells #[.int .i64 i, .string ⟨#[]⟩, .slice none 0 0] 50)
  have U1 := T1.below hal1
  have B1 := heap_alloc_new w1 (.cells #[.int .i64 i, .string ⟨#[]⟩, .slice none 0 0] 50)
  have hkb := T1.lt
  clear T0 c1 p0 p1 p2 T1 hS hO hal1 hr1 hg1
  go_wp2_with fail
  refine (c2 _ U1).mono ?_
  rintro e w2 ⟨rfl, hr2, hg2⟩
  have T2 := U1.call hr2 hg2
  have B2 := box_call B1 hkb hg2
  have z2 := frz B2 1
  obtain ⟨y0, y1, y2⟩ := cells3 B2
  have U2 := T2.box (j := 1) (y := .string nm) hA B2 hkb ⟨by decide, by decide⟩
  have C2 := heap_setCell B2 1 (.string nm)
  clear U1 B1 c2 T2 hr2 hg2
  go_wp2_with fail
  refine (c3 _ U2).mono ?_
  rintro e w3 ⟨u, rfl, hou, hr3, hg3⟩
  obtain ⟨au, ku, rfl⟩ := own_form hou
  clear y0 y1 y2 z2
  have T3 := U2.call hr3 hg3
  have B3 := box_call C2 hkb hg3
  have z3 := frz B3 2
  obtain ⟨y0, y1, y2⟩ := cells3 B3
  have U3 := T3.box (j := 2) (y := .slice au lg.length ku) hA B3 hkb ⟨by decide, by decide⟩
  have C3 := heap_setCell B3 2 (.slice au lg.length ku)
  have hoU := own_lower (rk_box B3 (grown_set w3 w1.heap.size 2 (.slice au lg.length ku)) _ _ _ _ _ _ (by decide) hou) (b' := g + 1) (by have := U2.lt; have := U2.hg; omega)
  clear U2 B2 C2 c3 T3 hr3 hg3 hou
  go_upto_region 13 with fail
  clear y0 y1 y2 z3 B3
  generalize hW3 : w3.setCell ⟨w1.heap.size, 2, none⟩ (.slice au lg.length ku) = W3 at *
  have C3' : W3.heap[w1.heap.size]? = some (.cells #[.int .i64 i, .string nm, .slice au lg.length ku] 50) := C3
  obtain ⟨a2, k2, rfl⟩ := own_form U3.ow.b.row
  clear hW3 C3
  have hal := alloc_bR W3 (.cells #[.int .i64 i, .string nm, .slice au lg.length ku] 50)
  have TA := U3.below hal
  have CA := (hal.block _ (heap_lt C3')).trans C3'
  have T4 := TA.below (Below.drew (Below.refl _ _))
  have hoV := own_belowG (own_belowG hoU hal) (Below.drew (Below.refl _ _))
  obtain ⟨y0, y1, y2, y3, y4⟩ := cellsSB U3.sb
  obtain ⟨t0, t1, t2, t3, t4⟩ := cellsSB TA.sb
  obtain ⟨r0, r1, r2⟩ := cells3 C3'
  obtain ⟨s0, s1, s2⟩ := cells3 CA
  go_region_law (first
    | (refine step_append_lies _ (by rfl) (.tmp 53) (.tmp 55) 23 (by rfl) (g + 1) 50 i0 (.agg #[.int .i64 0, .string ⟨#[]⟩, .slice none 0 0]) 3 48 Try.underlying23 hin hz0 hz1 hz2 rfl (by decide) _ S.bs.length _ (by rfl) T4.ow.b.row ⟨_, 0, none⟩ 1 1 [.int .i64 i, .string nm, .slice au lg.length ku] (by rfl) rfl (many_new _ _ _) (three_br _ _ _ _ _) (by decide) (by unfold maxLen; omega) (by omega) (by have := T4.lt; have := T4.hg; omega) _ rfl ?_; intro g9 cap9 w9 ho9 hg9 hgg hgl; have T9 := tg_br T4 hoV ho9 hg9; obtain ⟨hE9, -⟩ := T4.grow (j := 3) (v9 := .slice none 0 0) T4.ow.b.row (.inr (.inl rfl)) hg9; obtain ⟨p0, p1, p2, p3, p4⟩ := cellsSB hE9; have p6 := frz hE9 3))
  all_goals
    obtain ⟨q0, q1, q2⟩ := cellsRXr T9.rq
    clear U3 TA T4 y0 y1 y2 y3 y4 r0 r1 r2 s0 s1 s2 t0 t1 t2 t3 t4 p0 p1 p2 p3 p4 p6 hE9 ho9 hg9 hal C3' CA hoU hoV
    go_wp2_with fail
    go_ret
    exact ⟨_, _, _, _, _, rfl, T9.sb, T9.ow, T9.bl⟩
end Go.Proofs.Ytdheddgdlindmaa

/-
  The reference's add: a commit. (By tools/gen/genRgG.py.)
-/
namespace Go.Proofs.Ytdheddgdlindmaa
open Go.ChangeShapes Go.WideShapes Go.ChangeAt Go.RowKit Go.PlainAid

theorem cells6 {W : World} {k : Nat} {a b c d e f : Value} {t : TypeId} (h : W.heap[k]? = some (.cells #[a, b, c, d, e, f] t)) : W.cell? ⟨k, 0, none⟩ = some a ∧ W.cell? ⟨k, 1, none⟩ = some b ∧ W.cell? ⟨k, 2, none⟩ = some c ∧ W.cell? ⟨k, 3, none⟩ = some d ∧ W.cell? ⟨k, 4, none⟩ = some e ∧ W.cell? ⟨k, 5, none⟩ = some f :=
  ⟨cell_of_row _ _ 0 _ _ (0, 0) h, cell_of_row _ _ 1 _ _ (0, 0) h, cell_of_row _ _ 2 _ _ (0, 0) h, cell_of_row _ _ 3 _ _ (0, 0) h, cell_of_row _ _ 4 _ _ (0, 0) h, cell_of_row _ _ 5 _ _ (0, 0) h⟩
set_option maxRecDepth 20000 in
set_option maxHeartbeats 9000000 in
theorem add_co (g : Nat) (S : StD) (v1 v2 v3 : Value) (us : List (Value × Value × Value)) (ls : List Value) (x : PaD) (w : World) (hS : SB w g S v1 v2 v3) (hO : OwSt w (g + 1) v1 v2 v3 S us ls) (hv : x.v.size ≤ 1099511627776) (hl : S.cs.length ≤ 2000000) (h0 : x.k.size ≠ 0) (hk : bt x.k 0 = 99) :
    Calls Try.prog 34 #[.pointer (some ⟨g, 0, none⟩), .agg #[.string x.k, .string x.v]] w fun e w' => ∃ v1 v2 v3 us ls, e = .returned (.bool (adC S x.v).2) ∧ SB w' g (adC S x.v).1 v1 v2 v3 ∧ OwSt w' (g + 1) v1 v2 v3 (adC S x.v).1 us ls ∧ Below g w w' := by
  obtain ⟨i0, hin, hz0, hz1, hz2⟩ := info_parts Try.infoCm
  have hvm : x.v.size ≤ maxLen := by unfold maxLen; omega
  have hA := hO.ah
  have T0 := tg_new (x := x) hS hO
  have c1 := fun W (h : Tg w g S v1 v2 v3 us ls x 0 false W) => gnum_any _ x.v 0 false W h.rq hvm
  rcases hx1 : gnF x.v 0 false with ⟨n, a1, f1⟩
  rw [hx1] at c1
  have c2 := fun W (h : Tg w g S v1 v2 v3 us ls x a1 f1 W) => gnumbers_any _ x.v a1 f1 W h.rq hv
  rcases hx2 : gcF x.v a1 f1 with ⟨ps, a2, f2⟩
  rw [hx2] at c2
  have c3 := fun W (h : Tg w g S v1 v2 v3 us ls x a2 f2 W) => gdelta_any _ x.v a2 f2 W h.rq hvm
  rcases hx3 : gdF x.v a2 f2 with ⟨d, a3, f3⟩
  rw [hx3] at c3
  have c4 := fun W (h : Tg w g S v1 v2 v3 us ls x a3 f3 W) => gdelta_any _ x.v a3 f3 W h.rq hvm
  rcases hx4 : gdF x.v a3 f3 with ⟨o, a4, f4⟩
  rw [hx4] at c4
  have c5 := fun W (h : Tg w g S v1 v2 v3 us ls x a4 f4 W) => gnum_any _ x.v a4 f4 W h.rq hvm
  rcases hx5 : gnF x.v a4 f4 with ⟨c, a5, f5⟩
  rw [hx5] at c5
  have c6 := fun W (h : Tg w g S v1 v2 v3 us ls x a5 f5 W) => gnum_any _ x.v a5 f5 W h.rq hvm
  rcases hx6 : gnF x.v a5 f5 with ⟨q, a6, f6⟩
  rw [hx6] at c6
  have HC : adC S x.v = (⟨S.nc, S.nb, S.cs ++ [⟨n, ps, d, o, c, q⟩], S.bs, S.us⟩, !f6) := by unfold adC; simp only [hx1, hx2, hx3, hx4, hx5, hx6]
  rw [HC]
  simp only at c1 c2 c3 c4 c5 c6 ⊢
  clear hx1 hx2 hx3 hx4 hx5 hx6 HC
  obtain ⟨kc, hc, hc2⟩ := key_one h0
  obtain rfl : kc = 99 := UInt8.toNat_inj.1 (by rw [hk] at hc2; have : kc.toNat = 99 := by omega
                                                exact this)
  clear hc2
  have hpos : (0 : Int) < (x.k.size : Int) := by omega
  have hne : x.k.toList.isEmpty = false := by
    rw [Go.ByteArray.toList_eq]
    cases h : x.k.data.toList with
    | nil => exact absurd (by rw [← data_len, h]; rfl) h0
    | cons => rfl
  have hpb := heap_alloc_new w (.cells #[.string x.k, .string x.v] 44)
  have p0 : (w.alloc (.cells #[.string x.k, .string x.v] 44)).cell? ⟨w.heap.size, 0, none⟩ = some (.string x.k) := cell_of_row _ _ 0 _ _ (0, 0) hpb
  have p1 : (w.alloc (.cells #[.string x.k, .string x.v] 44)).cell? ⟨w.heap.size, 1, none⟩ = some (.string x.v) := cell_of_row _ _ 1 _ _ (0, 0) hpb
  have p2 := cell_of_row _ _ 0 _ _ (0, 0) T0.pb
  clear hpb
  go_enter Try.func34, Try.ntmps34
  go_wp2_with fail
  refine (c1 _ T0).mono ?_
  rintro e w1 ⟨rfl, hr1, hg1⟩
  have T1 := T0.call hr1 hg1
  have hal1 := alloc_bR w1 (.cells #[.int .i64 n, .slice none 0 0, .slice none 0 0, .slice none 0 0, .int .i64 0, .int .i64 0] 48)
  have U1 := T1.below hal1
  have C1 := heap_alloc_new w1 (.cells #[.int .i64 n, .slice none 0 0, .slice none 0 0, .slice none 0 0, .int .i64 0, .int .i64 0] 48)
  have hkb := T1.lt
  clear T0 c1 p0 p1 p2 T1 hS hO hal1 hr1 hg1
  go_wp2_with fail
  refine (c2 _ U1).mono ?_
  rintro e w2 ⟨u, rfl, hou, hr, hg⟩
  obtain ⟨u1a, u1k, rfl⟩ := own_form hou
  have T2 := U1.call hr hg
  have B2 := box_call C1 hkb hg
  have z2 := frz B2 1
  obtain ⟨y0, y1, y2, y3, y4, y5⟩ := cells6 B2
  have U2 := T2.box (j := 1) (y := .slice u1a ps.length u1k) hA B2 hkb ⟨by decide, by decide⟩
  have C2 := heap_setCell B2 1 (.slice u1a ps.length u1k)
  have hgs := grown_set w2 w1.heap.size 1 (.slice u1a ps.length u1k)
  have V1_2 := own_lower (rk_box B2 hgs _ _ _ _ _ _ (by decide) hou) (b' := g + 1) (by have := U1.lt; have := U1.hg; omega)
  clear T2 U1 C1 c2 hr hg hgs hou
  go_wp2_with fail
  refine (c3 _ U2).mono ?_
  rintro e w3 ⟨u, rfl, hou, hr, hg⟩
  obtain ⟨u2a, u2k, rfl⟩ := own_form hou
  clear y0 y1 y2 y3 y4 y5 z2 B2
  have T3 := U2.call hr hg
  have B3 := box_call C2 hkb hg
  have z3 := frz B3 2
  obtain ⟨y0, y1, y2, y3, y4, y5⟩ := cells6 B3
  have U3 := T3.box (j := 2) (y := .slice u2a d.length u2k) hA B3 hkb ⟨by decide, by decide⟩
  have C3 := heap_setCell B3 2 (.slice u2a d.length u2k)
  have hgs := grown_set w3 w1.heap.size 2 (.slice u2a d.length u2k)
  have V1_3 := rk_box B3 hgs _ _ _ _ _ _ (by decide) (rk_box U2.rq hg _ _ _ _ _ _ (by decide) V1_2)
  have V2_3 := own_lower (rk_box B3 hgs _ _ _ _ _ _ (by decide) hou) (b' := g + 1) (by have := U2.lt; have := U2.hg; omega)
  clear T3 U2 C2 c3 hr hg hgs V1_2 hou
  go_wp2_with fail
  refine (c4 _ U3).mono ?_
  rintro e w4 ⟨u, rfl, hou, hr, hg⟩
  obtain ⟨u3a, u3k, rfl⟩ := own_form hou
  clear y0 y1 y2 y3 y4 y5 z3 B3
  have T4 := U3.call hr hg
  have B4 := box_call C3 hkb hg
  have z4 := frz B4 3
  obtain ⟨y0, y1, y2, y3, y4, y5⟩ := cells6 B4
  have U4 := T4.box (j := 3) (y := .slice u3a o.length u3k) hA B4 hkb ⟨by decide, by decide⟩
  have C4 := heap_setCell B4 3 (.slice u3a o.length u3k)
  have hgs := grown_set w4 w1.heap.size 3 (.slice u3a o.length u3k)
  have V1_4 := rk_box B4 hgs _ _ _ _ _ _ (by decide) (rk_box U3.rq hg _ _ _ _ _ _ (by decide) V1_3)
  have V2_4 := rk_box B4 hgs _ _ _ _ _ _ (by decide) (rk_box U3.rq hg _ _ _ _ _ _ (by decide) V2_3)
  have V3_4 := own_lower (rk_box B4 hgs _ _ _ _ _ _ (by decide) hou) (b' := g + 1) (by have := U3.lt; have := U3.hg; omega)
  clear T4 U3 C3 c4 hr hg hgs V1_3 V2_3 hou
  go_wp2_with fail
  refine (c5 _ U4).mono ?_
  rintro e w5 ⟨rfl, hr, hg⟩
  clear y0 y1 y2 y3 y4 y5 z4 B4
  have T5 := U4.call hr hg
  have B5 := box_call C4 hkb hg
  have z5 := frz B5 4
  obtain ⟨y0, y1, y2, y3, y4, y5⟩ := cells6 B5
  have U5 := T5.box (j := 4) (y := .int .i64 c) hA B5 hkb ⟨by decide, by decide⟩
  have C5 := heap_setCell B5 4 (.int .i64 c)
  have hgs := grown_set w5 w1.heap.size 4 (.int .i64 c)
  have V1_5 := rk_box B5 hgs _ _ _ _ _ _ (by decide) (rk_box U4.rq hg _ _ _ _ _ _ (by decide) V1_4)
  have V2_5 := rk_box B5 hgs _ _ _ _ _ _ (by decide) (rk_box U4.rq hg _ _ _ _ _ _ (by decide) V2_4)
  have V3_5 := rk_box B5 hgs _ _ _ _ _ _ (by decide) (rk_box U4.rq hg _ _ _ _ _ _ (by decide) V3_4)
  clear T5 U4 C4 c5 hr hg hgs V1_4 V2_4 V3_4
  go_wp2_with fail
  refine (c6 _ U5).mono ?_
  rintro e w6 ⟨rfl, hr, hg⟩
  clear y0 y1 y2 y3 y4 y5 z5 B5
  have T6 := U5.call hr hg
  have B6 := box_call C5 hkb hg
  have z6 := frz B6 5
  obtain ⟨y0, y1, y2, y3, y4, y5⟩ := cells6 B6
  have U6 := T6.box (j := 5) (y := .int .i64 q) hA B6 hkb ⟨by decide, by decide⟩
  have C6 := heap_setCell B6 5 (.int .i64 q)
  have hgs := grown_set w6 w1.heap.size 5 (.int .i64 q)
  have V1_6 := rk_box B6 hgs _ _ _ _ _ _ (by decide) (rk_box U5.rq hg _ _ _ _ _ _ (by decide) V1_5)
  have V2_6 := rk_box B6 hgs _ _ _ _ _ _ (by decide) (rk_box U5.rq hg _ _ _ _ _ _ (by decide) V2_5)
  have V3_6 := rk_box B6 hgs _ _ _ _ _ _ (by decide) (rk_box U5.rq hg _ _ _ _ _ _ (by decide) V3_5)
  clear T6 U5 C5 c6 hr hg hgs V1_5 V2_5 V3_5
  go_upto_region 21 with fail
  clear y0 y1 y2 y3 y4 y5 z6 B6
  generalize hW6 : w6.setCell ⟨w1.heap.size, 5, none⟩ (.int .i64 q) = W6 at *
  have C6' : W6.heap[w1.heap.size]? = some (.cells #[.int .i64 n, .slice u1a ps.length u1k, .slice u2a d.length u2k, .slice u3a o.length u3k, .int .i64 c, .int .i64 q] 48) := C6
  obtain ⟨av, kv, rfl⟩ := own_form U6.ow.c.row
  clear hW6 C6
  have hal := alloc_bR W6 (.cells #[.int .i64 n, .slice u1a ps.length u1k, .slice u2a d.length u2k, .slice u3a o.length u3k, .int .i64 c, .int .i64 q] 48)
  have TA := U6.below hal
  have CA := (hal.block _ (heap_lt C6')).trans C6'
  have T4 := TA.below (Below.drew (Below.refl _ _))
  have hV1 := own_belowG (own_belowG V1_6 hal) (Below.drew (Below.refl _ _))
  have hV2 := own_belowG (own_belowG V2_6 hal) (Below.drew (Below.refl _ _))
  have hV3 := own_belowG (own_belowG V3_6 hal) (Below.drew (Below.refl _ _))
  obtain ⟨y0, y1, y2, y3, y4⟩ := cellsSB U6.sb
  obtain ⟨t0, t1, t2, t3, t4⟩ := cellsSB TA.sb
  obtain ⟨r0, r1, r2, r3, r4, r5⟩ := cells6 C6'
  obtain ⟨s0, s1, s2, s3, s4, s5⟩ := cells6 CA
  go_region_law (first
    | (refine step_append_lies _ (by rfl) (.tmp 83) (.tmp 85) 22 (by rfl) (g + 1) 48 i0 (.agg #[.int .i64 0, .slice none 0 0, .slice none 0 0, .slice none 0 0, .int .i64 0, .int .i64 0]) 6 96 Try.underlying22 hin hz0 hz1 hz2 rfl (by decide) _ S.cs.length _ (by rfl) T4.ow.c.row ⟨_, 0, none⟩ 1 1 [.int .i64 n, .slice u1a ps.length u1k, .slice u2a d.length u2k, .slice u3a o.length u3k, .int .i64 c, .int .i64 q] (by rfl) rfl (many_new _ _ _) (six_co _ _ _ _ _ _ _ _ _ _ _ _) (by decide) (by unfold maxLen; omega) (by omega) (by have := T4.lt; have := T4.hg; omega) _ rfl ?_; intro g9 cap9 w9 ho9 hg9 hgg hgl; have T9 := tg_co T4 hV1 hV2 hV3 ho9 hg9; obtain ⟨hE9, -⟩ := T4.grow (j := 2) (v9 := .slice none 0 0) T4.ow.c.row (.inl rfl) hg9; obtain ⟨p0, p1, p2, p3, p4⟩ := cellsSB hE9; have p6 := frz hE9 2))
  all_goals
    obtain ⟨q0, q1, q2⟩ := cellsRXr T9.rq
    clear U6 TA T4 y0 y1 y2 y3 y4 r0 r1 r2 r3 r4 r5 s0 s1 s2 s3 s4 s5 t0 t1 t2 t3 t4 p0 p1 p2 p3 p4 p6 hE9 ho9 hg9 hal C6' CA V1_6 V2_6 V3_6 hV1 hV2 hV3
    go_wp2_with fail
    go_ret
    exact ⟨_, _, _, _, _, rfl, T9.sb, T9.ow, T9.bl⟩
end Go.Proofs.Ytdheddgdlindmaa
