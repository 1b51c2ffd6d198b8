/-
  The reference: Decode's reader, and what it reads.
-/
import Derived.Test.YtcdnlkhjlgaaoaaGreatDoorClW
import Derived.Test.YtcdnlkhjlgaaoaaGreatDoorCmE
namespace Go.Proofs.YtcdnlkhjlgaaoaaGreatDoor
open Go.ChangeShapes Go.WideShapes Go.ChangeAt Go.RowKit Go.PlainAid

theorem dec_sm (s : ByteArray) : ∀ o ∈ (decR s).1, o.Sm := by
  unfold decR
  split
  · simp
  · rename_i hn
    have h0 : (pk.tk s 0 1125899906842624).2.2 = 0 := by omega
    rcases pk.tk_cases s 0 1125899906842624 with ⟨n, p, hr, -, -, hp, -⟩ | ⟨er, hr, her⟩
    · rw [hr] at hn ⊢
      simp only
      cases hg : decGo s (n : Int).toNat (p : Int) [] with
      | none => simp [decF]
      | some r =>
        obtain ⟨l, q⟩ := r
        unfold decF
        simp only
        split
        · simp
        · obtain ⟨m, e1, -, e2, -⟩ := decGo_of _ p [] l q hp hg
          rw [List.nil_append] at e1
          subst e1
          intro o ho
          simp only [List.mem_map] at ho
          obtain ⟨st, h1, rfl⟩ := ho
          have hraw := e2 st h1
          cases st with
          | keep n => show ByteArray.size ⟨#[]⟩ ≤ _; decide
          | rem n => show ByteArray.size ⟨#[]⟩ ≤ _; decide
          | ins t => simp only [St.Raw] at hraw; show t.size ≤ _; omega
    · rw [hr] at h0
      simp only at h0
      omega
/-- The reference's reader. -/
def RX (W : World) (q : Nat) (s : ByteArray) (a : Int) (f : Bool) : Prop := W.heap[q]? = some (.cells #[.string s, .int .i64 a, .bool f] 52)
theorem cellsRX {W : World} {q : Nat} {s : ByteArray} {a : Int} {f : Bool} (h : RX W q s a f) : W.cell? ⟨q, 0, none⟩ = some (.string s) ∧ W.cell? ⟨q, 1, none⟩ = some (.int .i64 a) ∧ W.cell? ⟨q, 2, none⟩ = some (.bool f) := by
  have q := fun j => cell_of_row W q j _ _ (0, 0) h
  exact ⟨q 0, q 1, q 2⟩
theorem RX.below {W W' : World} {q : Nat} {s : ByteArray} {a : Int} {f : Bool} (h : RX W q s a f) (hb : Below W.heap.size W W') : RX W' q s a f := (hb.block q (EB.lt' h)).trans h
/-- What its num gives. -/
def nuR (s : ByteArray) (a : Int) (f : Bool) : Int × Int × Bool := match f with
  | true => (0, a, true)
  | false => if (pk.tk s a 1125899906842624).2.2 = 0 then ((pk.tk s a 1125899906842624).1, (pk.tk s a 1125899906842624).2.1, false) else (0, a, true)
/-- Its text. -/
def txR (s : ByteArray) (a : Int) (f : Bool) : ByteArray × Int × Bool := match f with
  | true => (⟨#[]⟩, a, true)
  | false => if (pk.tkT s a).2.2 = 0 then ((pk.tkT s a).1, (pk.tkT s a).2.1, false) else (⟨#[]⟩, a, true)
theorem nuR_ok {s : ByteArray} {a c x : Int} {f : Bool} (h : nuF s a f = (c, x, false)) : nuR s a f = (c, x, false) := by
  cases f with
  | true => simp [nuF] at h
  | false =>
    simp only [nuF, Prod.mk.injEq, bne_eq_false_iff_eq] at h
    simp only [nuR]
    rw [if_pos h.2.2, h.1, h.2.1]
theorem nuR_no {s : ByteArray} {a c x : Int} {f : Bool} (h : nuF s a f = (c, x, true)) : nuR s a f = (0, a, true) ∧ c = 0 := by
  cases f with
  | true => simp [nuF] at h; exact ⟨rfl, h.1.symm⟩
  | false =>
    simp only [nuF, Prod.mk.injEq, bne_iff_ne] at h
    simp only [nuR]
    rw [if_neg h.2.2]
    refine ⟨rfl, ?_⟩
    rcases pk.tk_cases s a 1125899906842624 with ⟨n, p, hr, -⟩ | ⟨er, hr, -⟩
    · rw [hr] at h; exact absurd rfl h.2.2
    · rw [hr] at h; exact h.1.symm
theorem txR_ok {s t : ByteArray} {a x : Int} {f : Bool} (h : txtF s a f = (t, x, false)) : txR s a f = (t, x, false) := by
  cases f with
  | true => simp [txtF] at h
  | false =>
    simp only [txtF, Prod.mk.injEq, bne_eq_false_iff_eq] at h
    simp only [txR]
    rw [if_pos h.2.2, h.1, h.2.1]
theorem txR_no {s t : ByteArray} {a x : Int} {f : Bool} (h : txtF s a f = (t, x, true)) : txR s a f = (⟨#[]⟩, a, true) := by
  cases f with
  | true => rfl
  | false =>
    simp only [txtF, Prod.mk.injEq, bne_iff_ne] at h
    simp only [txR]
    rw [if_neg h.2.2]
theorem nuF_t (s : ByteArray) (a : Int) : nuF s a true = (0, a, true) := rfl
theorem nuR_t (s : ByteArray) (a : Int) : nuR s a true = (0, a, true) := rfl
theorem txF_t (s : ByteArray) (a : Int) : txtF s a true = (⟨#[]⟩, a, true) := rfl
theorem txR_t (s : ByteArray) (a : Int) : txR s a true = (⟨#[]⟩, a, true) := rfl
theorem dcN_t (s : ByteArray) (c b r : Int) (t : ByteArray) (q a : Int) : dcN s c b r t q 0 a true = (zeroE, 200) := by
  rw [dcN, if_neg (by decide)]
  rfl
/-- What the reference reads. -/
def rdC (s : ByteArray) : EdD × Int := match nuR s 0 false with
  | (c, a, f) => match nuR s a f with
    | (b, a, f) => match nuR s a f with
      | (r, a, f) => match txR s a f with
        | (t, a, f) => match nuR s a f with
          | (q, a, f) => match nuR s a f with
            | (n, a, f) => if f = true then (zeroE, 200) else dcN s c b r t q n a f
theorem rdC_eq (s : ByteArray) : rdC s = dcC s := by
  unfold rdC dcC
  rcases h1 : nuF s 0 false with ⟨c, a1, f1⟩
  cases f1 with
  | true => simp only [(nuR_no h1).1, nuF_t, nuR_t, txF_t, txR_t, if_pos, dcN_t]
  | false =>
    simp only [nuR_ok h1]
    rcases h2 : nuF s a1 false with ⟨b, a2, f2⟩
    cases f2 with
    | true => simp only [(nuR_no h2).1, nuF_t, nuR_t, txF_t, txR_t, if_pos, dcN_t]
    | false =>
      simp only [nuR_ok h2]
      rcases h3 : nuF s a2 false with ⟨r, a3, f3⟩
      cases f3 with
      | true => simp only [(nuR_no h3).1, nuF_t, nuR_t, txF_t, txR_t, if_pos, dcN_t]
      | false =>
        simp only [nuR_ok h3]
        rcases h4 : txtF s a3 false with ⟨t, a4, f4⟩
        cases f4 with
        | true => simp only [txR_no h4, nuF_t, nuR_t, if_pos, dcN_t]
        | false =>
          simp only [txR_ok h4]
          rcases h5 : nuF s a4 false with ⟨q, a5, f5⟩
          cases f5 with
          | true => simp only [(nuR_no h5).1, nuF_t, nuR_t, if_pos, dcN_t]
          | false =>
            simp only [nuR_ok h5]
            rcases h6 : nuF s a5 false with ⟨n, a6, f6⟩
            cases f6 with
            | true => rw [(nuR_no h6).1, (nuR_no h6).2, dcN_t]; rfl
            | false => rw [nuR_ok h6]; rfl
theorem pdG_t (s : ByteArray) : ∀ (n : Nat) (q a : Int), (pdG s n q a true).2.2 = true
  | 0, _, _ => rfl
  | n + 1, q, a => by
    rw [pdG]
    exact pdG_t s n _ _
theorem dlt_ok {s t : ByteArray} {a x : Int} (h : txR s a false = (t, x, false)) (h0 : (decR t).2 = 0) : dltF s a false = ((decR t).1, x, false) := by
  have hx : txtF s a false = (t, x, false) := by
    simp only [txR] at h
    simp only [txtF]
    split at h
    · rename_i h1
      simp only [Prod.mk.injEq, and_true] at h
      rw [h.1, h.2, h1]
      rfl
    · simp at h
  unfold dltF
  rw [hx]
  simp only
  rw [h0]
  rfl
theorem dlt_no {s t : ByteArray} {a x : Int} {f : Bool} (h : txR s a false = (t, x, f)) (h0 : (decR t).2 ≠ 0 ∨ f = true) : (dltF s a false).2.2 = true := by
  unfold dltF
  simp only [txR] at h
  simp only [txtF]
  by_cases h1 : (pk.tkT s a).2.2 = 0
  · rw [if_pos h1] at h
    simp only [Prod.mk.injEq] at h
    have h2 : (decR t).2 ≠ 0 := h0.resolve_right (by rw [← h.2.2]; decide)
    rw [h1, h.1]
    simpa using h2
  · have e : ((pk.tkT s a).2.2 != 0) = true := bne_iff_ne.2 h1
    rw [e]
theorem txR_bd (s : ByteArray) (a : Int) (f : Bool) : (txR s a f).1.size ≤ 20000 := by
  rcases h : txtF s a f with ⟨t, x, g⟩
  cases g with
  | true => rw [txR_no h]; show ByteArray.size ⟨#[]⟩ ≤ _; decide
  | false =>
    rw [txR_ok h]
    have := tx_bd s a f
    rw [h] at this
    exact this
theorem nuR_bd (s : ByteArray) (a : Int) (f : Bool) : 0 ≤ (nuR s a f).1 ∧ (nuR s a f).1 ≤ 1125899906842624 := by
  rcases h : nuF s a f with ⟨t, x, g⟩
  cases g with
  | true => rw [(nuR_no h).1]; exact ⟨Int.le_refl _, by show (0 : Int) ≤ _; decide⟩
  | false =>
    rw [nuR_ok h]
    have := nu_bd s a f
    rw [h] at this
    exact this
set_option maxRecDepth 20000 in
set_option maxHeartbeats 1000000 in
theorem rnumR_any (q : Nat) (s : ByteArray) (a : Int) (f : Bool) (w : World) (h : RX w q s a f) (hs : s.size ≤ maxLen) :
    Calls Tryz.prog 22 #[.pointer (some ⟨q, 0, none⟩)] w fun e w' => e = .returned (.int .i64 (nuR s a f).1) ∧ RX w' q s (nuR s a f).2.1 (nuR s a f).2.2 ∧ w.grownBy w' (some q) := by
  have cP := fun u : Beh w => (pk.refNum_any s a u.it hs).mono (R' := fun e w' => e = .returned (.tuple #[.int .i64 (pk.tk s a 1125899906842624).1, .int .i64 (pk.tk s a 1125899906842624).2.1, .int .i64 (pk.tk s a 1125899906842624).2.2]) ∧ Below u.it.heap.size u.it w') (by rintro e w' ⟨rfl, rfl⟩; exact ⟨rfl, Below.refl _ _⟩)
  have hd : (pk.tk s a 1125899906842624).2.2 ≠ 0 ∨ f = true → nuR s a f = (0, a, true) := fun h => by
    cases f with
    | true => rfl
    | false => simp only [nuR]; rw [if_neg (h.resolve_right (by decide))]
  have hd2 : (pk.tk s a 1125899906842624).2.2 = 0 → f = false → nuR s a f = ((pk.tk s a 1125899906842624).1, (pk.tk s a 1125899906842624).2.1, false) := fun h1 h2 => by
    subst h2
    simp only [nuR]
    rw [if_pos h1]
  obtain ⟨D, HD⟩ : ∃ D, Hid (nuR s a f = D) := ⟨_, rfl⟩
  rw [HD.out] at hd hd2 ⊢
  generalize pk.tk s a 1125899906842624 = T at *
  have k0 : ∀ u : Beh w, u.it.cell? ⟨q, 0, none⟩ = some (.string s) := fun u => (cellsRX (h.below u.h)).1
  have k1 : ∀ u : Beh w, u.it.cell? ⟨q, 1, none⟩ = some (.int .i64 a) := fun u => (cellsRX (h.below u.h)).2.1
  go_enter Tryz.func22, Tryz.ntmps22
  go_upto_region 1 with fail
  refine wp_region_beh (by kernel_rfl) (by kernel_rfl) ?_
  repeat (go_big_quiet_step ((go_at_call 51; exact Beh.call (cP _))))
  refine wpQuiet_nil ?_
  intro wq hw'
  have hwq := Beh.out hw'
  have hq := h.below hwq
  clear hw' cP k0 k1 HD
  obtain ⟨y0, y1, y2⟩ := cellsRX hq
  have f1 := frz hq 1
  have f2 := frz hq 2
  by_cases h0 : T.2.2 = 0
  · have n0 : (T.2.2 != 0) = false := by rw [h0]; rfl
    cases f with
    | true =>
      have e := hd (.inr rfl)
      subst e
      clear hd hd2
      go_wp2_with fail
      go_ret
      exact ⟨rfl, heap_setCell hq 2 _, gb_trans (gb_below hwq) (grown_set _ _ _ _)⟩
    | false =>
      have e := hd2 h0 rfl
      subst e
      clear hd hd2 h0
      go_wp2_with fail
      go_ret
      exact ⟨rfl, heap_setCell hq 1 _, gb_trans (gb_below hwq) (grown_set _ _ _ _)⟩
  · have n0 : (T.2.2 != 0) = true := bne_iff_ne.2 h0
    have e := hd (.inl h0)
    subst e
    clear hd hd2
    go_wp2_with fail
    go_ret
    exact ⟨rfl, heap_setCell hq 2 _, gb_trans (gb_below hwq) (grown_set _ _ _ _)⟩
set_option maxRecDepth 20000 in
set_option maxHeartbeats 1000000 in
theorem rtextR_any (q : Nat) (s : ByteArray) (a : Int) (f : Bool) (w : World) (h : RX w q s a f) (hs : s.size ≤ maxLen) :
    Calls Tryz.prog 23 #[.pointer (some ⟨q, 0, none⟩)] w fun e w' => e = .returned (.string (txR s a f).1) ∧ RX w' q s (txR s a f).2.1 (txR s a f).2.2 ∧ w.grownBy w' (some q) := by
  have cP := fun u : Beh w => (pk.refText_any s a u.it hs).mono (R' := fun e w' => e = .returned (.tuple #[.string (pk.tkT s a).1, .int .i64 (pk.tkT s a).2.1, .int .i64 (pk.tkT s a).2.2]) ∧ Below u.it.heap.size u.it w') (by rintro e w' ⟨rfl, rfl⟩; exact ⟨rfl, Below.refl _ _⟩)
  have hd : (pk.tkT s a).2.2 ≠ 0 ∨ f = true → txR s a f = (⟨#[]⟩, a, true) := fun h => by
    cases f with
    | true => rfl
    | false => simp only [txR]; rw [if_neg (h.resolve_right (by decide))]
  have hd2 : (pk.tkT s a).2.2 = 0 → f = false → txR s a f = ((pk.tkT s a).1, (pk.tkT s a).2.1, false) := fun h1 h2 => by
    subst h2
    simp only [txR]
    rw [if_pos h1]
  obtain ⟨D, HD⟩ : ∃ D, Hid (txR s a f = D) := ⟨_, rfl⟩
  rw [HD.out] at hd hd2 ⊢
  generalize pk.tkT s a = T at *
  have k0 : ∀ u : Beh w, u.it.cell? ⟨q, 0, none⟩ = some (.string s) := fun u => (cellsRX (h.below u.h)).1
  have k1 : ∀ u : Beh w, u.it.cell? ⟨q, 1, none⟩ = some (.int .i64 a) := fun u => (cellsRX (h.below u.h)).2.1
  go_enter Tryz.func23, Tryz.ntmps23
  go_upto_region 1 with fail
  refine wp_region_beh (by kernel_rfl) (by kernel_rfl) ?_
  repeat (go_big_quiet_step ((go_at_call 52; exact Beh.call (cP _))))
  refine wpQuiet_nil ?_
  intro wq hw'
  have hwq := Beh.out hw'
  have hq := h.below hwq
  clear hw' cP k0 k1 HD
  obtain ⟨y0, y1, y2⟩ := cellsRX hq
  have f1 := frz hq 1
  have f2 := frz hq 2
  by_cases h0 : T.2.2 = 0
  · have n0 : (T.2.2 != 0) = false := by rw [h0]; rfl
    cases f with
    | true =>
      have e := hd (.inr rfl)
      subst e
      clear hd hd2
      go_wp2_with fail
      go_ret
      exact ⟨rfl, heap_setCell hq 2 _, gb_trans (gb_below hwq) (grown_set _ _ _ _)⟩
    | false =>
      have e := hd2 h0 rfl
      subst e
      clear hd hd2 h0
      go_wp2_with fail
      go_ret
      exact ⟨rfl, heap_setCell hq 1 _, gb_trans (gb_below hwq) (grown_set _ _ _ _)⟩
  · have n0 : (T.2.2 != 0) = true := bne_iff_ne.2 h0
    have e := hd (.inl h0)
    subst e
    clear hd hd2
    go_wp2_with fail
    go_ret
    exact ⟨rfl, heap_setCell hq 2 _, gb_trans (gb_below hwq) (grown_set _ _ _ _)⟩
end Go.Proofs.YtcdnlkhjlgaaoaaGreatDoor

/-
  The reference: Decode.
-/
namespace Go.Proofs.YtcdnlkhjlgaaoaaGreatDoor
open Go.ChangeShapes Go.WideShapes Go.ChangeAt Go.RowKit Go.PlainAid

/-- Where the reference's Decode stands. -/
structure DcR (w : World) (s : ByteArray) (a : Int) (f : Bool) (E : EdD) (v : Value) (W : World) : Prop where
  rr : RX W (w.heap.size + 1) s a f
  z : EB W w.heap.size zeroE (.slice none 0 0)
  e : EB W (w.heap.size + 1 + 1) E v
  b : Below w.heap.size w W
theorem DcR.call {w W W' : World} {s : ByteArray} {a a' : Int} {f f' : Bool} {E : EdD} {v : Value} (h : DcR w s a f E v W) (hr : RX W' (w.heap.size + 1) s a' f') (hg : W.grownBy W' (some (w.heap.size + 1))) : DcR w s a' f' E v W' :=
  ⟨hr, blk_kept h.z hg (by omega), blk_kept h.e hg (by omega), h.b.grown hg (by have := h.b.size; omega) (fun j hj => by cases hj; omega)⟩
theorem DcR.below {w W W' : World} {s : ByteArray} {a : Int} {f : Bool} {E : EdD} {v : Value} (h : DcR w s a f E v W) (hb : Below W.heap.size W W') : DcR w s a f E v W' := ⟨h.rr.below hb, h.z.below hb, h.e.below hb, chain h.b hb⟩
theorem DcR.set {w W : World} {s : ByteArray} {a : Int} {f : Bool} {E : EdD} {v : Value} (h : DcR w s a f E v W) (i : Nat) (x : Value) (E' : EdD) (v' : Value) (he : (#[.int .i64 E.c, .int .i64 E.b, .int .i64 E.r, .string E.t, .int .i64 E.s, v] : Array Value).setIfInBounds i x = #[.int .i64 E'.c, .int .i64 E'.b, .int .i64 E'.r, .string E'.t, .int .i64 E'.s, v']) : DcR w s a f E' v' (W.setCell ⟨w.heap.size + 1 + 1, i, none⟩ x) := by
  have k := fun n (hn : n ≠ w.heap.size + 1 + 1) => Below.heap_setCell W ⟨w.heap.size + 1 + 1, i, none⟩ x n (by simp only; omega)
  refine ⟨(k _ (by omega)).trans h.rr, (k _ (by omega)).trans h.z, ?_, h.b.setCell (by simp only; omega) _⟩
  have := heap_setCell h.e i x
  rw [he] at this
  exact this
theorem dcr_new (w : World) (s : ByteArray) : DcR w s 0 false ⟨0, 0, 0, ⟨#[]⟩, 0, []⟩ (.slice none 0 0) (((w.alloc (.cells (zeroE.fs (.slice none 0 0)) 24)).alloc (.cells #[.string s, .int .i64 0, .bool false] 52)).alloc (.cells (zeroE.fs (.slice none 0 0)) 24)) := by
  have h1 := heap_alloc_new (w.alloc (.cells (zeroE.fs (.slice none 0 0)) 24)) (.cells #[.string s, .int .i64 0, .bool false] 52)
  have h2 := eb_new ((w.alloc (.cells (zeroE.fs (.slice none 0 0)) 24)).alloc (.cells #[.string s, .int .i64 0, .bool false] 52)) zeroE (.slice none 0 0)
  rw [World.size_alloc] at h1
  rw [World.size_alloc, World.size_alloc] at h2
  exact ⟨RX.below h1 (alloc_b _ _), ((eb_new w zeroE (.slice none 0 0)).below (alloc_b _ _)).below (alloc_b _ _), h2, chain (alloc_b _ _) (chain (alloc_b _ _) (alloc_b _ _))⟩
theorem dcr_next {w W W' : World} {s : ByteArray} {E : EdD} {a x : Int} {f : Bool} {v0 v9 u : Value} {L : List EdW} {us : List Value} {d : List OpD} (h : DcR w s a f E v0 W) (ho : OwEd W (w.heap.size + 3) v0 L us) (hu : W.ownsRow (w.heap.size + 3) 59 3 u d.length (ocs d)) (ho9 : W'.ownsRow (w.heap.size + 3) 41 2 v9 (L.length + 1) (ecs L us ++ [.int .i64 x, u])) (hg9 : W.grownBy W' v0.ownBlock) :
    EB W' (w.heap.size + 1 + 1) E v0 ∧ DcR w s a f E v9 (W'.setCell ⟨w.heap.size + 1 + 1, 5, none⟩ v9) ∧ OwEd (W'.setCell ⟨w.heap.size + 1 + 1, 5, none⟩ v9) (w.heap.size + 3) v9 (L ++ [⟨x, d⟩]) (us ++ [u]) := by
  have hs := h.b.size
  have hE := grown_own h.e ho.row (by omega) hg9
  have h2 : DcR w s a f E v0 W' := ⟨grown_own h.rr ho.row (by omega) hg9, grown_own h.z ho.row (by omega) hg9, hE, h.b.grown hg9 hs (fun j hj => by have := (ho.row.lt j hj).1; omega)⟩
  exact ⟨hE, h2.set 5 v9 E v9 rfl, (OwEd.app (e := ⟨x, d⟩) ho hu ho9 hg9).set (a := ⟨w.heap.size + 1 + 1, 5, none⟩) (by simp only; omega) v9⟩
set_option maxRecDepth 20000 in
set_option maxHeartbeats 3000000 in
theorem rdecode_any (s : ByteArray) (w : World) (hs : s.size ≤ maxLen) :
    Calls Tryz.prog 8 #[.string s] w fun e w' => ∃ v us, e = .returned (.tuple #[.agg ((dcC s).1.fs v), .int .i64 (dcC s).2]) ∧ OwEd w' w.heap.size v (dcC s).1.p us ∧ Below w.heap.size w w' := by
  obtain ⟨i0, hin, hz0, hz1, hz2⟩ := info_parts Tryz.infoEd
  have h0 := dcr_new w s
  have cN := fun a f E v W (h : DcR w s a f E v W) => rnumR_any _ s a f W h.rr hs
  have cT := fun a f E v W (h : DcR w s a f E v W) => rtextR_any _ s a f W h.rr hs
  rw [← rdC_eq]
  have c1 := fun E v => cN 0 false E v
  rcases hx1 : nuR s 0 false with ⟨c, a1, f1⟩
  rw [hx1] at c1
  have c2 := fun E v => cN a1 f1 E v
  rcases hx2 : nuR s a1 f1 with ⟨b, a2, f2⟩
  rw [hx2] at c2
  have c3 := fun E v => cN a2 f2 E v
  rcases hx3 : nuR s a2 f2 with ⟨r, a3, f3⟩
  rw [hx3] at c3
  have c4 := fun E v => cT a3 f3 E v
  have ht := txR_bd s a3 f3
  rcases hx4 : txR s a3 f3 with ⟨t, a4, f4⟩
  rw [hx4] at c4 ht
  have c5 := fun E v => cN a4 f4 E v
  have hq := nuR_bd s a4 f4
  rcases hx5 : nuR s a4 f4 with ⟨q, a5, f5⟩
  rw [hx5] at c5 hq
  have c6 := fun E v => cN a5 f5 E v
  have hn := nuR_bd s a5 f5
  rcases hx6 : nuR s a5 f5 with ⟨n, a6, f6⟩
  rw [hx6] at c6 hn
  have HC : rdC s = if f6 = true then (zeroE, 200) else dcN s c b r t q n a6 f6 := by unfold rdC; simp only [hx1, hx2, hx3, hx4, hx5, hx6]
  rw [HC]
  simp only at c1 c2 c3 c4 c5 c6 ht hq hn
  clear hx1 hx2 hx3 hx4 hx5 hx6 cN HC
  obtain ⟨hq0, hq1⟩ := hq
  obtain ⟨hn0, hn1⟩ := hn
  obtain ⟨N, rfl⟩ : ∃ N : Nat, n = (N : Int) := ⟨n.toNat, by omega⟩
  obtain ⟨R, HR⟩ : ∃ R, Hid ((if f6 = true then (zeroE, 200) else dcN s c b r t q (N : Int) a6 f6) = R) := ⟨_, rfl⟩
  rw [HR.out]
  simp only [EdD.fs, zeroE] at h0
  go_enter Tryz.func8, Tryz.ntmps8
  go_wp2_with fail
  refine (c1 _ _ _ h0).mono ?_
  rintro e w1 ⟨rfl, hr1, hg1⟩
  have hc1 := h0.call hr1 hg1
  have h1 := hc1.set 0 (.int .i64 c) ⟨c, 0, 0, ⟨#[]⟩, 0, []⟩ (.slice none 0 0) rfl
  obtain ⟨x0, x1, x2, x3, x4, x5⟩ := cellsEB hc1.e
  have fx := frz hc1.e 0
  clear h0 hr1 hg1 c1
  go_wp2_with fail
  refine (c2 _ _ _ h1).mono ?_
  rintro e w2 ⟨rfl, hr2, hg2⟩
  have hc2 := h1.call hr2 hg2
  have h2 := hc2.set 1 (.int .i64 b) ⟨c, b, 0, ⟨#[]⟩, 0, []⟩ (.slice none 0 0) rfl
  clear x0 x1 x2 x3 x4 x5 fx
  obtain ⟨x0, x1, x2, x3, x4, x5⟩ := cellsEB hc2.e
  have fx := frz hc2.e 1
  clear h1 hr2 hg2 c2 hc1
  go_wp2_with fail
  refine (c3 _ _ _ h2).mono ?_
  rintro e w3 ⟨rfl, hr3, hg3⟩
  have hc3 := h2.call hr3 hg3
  have h3 := hc3.set 2 (.int .i64 r) ⟨c, b, r, ⟨#[]⟩, 0, []⟩ (.slice none 0 0) rfl
  clear x0 x1 x2 x3 x4 x5 fx
  obtain ⟨x0, x1, x2, x3, x4, x5⟩ := cellsEB hc3.e
  have fx := frz hc3.e 2
  clear h2 hr3 hg3 c3 hc2
  go_wp2_with fail
  refine (c4 _ _ _ h3).mono ?_
  rintro e w4 ⟨rfl, hr4, hg4⟩
  have hc4 := h3.call hr4 hg4
  have h4 := hc4.set 3 (.string t) ⟨c, b, r, t, 0, []⟩ (.slice none 0 0) rfl
  clear x0 x1 x2 x3 x4 x5 fx
  obtain ⟨x0, x1, x2, x3, x4, x5⟩ := cellsEB hc4.e
  have fx := frz hc4.e 3
  clear h3 hr4 hg4 c4 hc3
  go_wp2_with fail
  refine (c5 _ _ _ h4).mono ?_
  rintro e w5 ⟨rfl, hr5, hg5⟩
  have hc5 := h4.call hr5 hg5
  have h5 := hc5.set 4 (.int .i64 q) ⟨c, b, r, t, q, []⟩ (.slice none 0 0) rfl
  clear x0 x1 x2 x3 x4 x5 fx
  obtain ⟨x0, x1, x2, x3, x4, x5⟩ := cellsEB hc5.e
  have fx := frz hc5.e 4
  clear h4 hr5 hg5 c5 hc4
  go_wp2_with fail
  refine (c6 _ _ _ h5).mono ?_
  rintro e w7 ⟨rfl, hr7, hg7⟩
  have h7 := h5.call hr7 hg7
  clear h5 hr7 hg7 c6 hc5 x0 x1 x2 x3 x4 x5 fx
  obtain ⟨y0, y1, y2⟩ := cellsRX h7.rr
  cases f6 with
  | true =>
    have e : R = (zeroE, 200) := by rw [← HR.out, if_pos rfl]
    subst e
    clear HR
    obtain ⟨e0, e1, e2, e3, e4, e5⟩ := cellsEB h7.z
    obtain ⟨q0, q1, q2, q3, q4, q5⟩ := EB.frz h7.z
    go_upto_region 10 with fail
    go_wp21
    have hfin := h7.z.put zeroE (.slice none 0 0)
    refine bodyPost_ret (results_row_tmpC rfl _ _ w.heap.size 24 _ (0, 0) _ rfl hfin Tryz.underlying24 rfl Tryz.sizeEr) rfl ?_
    exact ⟨_, rfl, ⟨_, OwEd.nil _ _⟩, below_putE h7.b (Nat.le_refl _) zeroE (.slice none 0 0)⟩
  | false =>
  by_cases hbig : (8 : Int) < (N : Int)
  · have e : R = (zeroE, 200) := by rw [← HR.out, if_neg (by decide), dcN, if_pos hbig]
    subst e
    clear HR
    obtain ⟨e0, e1, e2, e3, e4, e5⟩ := cellsEB h7.z
    obtain ⟨q0, q1, q2, q3, q4, q5⟩ := EB.frz h7.z
    go_upto_region 10 with fail
    go_wp21
    have hfin := h7.z.put zeroE (.slice none 0 0)
    refine bodyPost_ret (results_row_tmpC rfl _ _ w.heap.size 24 _ (0, 0) _ rfl hfin Tryz.underlying24 rfl Tryz.sizeEr) rfl ?_
    exact ⟨_, rfl, ⟨_, OwEd.nil _ _⟩, below_putE h7.b (Nat.le_refl _) zeroE (.slice none 0 0)⟩
  · have hN8 : N ≤ 8 := by omega
    have HR2 : Hid (dcT s ⟨c, b, r, t, q, (pdG s N (q - N + 1) a6 false).1⟩ (pdG s N (q - N + 1) a6 false).2.2 = R) := by
      show _ = _
      rw [← HR.out, if_neg (by decide), dcN, if_neg hbig, Int.toNat_natCast]
    clear HR
    go_wp2_with fail
    clear y0 y1 y2
    go_loopw [7] (fun i wr => ∃ (k : Nat) (v : Value) (L : List EdW) (us : List Value) (a : Int), k ≤ N ∧ i = .int .i64 (k : Int) ∧ DcR w s a false ⟨c, b, r, t, q, []⟩ v wr ∧ OwEd wr (w.heap.size + 3) v L us ∧ Hid (L.length = k) ∧ (∀ e ∈ L, e.Fit ∧ ∀ o ∈ e.d, o.Sm) ∧ Hid (pdG s N (q - N + 1) a6 false = (L ++ (pdG s (N - k) (q - N + 1 + k) a false).1, (pdG s (N - k) (q - N + 1 + k) a false).2))) (fun i _ => N - (Go.RowKit.intOf i).toNat)
    case atStart => exact ⟨0, _, [], [], a6, by omega, rfl, h7, OwEd.nil _ _, rfl, (fun e he => by cases he), (by show _ = _; simp)⟩
    case round =>
      clear h7
      obtain ⟨k, v, L, us, a, hk, rfl, hD, ho, HL, hLF, HP⟩ := hrel
      obtain ⟨av, kv, rfl⟩ := own_form ho.row
      have hsw := EB.lt' hD.e
      by_cases hlt : k < N
      · have hlt' : (k : Int) < (N : Int) := by omega
        have cX := cT a false _ _ wr hD
        have HP2 : Hid (pdG s N (q - N + 1) a6 false = (L ++ [(⟨q - N + 1 + k, (dltF s a false).1⟩ : EdW)] ++ (pdG s (N - (k + 1)) (q - N + 1 + (k + 1 : Nat)) (dltF s a false).2.1 (dltF s a false).2.2).1, (pdG s (N - (k + 1)) (q - N + 1 + (k + 1 : Nat)) (dltF s a false).2.1 (dltF s a false).2.2).2)) := by
          show _ = _
          rw [HP.out, show N - k = (N - (k + 1)) + 1 by omega, pdG]
          simp only [List.append_assoc, List.singleton_append, Int.natCast_add, Int.natCast_one, Int.add_assoc]
        have htb := txR_bd s a false
        rcases hx : txR s a false with ⟨t8, a8, f8⟩
        rw [hx] at cX htb
        have Hok := fun h1 (h2 : f8 = false) => dlt_ok (x := a8) (t := t8) (by rw [hx, h2]) h1
        have Hno := fun h => dlt_no hx h
        have cD := fun W => refDecode_any t8 W (by simp only at htb; unfold maxLen; omega)
        rw [ref_dec] at cD
        have hdi := dec_in t8
        have hds := dec_sm t8
        simp only at cX
        clear HP hx htb
        go_wp2_with fail
        refine cX.mono ?_
        rintro e w8 ⟨rfl, hr8, hg8⟩
        have hD8 := hD.call hr8 hg8
        have ho8 := ho.keptB hg8 (by omega)
        clear cX hD ho hr8 hg8
        go_wp2_with fail
        refine (cD _).mono ?_
        rintro e w9 ⟨u9, rfl, ho9, hb9⟩
        have hD9 := hD8.below hb9
        have hoE := ho8.below hb9
        have hoU := own_lower ho9 (b' := w.heap.size + 3) (EB.lt' hD8.e)
        obtain ⟨au, ku, rfl⟩ := own_form ho9
        obtain ⟨y0, y1, y2⟩ := cellsRX hD9.rr
        clear cD ho9 hb9 hD8 ho8
        by_cases g1 : (decR t8).2 = 0
        · cases f8 with
          | true =>
            have e : R = (zeroE, 200) := by
              rw [← HR2.out, HP2.out, Hno (.inr rfl)]
              simp only [dcT]
              rw [pdG_t, if_pos rfl]
            subst e
            have n1 : ((decR t8).2 != 0) = false := by rw [g1]; rfl
            generalize decR t8 = D at *
            clear HR2 HP2 Hok Hno
            obtain ⟨e0, e1, e2, e3, e4, e5⟩ := cellsEB hD9.z
            obtain ⟨q0, q1, q2, q3, q4, q5⟩ := EB.frz hD9.z
            go_upto_region 17 with fail
            go_wp21
            have hfin := hD9.z.put zeroE (.slice none 0 0)
            refine bodyPost_ret (results_row_tmpC rfl _ _ w.heap.size 24 _ (0, 0) _ rfl hfin Tryz.underlying24 rfl Tryz.sizeEr) rfl ?_
            exact ⟨_, rfl, ⟨_, OwEd.nil _ _⟩, below_putE hD9.b (Nat.le_refl _) zeroE (.slice none 0 0)⟩
          | false =>
            have ed := Hok g1 rfl
            rw [ed] at HP2
            simp only at HP2
            have n1 : ((decR t8).2 != 0) = false := by rw [g1]; rfl
            generalize decR t8 = D at *
            clear Hok Hno ed g1 HR2
            obtain ⟨x0, x1, x2, x3, x4, x5⟩ := cellsEB hD9.e
            have hw1 : IntKind.i64.wrap (q - N) = q - N := by rw [IntKind.wrap_i64]; omega
            have hw2 : IntKind.i64.wrap (q - N + 1) = q - N + 1 := by rw [IntKind.wrap_i64]; omega
            have hw3 : IntKind.i64.wrap (q - N + 1 + k) = q - N + 1 + k := by rw [IntKind.wrap_i64]; omega
            have hal := alloc_b w9 (.cells #[.int .i64 (q - N + 1 + k), .slice au D.1.length ku] 41)
            have hDa := hD9.below hal
            have hoA := hoE.below hal
            have hoB := own_belowG hoU hal
            go_wp2_with (at_builtin; refine wpList_append_own _ rfl (.tmp 64) (.tmp 74) 22 rfl (w.heap.size + 3) 41 i0 (.agg #[.int .i64 0, .slice none 0 0]) 2 32 Tryz.underlying22 hin hz0 hz1 hz2 rfl (by decide) _ L.length _ rfl hoA.row ⟨_, 0, none⟩ 1 1 [.int .i64 (q - N + 1 + k), .slice au D.1.length ku] rfl rfl (many_new _ _ _) (two_one _ _ _ _) (by have := HL.out; unfold maxLen; omega) (by have := HL.out; omega) (by have := EB.lt' hD9.e; simp; omega) ?_; intro v10 w10 ho10 hg10 _; obtain ⟨a10, k10, rfl⟩ := own_form ho10; obtain ⟨hE10, hD10, hoN⟩ := dcr_next hDa hoA hoB ho10 hg10; obtain ⟨p0, p1, p2, p3, p4, p5⟩ := cellsEB hE10; have p6 := frz hE10 5)
            exact ⟨⟨k + 1, _, _, _, _, by omega, by go_num, hD10, hoN, (by show _ = _; have := HL.out; simp; omega), (fun e he => (List.mem_append.1 he).elim (hLF e) (fun he => by rw [List.mem_singleton.1 he]; exact ⟨⟨by simp only; omega, by simp only; omega, by simp only; unfold maxLen; omega, hdi.2⟩, hds⟩)), HP2⟩, by simp [Go.RowKit.intOf]; omega⟩
        · have e : R = (zeroE, 200) := by
            rw [← HR2.out, HP2.out, Hno (.inl g1)]
            simp only [dcT]
            rw [pdG_t, if_pos rfl]
          subst e
          have n1 : ((decR t8).2 != 0) = true := bne_iff_ne.2 g1
          generalize decR t8 = D at *
          clear HR2 HP2 Hok Hno
          obtain ⟨e0, e1, e2, e3, e4, e5⟩ := cellsEB hD9.z
          obtain ⟨q0, q1, q2, q3, q4, q5⟩ := EB.frz hD9.z
          go_upto_region 17 with fail
          go_wp21
          have hfin := hD9.z.put zeroE (.slice none 0 0)
          refine bodyPost_ret (results_row_tmpC rfl _ _ w.heap.size 24 _ (0, 0) _ rfl hfin Tryz.underlying24 rfl Tryz.sizeEr) rfl ?_
          exact ⟨_, rfl, ⟨_, OwEd.nil _ _⟩, below_putE hD9.b (Nat.le_refl _) zeroE (.slice none 0 0)⟩
      · have hlt' : ¬ (k : Int) < (N : Int) := by omega
        have HM : Hid (pdG s N (q - N + 1) a6 false = (L, a, false)) := by
          show _ = _
          have hkN : N - k = 0 := by omega
          rw [HP.out, hkN, pdG]
          simp
        have hF : EdD.Fit ⟨c, b, r, t, q, L⟩ := ⟨by simp only; omega, by simp only; omega, by simp only; omega, by have := HL.out; simp only; unfold maxLen; omega, fun e he => (hLF e he).1⟩
        have cE := rencode_any ⟨c, b, r, t, q, L⟩ (.slice av L.length kv) wr ho.rd hF (by simp only; omega) (fun e he => (hLF e he).2)
        simp only [EdD.fs] at cE
        have HR4 : Hid ((if (encE ⟨c, b, r, t, q, L⟩).2 = 0 ∧ (encE ⟨c, b, r, t, q, L⟩).1 = s then (⟨c, b, r, t, q, L⟩, 0) else (zeroE, 200)) = R) := by show _ = _; rw [← HR2.out, HM.out]; rfl
        generalize encE ⟨c, b, r, t, q, L⟩ = X at *
        obtain ⟨x0, x1, x2, x3, x4, x5⟩ := cellsEB hD.e
        clear HP HR2 HM hF hLF HL cT
        go_wp2_with fail
        refine cE.mono ?_
        rintro e w8 ⟨rfl, hb8⟩
        have h8 := hD.below hb8
        have ho8 := ho.below hb8
        clear cE hD hb8 x0 x1 x2 x3 x4 x5 ho
        by_cases g1 : X.2 = 0
        · have n1 : (X.2 != 0) = false := by rw [g1]; rfl
          by_cases g2 : X.1 = s
          · have e : R = (⟨c, b, r, t, q, L⟩, 0) := by rw [← HR4.out, if_pos ⟨g1, g2⟩]
            subst e
            clear HR4 g1
            obtain ⟨x0, x1, x2, x3, x4, x5⟩ := cellsEB h8.e
            obtain ⟨e0, e1, e2, e3, e4, e5⟩ := cellsEB h8.z
            obtain ⟨q0, q1, q2, q3, q4, q5⟩ := EB.frz h8.z
            go_upto_region 22 with fail
            go_wp21
            have hfin := h8.z.put ⟨c, b, r, t, q, L⟩ (.slice av L.length kv)
            refine bodyPost_ret (results_row_tmpC rfl _ _ w.heap.size 24 _ (0, 0) _ rfl hfin Tryz.underlying24 rfl Tryz.sizeEr) rfl ?_
            refine ⟨_, rfl, ⟨us, ?_⟩, below_putE h8.b (Nat.le_refl _) ⟨c, b, r, t, q, L⟩ _⟩
            refine OwEd.lower (B := w.heap.size + 3) ?_ (by omega)
            exact (((((ho8.set (a := ⟨w.heap.size, 0, none⟩) (by simp only; omega) _).set (a := ⟨w.heap.size, 1, none⟩) (by simp only; omega) _).set (a := ⟨w.heap.size, 2, none⟩) (by simp only; omega) _).set (a := ⟨w.heap.size, 3, none⟩) (by simp only; omega) _).set (a := ⟨w.heap.size, 4, none⟩) (by simp only; omega) _).set (a := ⟨w.heap.size, 5, none⟩) (by simp only; omega) _
          · have e : R = (zeroE, 200) := by rw [← HR4.out, if_neg (fun h => g2 h.2)]
            subst e
            clear HR4 g1
            have g3 := str_neC g2
            have g4 : (X.1.toList == s.toList) = false := beq_eq_false_iff_ne.2 g3
            obtain ⟨e0, e1, e2, e3, e4, e5⟩ := cellsEB h8.z
            obtain ⟨q0, q1, q2, q3, q4, q5⟩ := EB.frz h8.z
            go_upto_region 21 with fail
            go_wp21
            have hfin := h8.z.put zeroE (.slice none 0 0)
            refine bodyPost_ret (results_row_tmpC rfl _ _ w.heap.size 24 _ (0, 0) _ rfl hfin Tryz.underlying24 rfl Tryz.sizeEr) rfl ?_
            exact ⟨_, rfl, ⟨_, OwEd.nil _ _⟩, below_putE h8.b (Nat.le_refl _) zeroE (.slice none 0 0)⟩
        · have e : R = (zeroE, 200) := by rw [← HR4.out, if_neg (fun h => g1 h.1)]
          subst e
          clear HR4
          have n1 : (X.2 != 0) = true := bne_iff_ne.2 g1
          obtain ⟨e0, e1, e2, e3, e4, e5⟩ := cellsEB h8.z
          obtain ⟨q0, q1, q2, q3, q4, q5⟩ := EB.frz h8.z
          go_upto_region 21 with fail
          go_wp21
          have hfin := h8.z.put zeroE (.slice none 0 0)
          refine bodyPost_ret (results_row_tmpC rfl _ _ w.heap.size 24 _ (0, 0) _ rfl hfin Tryz.underlying24 rfl Tryz.sizeEr) rfl ?_
          exact ⟨_, rfl, ⟨_, OwEd.nil _ _⟩, below_putE h8.b (Nat.le_refl _) zeroE (.slice none 0 0)⟩
end Go.Proofs.YtcdnlkhjlgaaoaaGreatDoor
