/-
  record's reader: num, text, delta.
-/
import Derived.Test.YtdheddgdlindmaaRcH
import Derived.Test.YtdheddgdlindmaaDlF
import Derived.Test.YtdheddgdlindmaaBeh
import Derived.Deep.Cut
namespace Go.Proofs.Ytdheddgdlindmaa
open Go.ChangeShapes Go.WideShapes Go.ChangeAt Go.RowKit Go.PlainAid

theorem gq_refl (g : Nat) (w : World) : w.grownBy w (some g) := World.grownBy.refl _ _
theorem gq_trans {g : Nat} {a b c : World} (h : a.grownBy b (some g)) (k : b.grownBy c (some g)) : a.grownBy c (some g) :=
  ⟨k.os.trans h.os, k.tape.trans h.tape, k.output.trans h.output, Nat.le_trans h.size k.size, fun i hi hn => (k.block i (Nat.lt_of_lt_of_le hi h.size) hn).trans (h.block i hi hn)⟩
theorem gq_below {g : Nat} {a b : World} (h : Below a.heap.size a b) : a.grownBy b (some g) := ⟨h.os, h.tape, h.output, h.size, fun i hi _ => h.block i hi⟩
/-- A reader's box. -/
def RQ (W : World) (q : Nat) (s : ByteArray) (a : Int) (f : Bool) : Prop := W.heap[q]? = some (.cells #[.string s, .int .i64 a, .bool f] 98)
theorem cellsRQ {W : World} {q : Nat} {s : ByteArray} {a : Int} {f : Bool} (h : RQ W q s a f) : W.cell? ⟨q, 0, none⟩ = some (.string s) ∧ W.cell? ⟨q, 1, none⟩ = some (.int .i64 a) ∧ W.cell? ⟨q, 2, none⟩ = some (.bool f) := by
  have q := fun j => cell_of_row W q j _ _ (0, 0) h
  exact ⟨q 0, q 1, q 2⟩
theorem RQ.below {W W' : World} {q : Nat} {s : ByteArray} {a : Int} {f : Bool} (h : RQ W q s a f) (hb : Below W.heap.size W W') : RQ W' q s a f := (hb.block q (heap_lt h)).trans h
/-- What num gives, and where it stands then. -/
def rnF (s : ByteArray) (a : Int) (f : Bool) : Int × Int × Bool := match f with
  | true => (0, a, true)
  | false => ((pk.tk s a 1125899906842624).1, (pk.tk s a 1125899906842624).2.1, (pk.tk s a 1125899906842624).2.2 != 0)
/-- text. -/
def rtF (s : ByteArray) (a : Int) (f : Bool) : ByteArray × Int × Bool := match f with
  | true => (⟨#[]⟩, a, true)
  | false => ((pk.tkT s a).1, (pk.tkT s a).2.1, (pk.tkT s a).2.2 != 0)
/-- delta. -/
def rdF (s : ByteArray) (a : Int) (f : Bool) : List OpD × Int × Bool := match (rtF s a f).2.2 with
  | true => ([], (rtF s a f).2.1, true)
  | false => ((decR (rtF s a f).1).1, (rtF s a f).2.1, (decR (rtF s a f).1).2 != 0)
theorem rtF_size {s : ByteArray} {a : Int} {f : Bool} (h : (rtF s a f).2.2 = false) : (rtF s a f).1.size ≤ 20000 := by
  cases f with
  | true => cases h
  | false =>
    simp only [rtF] at h ⊢
    rcases hx : pk.tkT s a with ⟨t, q, er⟩
    rw [hx] at h
    simp only [bne_eq_false_iff_eq] at h
    subst h
    obtain ⟨b, -, ht, -⟩ := pk.tkT_of hx
    exact ht
set_option maxRecDepth 20000 in
set_option maxHeartbeats 1000000 in
theorem rnumQ_any (q : Nat) (s : ByteArray) (a : Int) (f : Bool) (w : World) (h : RQ w q s a f) (hs : s.size ≤ maxLen) :
    Calls Try.prog 59 #[.pointer (some ⟨q, 0, none⟩)] w fun e w' => e = .returned (.int .i64 (rnF s a f).1) ∧ RQ w' q s (rnF s a f).2.1 (rnF s a f).2.2 ∧ w.grownBy w' (some q) := by
  obtain ⟨x0, x1, x2⟩ := cellsRQ h
  cases f with
  | true =>
    go_enter Try.func59, Try.ntmps59
    go_wp2_with fail
    go_ret
    exact ⟨rfl, h, gq_refl _ _⟩
  | false =>
    have cP : ∀ u : Beh w, Calls Try.prog 78 #[.string s, .int .i64 a] u.it fun e w' => e = .returned (.tuple #[.int .i64 (pk.tk s a 1125899906842624).1, .int .i64 (pk.tk s a 1125899906842624).2.1, .int .i64 (pk.tk s a 1125899906842624).2.2]) ∧ Below u.it.heap.size u.it w' := fun u => (pk.takeNum_any s a u.it hs).mono (by rintro e w' ⟨rfl, rfl⟩; exact ⟨rfl, Below.refl _ _⟩)
    simp only [rnF]
    generalize pk.tk s a 1125899906842624 = T at *
    have k0 : ∀ u : Beh w, u.it.cell? ⟨q, 0, none⟩ = some (.string s) := fun u => (cellsRQ (h.below u.h)).1
    have k1 : ∀ u : Beh w, u.it.cell? ⟨q, 1, none⟩ = some (.int .i64 a) := fun u => (cellsRQ (h.below u.h)).2.1
    go_enter Try.func59, Try.ntmps59
    go_upto_region 3 with fail
    refine wp_region_beh (by kernel_rfl) (by kernel_rfl) ?_
    repeat (go_big_quiet_step ((go_at_call 78; exact Beh.call (cP _))))
    refine wpQuiet_nil ?_
    intro wq hw'
    have hwq := Beh.out hw'
    have hq := h.below hwq
    clear hw' cP k0 k1 x0 x1 x2
    obtain ⟨y0, y1, y2⟩ := cellsRQ hq
    have f1 := frz hq 1
    have f2 := frz hq 2
    go_wp2_with fail
    go_ret
    exact ⟨rfl, heap_setCell (heap_setCell hq 1 _) 2 _, gq_trans (gq_below hwq) (gq_trans (grown_set _ _ _ _) (grown_set _ _ _ _))⟩
set_option maxRecDepth 20000 in
set_option maxHeartbeats 1000000 in
theorem rtextQ_any (q : Nat) (s : ByteArray) (a : Int) (f : Bool) (w : World) (h : RQ w q s a f) (hs : s.size ≤ maxLen) :
    Calls Try.prog 60 #[.pointer (some ⟨q, 0, none⟩)] w fun e w' => e = .returned (.string (rtF s a f).1) ∧ RQ w' q s (rtF s a f).2.1 (rtF s a f).2.2 ∧ w.grownBy w' (some q) := by
  obtain ⟨x0, x1, x2⟩ := cellsRQ h
  cases f with
  | true =>
    go_enter Try.func60, Try.ntmps60
    go_wp2_with fail
    go_ret
    exact ⟨rfl, h, gq_refl _ _⟩
  | false =>
    have cP := fun u : Beh w => pk.takeText_any s a u.it hs
    simp only [rtF]
    generalize pk.tkT s a = T at *
    have k0 : ∀ u : Beh w, u.it.cell? ⟨q, 0, none⟩ = some (.string s) := fun u => (cellsRQ (h.below u.h)).1
    have k1 : ∀ u : Beh w, u.it.cell? ⟨q, 1, none⟩ = some (.int .i64 a) := fun u => (cellsRQ (h.below u.h)).2.1
    go_enter Try.func60, Try.ntmps60
    go_upto_region 3 with fail
    refine wp_region_beh (by kernel_rfl) (by kernel_rfl) ?_
    repeat (go_big_quiet_step ((go_at_call 79; exact Beh.call (cP _))))
    refine wpQuiet_nil ?_
    intro wq hw'
    have hwq := Beh.out hw'
    have hq := h.below hwq
    clear hw' cP k0 k1 x0 x1 x2
    obtain ⟨y0, y1, y2⟩ := cellsRQ hq
    have f1 := frz hq 1
    have f2 := frz hq 2
    go_wp2_with fail
    go_ret
    exact ⟨rfl, heap_setCell (heap_setCell hq 1 _) 2 _, gq_trans (gq_below hwq) (gq_trans (grown_set _ _ _ _) (grown_set _ _ _ _))⟩
set_option maxRecDepth 20000 in
set_option maxHeartbeats 1000000 in
theorem rdeltaQ_any (q : Nat) (s : ByteArray) (a : Int) (f : Bool) (w : World) (h : RQ w q s a f) (hs : s.size ≤ maxLen) :
    Calls Try.prog 62 #[.pointer (some ⟨q, 0, none⟩)] w fun e w' => ∃ u, e = .returned u ∧ w'.ownsRow w.heap.size 96 3 u (rdF s a f).1.length (ocs (rdF s a f).1) ∧ RQ w' q s (rdF s a f).2.1 (rdF s a f).2.2 ∧ w.grownBy w' (some q) := by
  have cT := rtextQ_any q s a f w h hs
  have hz := @rtF_size s a f
  unfold rdF
  rcases hx : rtF s a f with ⟨t, a', f'⟩
  rw [hx] at cT hz
  simp only at cT hz ⊢
  clear hx
  cases f' with
  | true =>
    simp only
    go_enter Try.func62, Try.ntmps62
    go_wp2_with fail
    refine cT.mono ?_
    rintro e w1 ⟨rfl, h1, g1⟩
    obtain ⟨x0, x1, x2⟩ := cellsRQ h1
    clear cT
    go_wp2_with fail
    go_ret
    exact ⟨_, rfl, World.ownsRow_nil _ _ _ _, h1, g1⟩
  | false =>
    have cD := fun W => decode_any t W (by have := hz rfl; unfold maxLen; omega)
    simp only
    generalize decR t = D at *
    go_enter Try.func62, Try.ntmps62
    go_wp2_with fail
    refine cT.mono ?_
    rintro e w1 ⟨rfl, h1, g1⟩
    obtain ⟨x0, x1, x2⟩ := cellsRQ h1
    clear cT
    go_wp2_with fail
    refine (cD _).mono ?_
    rintro e w2 ⟨u, rfl, ho, hb⟩
    have h2 := h1.below hb
    obtain ⟨aa, ka, rfl⟩ := own_form ho
    clear x0 x1 x2 cD
    obtain ⟨y0, y1, y2⟩ := cellsRQ h2
    have f2 := frz h2 2
    go_wp2_with fail
    go_ret
    exact ⟨_, rfl, own_lower (own_set ho h2 (by decide)) g1.size, heap_setCell h2 2 _, gq_trans g1 (gq_trans (gq_below hb) (grown_set _ _ _ _))⟩
end Go.Proofs.Ytdheddgdlindmaa
