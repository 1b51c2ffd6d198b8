/-
  Decode's reader: num, text, delta.
-/
import Derived.Test.YtcdnlkhjlgaaoaaGreatDoorClP
import Derived.Test.YtcdnlkhjlgaaoaaGreatDoorDlF
import Derived.Test.YtcdnlkhjlgaaoaaGreatDoorCmB
import Derived.Test.YtcdnlkhjlgaaoaaGreatDoorBeh
namespace Go.Proofs.YtcdnlkhjlgaaoaaGreatDoor
open Go.ChangeShapes Go.WideShapes Go.ChangeAt Go.RowKit Go.PlainAid

/-- A reader's box. -/
def RR (W : World) (q : Nat) (s : ByteArray) (a : Int) (f : Bool) : Prop := W.heap[q]? = some (.cells #[.string s, .int .i64 a, .bool f] 46)
theorem cellsRR {W : World} {q : Nat} {s : ByteArray} {a : Int} {f : Bool} (h : RR W q s a f) : W.cell? ⟨q, 0, none⟩ = some (.string s) ∧ W.cell? ⟨q, 1, none⟩ = some (.int .i64 a) ∧ W.cell? ⟨q, 2, none⟩ = some (.bool f) := by
  have q := fun j => cell_of_row W q j _ _ (0, 0) h
  exact ⟨q 0, q 1, q 2⟩
theorem RR.below {W W' : World} {q : Nat} {s : ByteArray} {a : Int} {f : Bool} (h : RR W q s a f) (hb : Below W.heap.size W W') : RR W' q s a f := (hb.block q (EB.lt' h)).trans h
/-- What num gives, and where it stands then. -/
def nuF (s : ByteArray) (a : Int) (f : Bool) : Int × Int × Bool := match f with
  | true => (0, a, true)
  | false => ((pk.tk s a 1125899906842624).1, (pk.tk s a 1125899906842624).2.1, (pk.tk s a 1125899906842624).2.2 != 0)
/-- text. -/
def txtF (s : ByteArray) (a : Int) (f : Bool) : ByteArray × Int × Bool := match f with
  | true => (⟨#[]⟩, a, true)
  | false => ((pk.tkT s a).1, (pk.tkT s a).2.1, (pk.tkT s a).2.2 != 0)
/-- delta. -/
def dltF (s : ByteArray) (a : Int) (f : Bool) : List OpD × Int × Bool := match (txtF s a f).2.2 with
  | true => ([], (txtF s a f).2.1, true)
  | false => ((decR (txtF s a f).1).1, (txtF s a f).2.1, (decR (txtF s a f).1).2 != 0)
theorem txtF_size {s : ByteArray} {a : Int} {f : Bool} (h : (txtF s a f).2.2 = false) : (txtF s a f).1.size ≤ 20000 := by
  cases f with
  | true => cases h
  | false =>
    simp only [txtF] at h ⊢
    rcases hx : pk.tkT s a with ⟨t, q, er⟩
    rw [hx] at h
    simp only [bne_eq_false_iff_eq] at h
    subst h
    obtain ⟨b, -, ht, -⟩ := pk.tkT_of hx
    exact ht
set_option maxRecDepth 20000 in
set_option maxHeartbeats 1000000 in
theorem rnumC_any (q : Nat) (s : ByteArray) (a : Int) (f : Bool) (w : World) (h : RR w q s a f) (hs : s.size ≤ maxLen) :
    Calls Tryz.prog 19 #[.pointer (some ⟨q, 0, none⟩)] w fun e w' => e = .returned (.int .i64 (nuF s a f).1) ∧ RR w' q s (nuF s a f).2.1 (nuF s a f).2.2 ∧ w.grownBy w' (some q) := by
  obtain ⟨x0, x1, x2⟩ := cellsRR h
  cases f with
  | true =>
    go_enter Tryz.func19, Tryz.ntmps19
    go_wp2_with fail
    go_ret
    exact ⟨rfl, h, gb_refl _ _⟩
  | false =>
    have cP : ∀ u : Beh w, Calls Tryz.prog 48 #[.string s, .int .i64 a] u.it fun e w' => e = .returned (.tuple #[.int .i64 (pk.tk s a 1125899906842624).1, .int .i64 (pk.tk s a 1125899906842624).2.1, .int .i64 (pk.tk s a 1125899906842624).2.2]) ∧ Below u.it.heap.size u.it w' := fun u => (pk.takeNum_any s a u.it hs).mono (by rintro e w' ⟨rfl, rfl⟩; exact ⟨rfl, Below.refl _ _⟩)
    simp only [nuF]
    generalize pk.tk s a 1125899906842624 = T at *
    have k0 : ∀ u : Beh w, u.it.cell? ⟨q, 0, none⟩ = some (.string s) := fun u => (cellsRR (h.below u.h)).1
    have k1 : ∀ u : Beh w, u.it.cell? ⟨q, 1, none⟩ = some (.int .i64 a) := fun u => (cellsRR (h.below u.h)).2.1
    go_enter Tryz.func19, Tryz.ntmps19
    go_upto_region 3 with fail
    refine wp_region_beh (by kernel_rfl) (by kernel_rfl) ?_
    repeat (go_big_quiet_step ((go_at_call 48; exact Beh.call (cP _))))
    refine wpQuiet_nil ?_
    intro wq hw'
    have hwq := Beh.out hw'
    have hq := h.below hwq
    clear hw' cP k0 k1 x0 x1 x2
    obtain ⟨y0, y1, y2⟩ := cellsRR hq
    have f1 := frz hq 1
    have f2 := frz hq 2
    go_wp2_with fail
    go_ret
    exact ⟨rfl, heap_setCell (heap_setCell hq 1 _) 2 _, gb_trans (gb_below hwq) (gb_trans (grown_set _ _ _ _) (grown_set _ _ _ _))⟩
set_option maxRecDepth 20000 in
set_option maxHeartbeats 1000000 in
theorem rtextC_any (q : Nat) (s : ByteArray) (a : Int) (f : Bool) (w : World) (h : RR w q s a f) (hs : s.size ≤ maxLen) :
    Calls Tryz.prog 20 #[.pointer (some ⟨q, 0, none⟩)] w fun e w' => e = .returned (.string (txtF s a f).1) ∧ RR w' q s (txtF s a f).2.1 (txtF s a f).2.2 ∧ w.grownBy w' (some q) := by
  obtain ⟨x0, x1, x2⟩ := cellsRR h
  cases f with
  | true =>
    go_enter Tryz.func20, Tryz.ntmps20
    go_wp2_with fail
    go_ret
    exact ⟨rfl, h, gb_refl _ _⟩
  | false =>
    have cP := fun u : Beh w => pk.takeText_any s a u.it hs
    simp only [txtF]
    generalize pk.tkT s a = T at *
    have k0 : ∀ u : Beh w, u.it.cell? ⟨q, 0, none⟩ = some (.string s) := fun u => (cellsRR (h.below u.h)).1
    have k1 : ∀ u : Beh w, u.it.cell? ⟨q, 1, none⟩ = some (.int .i64 a) := fun u => (cellsRR (h.below u.h)).2.1
    go_enter Tryz.func20, Tryz.ntmps20
    go_upto_region 3 with fail
    refine wp_region_beh (by kernel_rfl) (by kernel_rfl) ?_
    repeat (go_big_quiet_step ((go_at_call 49; exact Beh.call (cP _))))
    refine wpQuiet_nil ?_
    intro wq hw'
    have hwq := Beh.out hw'
    have hq := h.below hwq
    clear hw' cP k0 k1 x0 x1 x2
    obtain ⟨y0, y1, y2⟩ := cellsRR hq
    have f1 := frz hq 1
    have f2 := frz hq 2
    go_wp2_with fail
    go_ret
    exact ⟨rfl, heap_setCell (heap_setCell hq 1 _) 2 _, gb_trans (gb_below hwq) (gb_trans (grown_set _ _ _ _) (grown_set _ _ _ _))⟩
set_option maxRecDepth 20000 in
set_option maxHeartbeats 1000000 in
theorem rdeltaC_any (q : Nat) (s : ByteArray) (a : Int) (f : Bool) (w : World) (h : RR w q s a f) (hs : s.size ≤ maxLen) :
    Calls Tryz.prog 21 #[.pointer (some ⟨q, 0, none⟩)] w fun e w' => ∃ u, e = .returned u ∧ w'.ownsRow w.heap.size 59 3 u (dltF s a f).1.length (ocs (dltF s a f).1) ∧ RR w' q s (dltF s a f).2.1 (dltF s a f).2.2 ∧ w.grownBy w' (some q) := by
  have cT := rtextC_any q s a f w h hs
  have hz := @txtF_size s a f
  unfold dltF
  rcases hx : txtF s a f with ⟨t, a', f'⟩
  rw [hx] at cT hz
  simp only at cT hz ⊢
  clear hx
  cases f' with
  | true =>
    simp only
    go_enter Tryz.func21, Tryz.ntmps21
    go_wp2_with fail
    refine cT.mono ?_
    rintro e w1 ⟨rfl, h1, g1⟩
    obtain ⟨x0, x1, x2⟩ := cellsRR h1
    clear cT
    go_wp2_with fail
    go_ret
    exact ⟨_, rfl, World.ownsRow_nil _ _ _ _, h1, g1⟩
  | false =>
    have cD := fun W => decode_any t W (by have := hz rfl; unfold maxLen; omega)
    simp only
    generalize decR t = D at *
    go_enter Tryz.func21, Tryz.ntmps21
    go_wp2_with fail
    refine cT.mono ?_
    rintro e w1 ⟨rfl, h1, g1⟩
    obtain ⟨x0, x1, x2⟩ := cellsRR h1
    clear cT
    go_wp2_with fail
    refine (cD _).mono ?_
    rintro e w2 ⟨u, rfl, ho, hb⟩
    have h2 := h1.below hb
    obtain ⟨aa, ka, rfl⟩ := own_form ho
    clear x0 x1 x2 cD
    obtain ⟨y0, y1, y2⟩ := cellsRR h2
    have f2 := frz h2 2
    go_wp2_with fail
    go_ret
    exact ⟨_, rfl, own_lower (own_set ho h2 (by decide)) g1.size, heap_setCell h2 2 _, gb_trans g1 (gb_trans (gb_below hb) (grown_set _ _ _ _))⟩
end Go.Proofs.YtcdnlkhjlgaaoaaGreatDoor
