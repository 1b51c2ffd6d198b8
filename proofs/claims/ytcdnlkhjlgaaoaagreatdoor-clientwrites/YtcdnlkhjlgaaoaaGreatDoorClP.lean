/-
  What live meets, as data.
-/
import Derived.Test.YtcdnlkhjlgaaoaaGreatDoorClK
import Derived.Test.YtcdnlkhjlgaaoaaGreatDoorDArg
import Derived.Test.YtcdnlkhjlgaaoaaGreatDoorMono
namespace Go.Proofs.YtcdnlkhjlgaaoaaGreatDoor
open Go.ChangeShapes Go.WideShapes Go.ChangeAt Go.RowKit Go.PlainAid

def d1L : List OpD := [⟨1, 1, ⟨#[]⟩⟩, ⟨2, 0, ⟨#[49]⟩⟩, ⟨1, 2, ⟨#[]⟩⟩]
def d2L : List OpD := [⟨1, 1, ⟨#[]⟩⟩, ⟨2, 0, ⟨#[50]⟩⟩, ⟨1, 2, ⟨#[]⟩⟩]
def d3L : List OpD := [⟨1, 2, ⟨#[]⟩⟩, ⟨2, 0, ⟨#[49]⟩⟩, ⟨1, 2, ⟨#[]⟩⟩]
def E0L : EdD := ⟨1, 1, 0, ⟨#[97, 98, 99]⟩, 0, []⟩
def E1L : EdD := ⟨1, 1, 0, ⟨#[97, 49, 98, 99]⟩, 1, [⟨1, d1L⟩]⟩
def E2L : EdD := ⟨1, 1, 1, ⟨#[97, 50, 49, 98, 99]⟩, 1, [⟨1, d3L⟩]⟩
def mL : MsD := ⟨3, 1, 1, 1, 1, 2, d2L⟩
theorem l_beg : begE 1 1 0 ⟨#[97, 98, 99]⟩ = (E0L, 0) := by kernel_rfl
theorem l_may0 : mayE E0L = true := by kernel_rfl
theorem l_ed : edE E0L d1L = E1L := by kernel_rfl
theorem l_enc : (encE E1L).2 = 0 := by kernel_rfl
theorem l_may1 : mayE E1L = true := by kernel_rfl
theorem l_fit : fitC E1L mL = 0 := by kernel_rfl
theorem l_own : ownC E1L mL = false := by kernel_rfl
theorem l_led : ledE E1L mL = (E2L, 0) := by kernel_rfl
theorem l_may2 : mayE E2L = true := by kernel_rfl
theorem l_chk : chk d1L = 0 := by kernel_rfl
theorem l_bs : (bsum (stR d1L) : Int) = cpl E0L.t := by kernel_rfl
end Go.Proofs.YtcdnlkhjlgaaoaaGreatDoor

/-
  What live calls, at what it meets.
-/
namespace Go.Proofs.YtcdnlkhjlgaaoaaGreatDoor
open Go.ChangeShapes Go.WideShapes Go.ChangeAt Go.RowKit Go.PlainAid

set_option maxHeartbeats 400000 in
theorem lkeep20 (n : Int) (w : World) : Calls Tryz.prog 28 #[.int .i64 n] w fun e w' => e = .returned (.agg #[.int .i64 1, .int .i64 n, .string ⟨#[]⟩]) ∧ Below w.heap.size w w' := by
  go_enter Tryz.func28, Tryz.ntmps28
  go_wp2
  refine bodyPost_ret (results_cell_row rfl _ _ w.heap.size 59 _ (0, 0) _ rfl (heap_alloc_new w _) Tryz.underlying59 rfl Tryz.sizeOp) rfl ?_
  exact ⟨rfl, (Below.refl _ _).alloc (Nat.le_refl _) _⟩
set_option maxHeartbeats 400000 in
theorem lins20 (t : ByteArray) (w : World) : Calls Tryz.prog 29 #[.string t] w fun e w' => e = .returned (.agg #[.int .i64 2, .int .i64 0, .string t]) ∧ Below w.heap.size w w' := by
  go_enter Tryz.func29, Tryz.ntmps29
  go_wp2
  refine bodyPost_ret (results_cell_row rfl _ _ w.heap.size 59 _ (0, 0) _ rfl (heap_alloc_new w _) Tryz.underlying59 rfl Tryz.sizeOp) rfl ?_
  exact ⟨rfl, (Below.refl _ _).alloc (Nat.le_refl _) _⟩

theorem in_lit3 {a b c : OpD} (ha : a.In) (hb : b.In) (hc : c.In) : ∀ o ∈ [a, b, c], o.In := by
  intro o ho
  simp only [List.mem_cons, List.not_mem_nil, or_false] at ho
  rcases ho with rfl | rfl | rfl <;> assumption
theorem d1_in : ∀ o ∈ d1L, o.In := in_lit3 (by show ByteArray.size _ ≤ _; decide) (by show ByteArray.size _ ≤ _; decide) (by show ByteArray.size _ ≤ _; decide)
theorem d2_in : ∀ o ∈ d2L, o.In := in_lit3 (by show ByteArray.size _ ≤ _; decide) (by show ByteArray.size _ ≤ _; decide) (by show ByteArray.size _ ≤ _; decide)
theorem d3_in : ∀ o ∈ d3L, o.In := in_lit3 (by show ByteArray.size _ ≤ _; decide) (by show ByteArray.size _ ≤ _; decide) (by show ByteArray.size _ ≤ _; decide)
theorem fit0 : E0L.Fit := ⟨by decide, by decide, by decide, by decide, fun e he => by cases he⟩
theorem fit1 : E1L.Fit := ⟨by decide, by decide, by decide, by decide, fun e he => by
  have : e = ⟨1, d1L⟩ := by simpa [E1L] using he
  subst this
  exact ⟨by decide, by decide, by decide, d1_in⟩⟩
theorem fit2 : E2L.Fit := ⟨by decide, by decide, by decide, by decide, fun e he => by
  have : e = ⟨1, d3L⟩ := by simpa [E2L] using he
  subst this
  exact ⟨by decide, by decide, by decide, d3_in⟩⟩

end Go.Proofs.YtcdnlkhjlgaaoaaGreatDoor

/-
  A box that is written, and all else as it was.
-/
namespace Go.Proofs.YtcdnlkhjlgaaoaaGreatDoor
open Go.ChangeShapes Go.WideShapes Go.ChangeAt Go.RowKit Go.PlainAid

theorem gb_refl (g : Nat) (w : World) : w.grownBy w (some g) := World.grownBy.refl _ _
theorem gb_trans {g : Nat} {a b c : World} (h : a.grownBy b (some g)) (k : b.grownBy c (some g)) : a.grownBy c (some g) :=
  ⟨k.os.trans h.os, k.tape.trans h.tape, k.output.trans h.output, Nat.le_trans h.size k.size, fun i hi hn => (k.block i (Nat.lt_of_lt_of_le hi h.size) hn).trans (h.block i hi hn)⟩
theorem gb_below {g : Nat} {a b : World} (h : Below a.heap.size a b) : a.grownBy b (some g) := ⟨h.os, h.tape, h.output, h.size, fun i hi _ => h.block i hi⟩
theorem OwEd.keptB {W W' : World} {g B : Nat} {v : Value} {l : List EdW} {us : List Value} (h : OwEd W B v l us) (hg : W.grownBy W' (some g)) (hB : g < B) : OwEd W' B v l us := by
  have ap : ∀ {e z n : Nat} {u : Value} {xs : List Value}, W.ownsRow B e z u n xs → u.ownBlock = none ∨ u.ownBlock ≠ some g := fun {e z n u xs} ho => by
    cases hu : u.ownBlock with
    | none => exact .inl rfl
    | some k => exact .inr (fun e => by have := (ho.lt k hu).1; simp at e; omega)
  exact ⟨h.ul, h.row.kept hg (ap h.row), fun i e u h1 h2 => (h.dl i e u h1 h2).kept hg (ap (h.dl i e u h1 h2))⟩
theorem blk_kept {W W' : World} {g k : Nat} {o : Obj} (h : W.heap[k]? = some o) (hg : W.grownBy W' (some g)) (hk : k ≠ g) : W'.heap[k]? = some o := (hg.block k (EB.lt' h) (by simpa using hk)).trans h
theorem rdd_lit {W : World} {k : Nat} {ds : List OpD} (h : W.heap[k]? = some (.cells (ocs ds).toArray 59)) : RdD W (.slice (some ⟨k, 0, none⟩) ds.length ds.length) ds := by
  refine ⟨_, _, rfl, ⟨Nat.le_refl _, fun h => by cases h⟩, fun i o ho => ⟨k, 0, rfl, EB.lt' h, ?_⟩⟩
  obtain ⟨c0, c1, c2⟩ := ocs_at ds i o ho
  have q := fun j => cell_of_row W k j _ _ (0, 0) h
  refine ⟨(q _).trans ?_, (q _).trans ?_, (q _).trans ?_⟩ <;> simpa using by assumption
theorem edit_liveW (X : World) (hV : VS X) (u : Value) (hu : RdD X u d1L) : Calls Tryz.prog 27 #[.agg #[.int .i64 1, .int .i64 1, .int .i64 0, .string ⟨#[97, 98, 99]⟩, .int .i64 0, .slice none 0 0], u] X fun e w' => ∃ a k us, e = .returned (.tuple #[.agg #[.int .i64 1, .int .i64 1, .int .i64 0, .string ⟨#[97, 49, 98, 99]⟩, .int .i64 1, .slice a 1 k], .int .i64 0]) ∧ OwEd w' X.heap.size (.slice a 1 k) E1L.p us ∧ Below X.heap.size X w' := by
  have h := edit_go E0L d1L (.slice none 0 0) u X (RdEd.nil _) hu hV fit0 (by decide) d1_in l_may0 l_chk l_bs (by decide) (by rw [l_ed]; exact fit1)
  rw [l_ed] at h
  refine h.mono ?_
  rintro e w' ⟨v', us, rfl, h1, h2, h3⟩
  have ho := h1 l_enc
  obtain ⟨a, k, rfl⟩ := own_form ho.row
  rw [if_pos l_enc, l_enc]
  exact ⟨a, k, us, rfl, ho, h3⟩
theorem next_liveW (X : World) (hV : VS X) (u : Value) (hu : RdD X u d2L) (a : Option Addr) (k : Nat) (hr : RdEd X (.slice a 1 k) E1L.p) : Calls Tryz.prog 30 #[.agg #[.int .i64 1, .int .i64 1, .int .i64 0, .string ⟨#[97, 49, 98, 99]⟩, .int .i64 1, .slice a 1 k], .agg #[.int .i64 3, .int .i64 1, .int .i64 1, .int .i64 1, .int .i64 1, .int .i64 2, u]] X fun e w' => ∃ a k us, e = .returned (.tuple #[.agg #[.int .i64 1, .int .i64 1, .int .i64 1, .string ⟨#[97, 50, 49, 98, 99]⟩, .int .i64 1, .slice a 1 k], .int .i64 0]) ∧ OwEd w' X.heap.size (.slice a 1 k) E2L.p us ∧ Below X.heap.size X w' := by
  have h := next_led E1L mL (.slice a 1 k) u X hr hu hV fit1 (by decide) d2_in l_may1 l_fit l_own _ l_led
  refine h.mono ?_
  rintro e w' ⟨v', us, rfl, h1, h3⟩
  obtain ⟨a, k, rfl⟩ := own_form h1.row
  exact ⟨a, k, us, rfl, h1, h3⟩
theorem says_liveW (X : World) (hV : VS X) (a : Option Addr) (k : Nat) (hr : RdEd X (.slice a 1 k) E2L.p) : Calls Tryz.prog 31 #[.agg #[.int .i64 1, .int .i64 1, .int .i64 1, .string ⟨#[97, 50, 49, 98, 99]⟩, .int .i64 1, .slice a 1 k]] X fun e w' => ∃ a k, e = .returned (.slice a 2 k) ∧ Below X.heap.size X w' := by
  have h := says_edit 1 1 1 1 ⟨#[97, 50, 49, 98, 99]⟩ ⟨1, d3L⟩ [] (.slice a 1 k) X hr hV fit2 l_may2
  refine h.mono ?_
  rintro e w' ⟨v', u, rfl, h1, -, h3⟩
  obtain ⟨a, k, rfl⟩ := own_form h1
  exact ⟨a, k, rfl, h3⟩
end Go.Proofs.YtcdnlkhjlgaaoaaGreatDoor
