/-
  The contracts of String (package strings), Text and Len.
-/
import Derived.Test.YtofmficdfkeffaaDoorDoF
import Derived.Test.YtofmficdfkeffaaDoorLayB
namespace Go.Proofs.YtofmficdfkeffaaDoor
open Go.WideShapes Go.RowKit Go.ChangeShapes Go.ChangeAt Go.PlainAid

theorem bdX : Builder.Extra Tryd.prog Tryd.laysSt_ren where
  sizeBuilder := Tryd.infoBd
  liesBuilder := by kernel_rfl
  t5 := Tryd.underlying5
  a5 := Tryd.isAgg5
  z5 := Tryd.sizeOf5
  v5 := Tryd.zeroValue5
  infoByte := Tryd.info5
  cellsByte := by kernel_rfl
  sizeByte := by kernel_rfl
  neB5 := by decide
theorem string_any (B b : Nat) (l : List UInt8) (w : World) (h : Bd B b (Lib.byteCells l) w) (hBw : B ≤ w.heap.size) :
    Calls Tryd.prog 48 #[.pointer (some ⟨b, 0, none⟩)] w fun e w' => e = .returned (.string (mk l)) ∧ Below B w w' :=
  Any.Builder_String_any Tryd.laysSt bdX B b l w h hBw

/-- The text of a document, as bytes. -/
def txB (l : List RunD) : List UInt8 := l.flatMap fun r => r.t.data.toList
theorem txB_nil : txB [] = [] := rfl
theorem txB_append (a b : List RunD) : txB (a ++ b) = txB a ++ txB b := by simp [txB]
theorem txB_one (r : RunD) : txB [r] = r.t.data.toList := by simp [txB]
theorem txB_take {l : List RunD} {k : Nat} (h : k < l.length) : txB (l.take (k + 1)) = txB (l.take k) ++ l[k].t.data.toList := by
  rw [List.take_succ_eq_append_getElem h, txB_append, txB_one]
theorem txB_le (l : List RunD) (k : Nat) : (txB (l.take k)).length ≤ (txB l).length := by
  have : txB l = txB (l.take k) ++ txB (l.drop k) := by rw [← txB_append, List.take_append_drop]
  rw [this, List.length_append]
  omega
theorem cells_bytes (l : List UInt8) (s : ByteArray) : Lib.byteCells l ++ Lib.strCells s = Lib.byteCells (l ++ s.data.toList) := by
  simp [Lib.byteCells, Lib.strCells]

theorem Bd.alloc {B b : Nat} {bs : List Value} {w : World} (h : Bd B b bs w) (o : Obj) : Bd B b bs (w.alloc o) := by
  rcases h with h | h
  · obtain ⟨hB, v, hb, ho, hne⟩ := h
    exact .inl ⟨hB, v, (heap_alloc_old w o (heap_lt hb)).trans hb, ho.alloc o, hne⟩
  · obtain ⟨hB, v, hb, ho, hne⟩ := h
    exact .inr ⟨hB, v, (heap_alloc_old w o (heap_lt hb)).trans hb, ho.alloc o, hne⟩

set_option maxRecDepth 20000 in
set_option maxHeartbeats 1000000 in
theorem docText_any (v : Value) (l : List RunD) (w : World) (hr : RdN w v l) (hm : l.length ≤ 1125899906842624) (ht : (txB l).length ≤ 140737488355328) :
    Calls Tryd.prog 20 #[v] w fun e w' => e = .returned (.string (mk (txB l))) ∧ Below w.heap.size w w' := by
  obtain ⟨ao, cp, hv, -⟩ := id hr
  subst hv
  have hb0 : Bd w.heap.size w.heap.size [] (w.alloc (.cells #[.pointer none, .slice none 0 0] 91)) := Lib.fresh_isBuilder _ _ w
  have hB0 : Below w.heap.size w (w.alloc (.cells #[.pointer none, .slice none 0 0] 91)) := (Below.refl _ w).alloc (Nat.le_refl _) _
  go_enter Tryd.func20, Tryd.ntmps20
  go_wp2_with fail
  generalize w.alloc _ = w0 at *
  go_loopw [8] (fun i wr => ∃ (k : Nat), k ≤ l.length ∧ i = .int .i64 (k : Int) ∧ Bd w.heap.size w.heap.size (Lib.byteCells (txB (l.take k))) wr ∧ Below w.heap.size w wr) (fun i _ => l.length - (intOf i).toNat)
  case atStart => exact ⟨0, Nat.zero_le _, rfl, hb0, hB0⟩
  case round =>
    obtain ⟨k, hk, rfl, hB, hBr⟩ := hrel
    clear hb0 hB0
    by_cases hlt : k < l.length
    · have hlt' : (k : Int) < (l.length : Int) := by omega
      obtain ⟨bb, off, e1, -, e2, e3, e4, e5⟩ := (hr.below hBr).at k l[k] (by simp [hlt])
      have htk := txB_take hlt
      have hle := txB_le l (k + 1)
      generalize l[k] = r at *
      subst e1
      rw [htk] at hle
      simp only [List.length_append, Array.length_toList] at hle
      have hBa := hB.alloc (.cells #[.int .i64 r.c, .int .i64 r.q, .int .i64 r.f, .string r.t] 65)
      have hBra := hBr.alloc hBr.size (.cells #[.int .i64 r.c, .int .i64 r.q, .int .i64 r.f, .string r.t] 65)
      have hx1 : RB (wr.alloc (.cells #[.int .i64 r.c, .int .i64 r.q, .int .i64 r.f, .string r.t] 65)) wr.heap.size r := heap_alloc_new wr _
      obtain ⟨c0, c1, c2, c3⟩ := hx1.cells
      have hw := writeString_any w.heap.size w.heap.size _ r.t _ hBa (by rw [Lib.byteCells_length]; exact Nat.le_trans hle ht) hBra.size
      rw [cells_bytes, ← htk] at hw
      clear hB hr
      have hk1 : (k : Int) + 1 ≤ 9223372036854775807 := by omega
      go_wp2_with (go_at_call 47; refine hw.mono ?_; rintro e w1 ⟨rfl, hB2, hb2⟩)
      refine ⟨⟨k + 1, by omega, by simp, .inr hB2, hBra.trans hb2⟩, ?_⟩
      simp [intOf]
      omega
    · obtain rfl : k = l.length := by omega
      rw [List.take_length] at hB
      have hs := string_any w.heap.size w.heap.size _ wr hB hBr.size
      clear hB hr
      go_wp2_with (go_at_call 48; refine hs.mono ?_; rintro e w1 ⟨rfl, hb1⟩)
      go_ret
      exact ⟨rfl, hBr.trans hb1⟩

end Go.Proofs.YtofmficdfkeffaaDoor
