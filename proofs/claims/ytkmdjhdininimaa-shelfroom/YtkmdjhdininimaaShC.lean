/-
  The heading of a shelf.
-/
import Derived.Test.YtkmdjhdininimaaShB
import Derived.Lib.QuoteBits
namespace Go.Proofs.Ytkmdjhdininimaa
open Go.RowKit Go.Maps

theorem or_two (b c : Nat) (hb : b < 2 ^ 8) (hc : c < 2 ^ 8) : bits .or .i64 ((b : Int) * 256) (c : Int) = ((b * 256 + c : Nat) : Int) := by
  have e1 : (b : Int) * 256 = ((b * 256 : Nat) : Int) := by omega
  rw [e1]
  show IntKind.i64.wrap ((BitVec.ofInt 64 ((b * 256 : Nat) : Int) ||| BitVec.ofInt 64 (c : Int)).toNat : Int) = _
  rw [BitVec.toNat_or, ofInt_u64 _ (by omega), ofInt_u64 _ (by omega)]
  have e3 : b * 256 ||| c = b * 256 + c := by
    have := Nat.shiftLeft_add_eq_or_of_lt (b := c) (i := 8) (by omega) b
    rw [Nat.shiftLeft_eq] at this
    exact this.symm
  rw [e3]
  exact Go.Lib.wrap_i64_small _ (by omega)
theorem Try.sizeHd : (Try.prog.info? 68).map (·.size) = some 2 := by kernel_rfl
theorem Try.sizePl : (Try.prog.info? 87).map (·.size) = some 2 := by kernel_rfl
/-- A heading's numbers out of a sector. -/
def hPl (t : Sec) : Nat := (t.getD 0 0).toNat
def hLn (t : Sec) : Nat := (t.getD 1 0).toNat * 256 + (t.getD 2 0).toNat
/-- .. and its sector. -/
def hdS (pl ln : Nat) : Sec := UInt8.ofNat pl :: UInt8.ofNat (ln / 256) :: UInt8.ofNat ln :: List.replicate 61 0
theorem bv_at {w : World} {g : Nat} {t : Sec} {ty : TypeId} (h : w.heap[g]? = some (.cells (bv t).toArray ty)) (i : Nat) (hi : i < t.length) : w.cell? ⟨g, i, none⟩ = some (.int .u8 ((t.getD i 0).toNat : Int)) := by
  rw [cell_at h]
  simp [bv, hi]

set_option maxRecDepth 20000 in
set_option maxHeartbeats 1000000 in
theorem headingOf_any (t : Sec) (h64 : t.length = 64) (w : World) :
    Calls Try.prog 62 #[.agg (bv t).toArray] w fun e w' => e = .returned (.agg #[.int .i64 (hPl t : Int), .int .i64 (hLn t : Int)]) ∧ Below w.heap.size w w' := by
  have hb := heap_alloc_last w (.cells (bv t).toArray 81)
  have hb2 := (Below.heap_alloc (w.alloc (.cells (bv t).toArray 81)) (.cells #[.int .i64 0, .int .i64 0] 68) w.heap.size (by simp)).trans hb
  have c0 := bv_at hb2 0 (by omega)
  have c1 := bv_at hb2 1 (by omega)
  have c2 := bv_at hb2 2 (by omega)
  clear hb2
  have l0 := (t.getD 0 0).toNat_lt
  have l1 := (t.getD 1 0).toNat_lt
  have l2 := (t.getD 2 0).toNat_lt
  unfold hPl hLn
  generalize (t.getD 0 0).toNat = a at *
  generalize (t.getD 1 0).toNat = b at *
  generalize (t.getD 2 0).toNat = c at *
  clear hb
  generalize bv t = V at *
  go_enter Try.func62, Try.ntmps62
  have ho := or_two b c l1 l2
  go_wp2_with fail
  have hB : Below w.heap.size w ((w.alloc (.cells V.toArray 81)).alloc (.cells #[.int .i64 a, .int .i64 ((b : Int) * 256 + (c : Int))] 68)) := ((Below.refl _ w).alloc (Nat.le_refl _) _).alloc (by simp) _
  have hf := heap_alloc_last (w.alloc (.cells V.toArray 81)) (.cells #[.int .i64 a, .int .i64 ((b : Int) * 256 + (c : Int))] 68)
  rw [World.size_alloc] at hf
  refine bodyPost_ret (results_cell_row rfl _ _ (w.heap.size + 1) 68 _ (0, 0) _ rfl hf Try.underlying68 rfl Try.sizeHd) rfl ?_
  exact ⟨by go_num, hB⟩

set_option maxRecDepth 20000 in
set_option maxHeartbeats 1000000 in
theorem places_any {w : World} {q p bs bw : Nat} {s : DevS} {age : Int} {lost : Bool} (h : IsDev w p bs bw s) (hs : SB w q p age lost) :
    Calls Try.prog 58 #[.pointer (some ⟨q, 0, none⟩)] w fun e w' => e = .returned (.agg #[.int .i64 1, .int .i64 (1 + (s.each : Int))]) ∧ Below w.heap.size w w' := by
  have hA : Below w.heap.size w (w.alloc (.cells #[.int .i64 0, .int .i64 0] 87)) := (Below.refl _ w).alloc (Nat.le_refl _) _
  have c := each_any (h.below hA) (hs.below hA)
  have hl := each_le h
  have hr := heap_alloc_last w (.cells #[.int .i64 0, .int .i64 0] 87)
  generalize s.each = m at *
  clear h hs
  go_enter Try.func58, Try.ntmps58
  go_wp2_with fail
  refine c.mono ?_
  rintro e w1 ⟨rfl, rfl⟩
  go_wp2_with fail
  have hB : Below w.heap.size w (w.alloc (.cells #[.int .i64 1, .int .i64 (1 + (m : Int))] 87)) := (Below.refl _ w).alloc (Nat.le_refl _) _
  have hf := heap_alloc_last w (.cells #[.int .i64 1, .int .i64 (1 + (m : Int))] 87)
  refine bodyPost_ret (results_cell_row rfl _ _ w.heap.size 87 _ (0, 0) _ rfl hf Try.underlying87 rfl Try.sizePl) rfl ?_
  exact ⟨rfl, hB⟩

set_option maxRecDepth 20000 in
set_option maxHeartbeats 1000000 in
theorem bytes_any (pl ln : Nat) (hp : pl < 256) (hl : ln < 65536) (w : World) :
    Calls Try.prog 63 #[.agg #[.int .i64 (pl : Int), .int .i64 (ln : Int)]] w fun e w' => e = .returned (.agg (bv (hdS pl ln)).toArray) ∧ Below w.heap.size w w' := by
  have HV : Hid ((bv (hdS pl ln)).toArray = #[.int .u8 (pl : Int), .int .u8 ((ln : Int) / 256), .int .u8 ((ln : Int) % 256), .int .u8 0, .int .u8 0, .int .u8 0, .int .u8 0, .int .u8 0, .int .u8 0, .int .u8 0, .int .u8 0, .int .u8 0, .int .u8 0, .int .u8 0, .int .u8 0, .int .u8 0, .int .u8 0, .int .u8 0, .int .u8 0, .int .u8 0, .int .u8 0, .int .u8 0, .int .u8 0, .int .u8 0, .int .u8 0, .int .u8 0, .int .u8 0, .int .u8 0, .int .u8 0, .int .u8 0, .int .u8 0, .int .u8 0, .int .u8 0, .int .u8 0, .int .u8 0, .int .u8 0, .int .u8 0, .int .u8 0, .int .u8 0, .int .u8 0, .int .u8 0, .int .u8 0, .int .u8 0, .int .u8 0, .int .u8 0, .int .u8 0, .int .u8 0, .int .u8 0, .int .u8 0, .int .u8 0, .int .u8 0, .int .u8 0, .int .u8 0, .int .u8 0, .int .u8 0, .int .u8 0, .int .u8 0, .int .u8 0, .int .u8 0, .int .u8 0, .int .u8 0, .int .u8 0, .int .u8 0, .int .u8 0]) := by
    show _ = _
    have e1 : (UInt8.ofNat pl).toNat = pl := by simp; omega
    have e2 : ((UInt8.ofNat (ln / 256)).toNat : Int) = (ln : Int) / 256 := by simp; omega
    have e3 : ((UInt8.ofNat ln).toNat : Int) = (ln : Int) % 256 := by simp
    unfold hdS bv
    simp only [List.map_cons, e1, e2, e3]
    rfl
  have hsz : (bv (hdS pl ln)).length = 64 := by rw [bv_len]; rfl
  have hres := heap_alloc_last (w.alloc (.cells #[.int .i64 (pl : Int), .int .i64 (ln : Int)] 68)) (.cells zeroC.toArray 81)
  rw [World.size_alloc] at hres
  go_enter Try.func63, Try.ntmps63
  go_wp2_with (first
    | (with_reducible refine at_alloc 81 rfl ?_; refine wpList_alloc_arr rfl 81 rfl zeroC.toArray Try.zeroH ?_)
    | (with_reducible refine at_store 81 _ _ rfl ?_; refine wpList_store_row rfl 81 _ _ rfl (w.heap.size + 1) (bv (hdS pl ln)).toArray rfl (by rw [HV.out]; simp [Act.eval]) 81 _ hres (by simpa [hsz] using Try.sizeH) (by simp [zeroC_len, hsz]) (bv_one (hdS pl ln)) ?_))
  have hfin := setRow_heap _ _ _ (bv (hdS pl ln)).toArray _ _ hres
  have hB2 : Below w.heap.size w ((w.alloc (.cells #[.int .i64 (pl : Int), .int .i64 (ln : Int)] 68)).alloc (.cells zeroC.toArray 81)) := ((Below.refl _ w).alloc (Nat.le_refl _) _).alloc (by simp) _
  have hB := hB2.trans ((Only.setRowS (S := [w.heap.size + 1]) ((w.alloc (.cells #[.int .i64 (pl : Int), .int .i64 (ln : Int)] 68)).alloc (.cells zeroC.toArray 81)) (List.mem_singleton.2 rfl) (bv (hdS pl ln)).toArray).below hB2.size (by simp))
  refine bodyPost_ret (results_cell_row rfl _ _ (w.heap.size + 1) 81 (bv (hdS pl ln)).toArray (0, 0) _ rfl hfin Try.underlying81 rfl (by simpa [hsz] using Try.sizeH)) rfl ?_
  exact ⟨rfl, hB⟩
end Go.Proofs.Ytkmdjhdininimaa
