/-
  The device as it lies in memory; contracts of its small methods.
-/
import Derived.Test.YtkmdjhdininimaaProg
import Derived.Test.YtkmdjhdininimaaOps
import Derived.WalkLawsBesides
import Derived.Handy
import Derived.Outline
import Derived.KernelRfl
namespace Go.Proofs.Ytkmdjhdininimaa
open Go.RowKit Go.Maps

/-- What a device is. -/
structure DevS where
  n : Nat
  safe : SecF
  waits : SecF
  fuse : Int
  age : Int

def devCells (s : DevS) (bs bw : Nat) : Array Value := #[.int .i64 (s.n : Int), .map (some bs), .map (some bw), .int .i64 s.fuse, .int .i64 s.age]

/-- All of a sector function's sectors have 64 bytes. -/
def Full (f : SecF) : Prop := ∀ i t, f i = some t → t.length = 64

/-- At block p of w lies the device s, its maps in the blocks bs, bw. -/
structure IsDev (w : World) (p bs bw : Nat) (s : DevS) : Prop where
  str : w.heap[p]? = some (.cells (devCells s bs bw) 60)
  safe : w.ownsMap Try.prog 3 secR bs s.n (DF s.n s.safe)
  waits : w.ownsMap Try.prog 3 secR bw s.n (DF s.n s.waits)
  ne : bs ≠ bw
  lo : 8 ≤ s.n
  hi : s.n ≤ 8192
  fz0 : -1 ≤ s.fuse
  fz1 : s.fuse ≤ 9223372036854775807
  ag0 : -9223372036854775808 ≤ s.age
  ag1 : s.age ≤ 9223372036854775807
  fs : Full s.safe
  fw : Full s.waits

theorem IsDev.ps {w : World} {p bs bw : Nat} {s : DevS} (h : IsDev w p bs bw s) : p ≠ bs := by
  rintro rfl
  obtain ⟨es, c, hb, _⟩ := h.safe
  rw [h.str] at hb
  cases hb
theorem IsDev.pw {w : World} {p bs bw : Nat} {s : DevS} (h : IsDev w p bs bw s) : p ≠ bw := by
  rintro rfl
  obtain ⟨es, c, hb, _⟩ := h.waits
  rw [h.str] at hb
  cases hb

theorem IsDev.kept {w w' : World} {p bs bw : Nat} {s : DevS} {S : List Nat} (h : IsDev w p bs bw s) (ho : Only S w w') (h1 : p ∉ S) (h2 : bs ∉ S) (h3 : bw ∉ S) : IsDev w' p bs bw s :=
  ⟨only_heap h.str ho h1, ownsMap_only h.safe ho h2, ownsMap_only h.waits ho h3, h.ne, h.lo, h.hi, h.fz0, h.fz1, h.ag0, h.ag1, h.fs, h.fw⟩

theorem IsDev.below {w w' : World} {p bs bw : Nat} {s : DevS} (h : IsDev w p bs bw s) (hb : Below w.heap.size w w') : IsDev w' p bs bw s :=
  h.kept (Only.of_below (S := []) hb) (by simp) (by simp) (by simp)

theorem IsDev.c0 {w : World} {p bs bw : Nat} {s : DevS} (h : IsDev w p bs bw s) : w.cell? ⟨p, 0, none⟩ = some (.int .i64 (s.n : Int)) := by rw [cell_at h.str]; rfl
theorem IsDev.c1 {w : World} {p bs bw : Nat} {s : DevS} (h : IsDev w p bs bw s) : w.cell? ⟨p, 1, none⟩ = some (.map (some bs)) := by rw [cell_at h.str]; rfl
theorem IsDev.c2 {w : World} {p bs bw : Nat} {s : DevS} (h : IsDev w p bs bw s) : w.cell? ⟨p, 2, none⟩ = some (.map (some bw)) := by rw [cell_at h.str]; rfl
theorem IsDev.c3 {w : World} {p bs bw : Nat} {s : DevS} (h : IsDev w p bs bw s) : w.cell? ⟨p, 3, none⟩ = some (.int .i64 s.fuse) := by rw [cell_at h.str]; rfl
theorem IsDev.c4 {w : World} {p bs bw : Nat} {s : DevS} (h : IsDev w p bs bw s) : w.cell? ⟨p, 4, none⟩ = some (.int .i64 s.age) := by rw [cell_at h.str]; rfl
theorem IsDev.z {w : World} {p bs bw : Nat} {s : DevS} (h : IsDev w p bs bw s) (j : Nat) : w.frozen? ⟨p, j, none⟩ = false := frozen_at h.str j
theorem IsDev.ltp {w : World} {p bs bw : Nat} {s : DevS} (h : IsDev w p bs bw s) : p < w.heap.size := heap_lt h.str
theorem IsDev.lts {w : World} {p bs bw : Nat} {s : DevS} (h : IsDev w p bs bw s) : bs < w.heap.size := h.safe.lt
theorem IsDev.ltw {w : World} {p bs bw : Nat} {s : DevS} (h : IsDev w p bs bw s) : bw < w.heap.size := h.waits.lt

/-- The fuse is another. -/
theorem IsDev.setFuse {w : World} {p bs bw : Nat} {s : DevS} (h : IsDev w p bs bw s) (f : Int) (h0 : -1 ≤ f) (h1 : f ≤ 9223372036854775807) : IsDev (w.setCell ⟨p, 3, none⟩ (.int .i64 f)) p bs bw { s with fuse := f } := by
  have ho : Only [p] w (w.setCell ⟨p, 3, none⟩ (.int .i64 f)) := Only.setCell w (by simp) _
  exact ⟨heap_setCell h.str 3 _, ownsMap_only h.safe ho (by simp [h.ps.symm]), ownsMap_only h.waits ho (by simp [h.pw.symm]), h.ne, h.lo, h.hi, h0, h1, h.ag0, h.ag1, h.fs, h.fw⟩
theorem IsDev.setAge {w : World} {p bs bw : Nat} {s : DevS} (h : IsDev w p bs bw s) (f : Int) (h0 : -9223372036854775808 ≤ f) (h1 : f ≤ 9223372036854775807) : IsDev (w.setCell ⟨p, 4, none⟩ (.int .i64 f)) p bs bw { s with age := f } := by
  have ho : Only [p] w (w.setCell ⟨p, 4, none⟩ (.int .i64 f)) := Only.setCell w (by simp) _
  exact ⟨heap_setCell h.str 4 _, ownsMap_only h.safe ho (by simp [h.ps.symm]), ownsMap_only h.waits ho (by simp [h.pw.symm]), h.ne, h.lo, h.hi, h.fz0, h.fz1, h0, h1, h.fs, h.fw⟩

/-- The device is up. -/
def DevS.up (s : DevS) : Bool := s.fuse != 0

set_option maxHeartbeats 400000 in
theorem up_any {w : World} {p bs bw : Nat} {s : DevS} (h : IsDev w p bs bw s) :
    Calls Try.prog 28 #[.pointer (some ⟨p, 0, none⟩)] w fun e w' => e = .returned (.bool s.up) ∧ w' = w := by
  have h3 := h.c3
  unfold DevS.up
  clear h
  go_enter Try.func28, Try.ntmps28
  go_wp2
  go_ret
  exact ⟨rfl, rfl⟩

set_option maxHeartbeats 400000 in
theorem sectors_any {w : World} {p bs bw : Nat} {s : DevS} (h : IsDev w p bs bw s) :
    Calls Try.prog 52 #[.pointer (some ⟨p, 0, none⟩)] w fun e w' => e = .returned (.int .i64 (s.n : Int)) ∧ w' = w := by
  have h3 := h.c0
  clear h
  go_enter Try.func52, Try.ntmps52
  go_wp2
  go_ret
  exact ⟨rfl, rfl⟩

set_option maxHeartbeats 400000 in
theorem age_any {w : World} {p bs bw : Nat} {s : DevS} (h : IsDev w p bs bw s) :
    Calls Try.prog 51 #[.pointer (some ⟨p, 0, none⟩)] w fun e w' => e = .returned (.int .i64 s.age) ∧ w' = w := by
  have h3 := h.c4
  clear h
  go_enter Try.func51, Try.ntmps51
  go_wp2
  go_ret
  exact ⟨rfl, rfl⟩

/-- Is there such a sector? -/
def DevS.inB (s : DevS) (k : Int) : Bool := decide (0 ≤ k) && decide (k < (s.n : Int))

set_option maxHeartbeats 400000 in
theorem has_any {w : World} {p bs bw : Nat} {s : DevS} (h : IsDev w p bs bw s) (k : Int) :
    Calls Try.prog 29 #[.pointer (some ⟨p, 0, none⟩), .int .i64 k] w fun e w' => e = .returned (.bool (s.inB k)) ∧ w' = w := by
  have h0 := h.c0
  clear h
  by_cases hk : 0 ≤ k
  · have e : s.inB k = decide (k < (s.n : Int)) := by simp [DevS.inB, hk]
    rw [e]
    clear e
    go_enter Try.func29, Try.ntmps29
    go_wp2
    go_ret
    exact ⟨rfl, rfl⟩
  · have e : s.inB k = false := by simp [DevS.inB, hk]
    rw [e]
    clear e
    have hk' : k < 0 := by omega
    go_enter Try.func29, Try.ntmps29
    go_wp2
    go_ret
    exact ⟨rfl, rfl⟩

/-- One less, where there is a fuse. -/
def burnt (f : Int) : Int := if 0 < f then f - 1 else f

set_option maxHeartbeats 400000 in
theorem burn_any {w : World} {p bs bw : Nat} {s : DevS} (h : IsDev w p bs bw s) :
    Calls Try.prog 30 #[.pointer (some ⟨p, 0, none⟩)] w fun e w' => e = .returned (.tuple #[]) ∧ IsDev w' p bs bw { s with fuse := burnt s.fuse } ∧ Only [p] w w' := by
  have h3 := h.c3
  have hz := h.z 3
  have hf0 := h.fz0
  have hf1 := h.fz1
  by_cases hf : 0 < s.fuse
  · have R := h.setFuse (s.fuse - 1) (by omega) (by omega)
    have e : burnt s.fuse = s.fuse - 1 := if_pos hf
    rw [e]
    clear e h
    go_enter Try.func30, Try.ntmps30
    go_wp2
    go_end0
    exact ⟨rfl, R, Only.setCell w (by simp) _⟩
  · have e : burnt s.fuse = s.fuse := if_neg hf
    rw [e]
    clear e
    go_enter Try.func30, Try.ntmps30
    go_wp2
    go_end0
    exact ⟨rfl, h, Only.refl _ _⟩

set_option maxHeartbeats 400000 in
theorem fuse_no {w : World} (p : Option Addr) (n : Int) (hn : n < -1) :
    Calls Try.prog 13 #[.pointer p, .int .i64 n] w fun e w' => e = .returned (.int .i64 1) ∧ w' = w := by
  go_enter Try.func13, Try.ntmps13
  go_wp2
  go_ret
  exact ⟨rfl, rfl⟩

set_option maxHeartbeats 400000 in
theorem fuse_ok {w : World} {p bs bw : Nat} {s : DevS} (h : IsDev w p bs bw s) (n : Int) (hn : -1 ≤ n) (hn1 : n ≤ 9223372036854775807) :
    Calls Try.prog 13 #[.pointer (some ⟨p, 0, none⟩), .int .i64 n] w fun e w' => e = .returned (.int .i64 0) ∧ IsDev w' p bs bw { s with fuse := n } ∧ Only [p] w w' := by
  have h3 := h.c3
  have hz := h.z 3
  have R := h.setFuse n hn hn1
  clear h
  have hn' : ¬ n < -1 := by omega
  go_enter Try.func13, Try.ntmps13
  go_wp2
  go_ret
  exact ⟨rfl, R, Only.setCell w (by simp) _⟩
end Go.Proofs.Ytkmdjhdininimaa
