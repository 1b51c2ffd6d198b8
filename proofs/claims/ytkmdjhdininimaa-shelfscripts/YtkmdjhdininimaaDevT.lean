/-
  The device's methods, each under one contract for whatever it is called with.
-/
import Derived.Test.YtkmdjhdininimaaDevC
namespace Go.Proofs.Ytkmdjhdininimaa
open Go.RowKit Go.Maps

def DevS.write (s : DevS) (k : Int) (x : ByteArray) : Int × DevS :=
  if s.up = false then (3, s) else if s.inB k = false ∨ x.size ≠ 64 then (1, s) else (0, { s with waits := putF s.waits k.toNat x.data.toList, fuse := burnt s.fuse })
def DevS.sync (s : DevS) : Int × DevS := if s.up = false then (3, s) else (0, { s.synced with fuse := burnt s.fuse })
def DevS.setF (s : DevS) (n : Int) : Int × DevS := if n < -1 then (1, s) else (0, { s with fuse := n })
def DevS.safeR (s : DevS) (k : Int) : ByteArray × Int := if s.inB k = false then (⟨#[]⟩, 1) else (Go.Proofs.Ytkmdjhdininimaa.mk (s.safeAt k.toNat), 0)
def DevS.read (s : DevS) (k : Int) : ByteArray × Int := if s.up = false then (⟨#[]⟩, 3) else if s.inB k = false then (⟨#[]⟩, 1) else (Go.Proofs.Ytkmdjhdininimaa.mk (s.readAt k.toNat), 0)

theorem inB_true {s : DevS} {k : Int} (h : s.inB k = true) : ∃ i : Nat, k = (i : Int) ∧ i < s.n := by
  simp only [DevS.inB, Bool.and_eq_true, decide_eq_true_eq] at h
  obtain ⟨i, rfl⟩ := Int.eq_ofNat_of_zero_le h.1
  exact ⟨i, rfl, by omega⟩

theorem same_dev {w w' : World} {p bs bw : Nat} {s : DevS} (h : IsDev w p bs bw s) (hw : w' = w) : IsDev w' p bs bw s ∧ Only [p, bs, bw] w w' := by
  subst hw
  exact ⟨h, Only.refl _ _⟩

theorem write_all {w : World} {p bs bw : Nat} {s : DevS} (h : IsDev w p bs bw s) (k : Int) (x : ByteArray) :
    Calls Try.prog 11 #[.pointer (some ⟨p, 0, none⟩), .int .i64 k, .string x] w fun e w' => e = .returned (.int .i64 (s.write k x).1) ∧ IsDev w' p bs bw (s.write k x).2 ∧ Only [p, bs, bw] w w' := by
  unfold DevS.write
  cases hu : s.up with
  | false =>
    rw [if_pos rfl]
    exact (write_down h k x hu).mono fun e w' ⟨h1, h2⟩ => ⟨h1, same_dev h h2⟩
  | true =>
    rw [if_neg (by simp)]
    by_cases ha : s.inB k = false ∨ x.size ≠ 64
    · rw [if_pos ha]
      exact (write_arg h k x hu ha).mono fun e w' ⟨h1, h2⟩ => ⟨h1, same_dev h h2⟩
    · rw [if_neg ha]
      have hb : s.inB k = true := by
        cases hi : s.inB k with
        | true => rfl
        | false => exact absurd (.inl hi) ha
      obtain ⟨i, rfl, hi⟩ := inB_true hb
      have hx : x.size = 64 := Classical.not_not.1 (fun hn => ha (.inr hn))
      exact (write_ok h i x hi hu hx).mono fun e w' ⟨h1, h2, h3⟩ => ⟨h1, h2, h3.mono (by simp)⟩

theorem sync_all {w : World} {p bs bw : Nat} {s : DevS} (h : IsDev w p bs bw s) :
    Calls Try.prog 12 #[.pointer (some ⟨p, 0, none⟩)] w fun e w' => e = .returned (.int .i64 s.sync.1) ∧ IsDev w' p bs bw s.sync.2 ∧ Only [p, bs, bw] w w' := by
  unfold DevS.sync
  cases hu : s.up with
  | false =>
    rw [if_pos rfl]
    exact (sync_down h hu).mono fun e w' ⟨h1, h2⟩ => ⟨h1, same_dev h h2⟩
  | true =>
    rw [if_neg (by simp)]
    exact sync_ok h hu

theorem fuse_all {w : World} {p bs bw : Nat} {s : DevS} (h : IsDev w p bs bw s) (n : Int) (hn : n ≤ 9223372036854775807) :
    Calls Try.prog 13 #[.pointer (some ⟨p, 0, none⟩), .int .i64 n] w fun e w' => e = .returned (.int .i64 (s.setF n).1) ∧ IsDev w' p bs bw (s.setF n).2 ∧ Only [p, bs, bw] w w' := by
  unfold DevS.setF
  by_cases hl : n < -1
  · rw [if_pos hl]
    exact (fuse_no _ n hl).mono fun e w' ⟨h1, h2⟩ => ⟨h1, same_dev h h2⟩
  · rw [if_neg hl]
    exact (fuse_ok h n (by omega) hn).mono fun e w' ⟨h1, h2, h3⟩ => ⟨h1, h2, h3.mono (by simp)⟩

theorem safe_all {w : World} {p bs bw : Nat} {s : DevS} (h : IsDev w p bs bw s) (k : Int) :
    Calls Try.prog 73 #[.pointer (some ⟨p, 0, none⟩), .int .i64 k] w fun e w' => e = .returned (.tuple #[.string (s.safeR k).1, .int .i64 (s.safeR k).2]) ∧ Below w.heap.size w w' := by
  unfold DevS.safeR
  cases hb : s.inB k with
  | false =>
    rw [if_pos rfl]
    exact (safe_no h k hb).mono fun e w' ⟨h1, h2⟩ => ⟨h1, by rw [h2]; exact Below.refl _ _⟩
  | true =>
    rw [if_neg (by simp)]
    obtain ⟨i, rfl, hi⟩ := inB_true hb
    exact safe_ok h i hi

theorem read_all {w : World} {p bs bw : Nat} {s : DevS} (h : IsDev w p bs bw s) (k : Int) (h0 : -9223372036854775808 ≤ k) (h1 : k ≤ 9223372036854775807) :
    Calls Try.prog 68 #[.pointer (some ⟨p, 0, none⟩), .int .i64 k] w fun e w' => e = .returned (.tuple #[.string (s.read k).1, .int .i64 (s.read k).2]) ∧ Below w.heap.size w w' := by
  unfold DevS.read
  cases hu : s.up with
  | false =>
    rw [if_pos rfl]
    exact (read_down h k hu).mono fun e w' ⟨h1, h2⟩ => ⟨h1, by rw [h2]; exact Below.refl _ _⟩
  | true =>
    rw [if_neg (by simp)]
    cases hb : s.inB k with
    | false =>
      rw [if_pos rfl]
      exact read_arg h k h0 h1 hb hu
    | true =>
      rw [if_neg (by simp)]
      obtain ⟨i, rfl, hi⟩ := inB_true hb
      exact read_ok h i hi hu

theorem write_n (s : DevS) (k : Int) (x : ByteArray) : (s.write k x).2.n = s.n := by unfold DevS.write; split <;> (try split) <;> rfl
theorem sync_n (s : DevS) : s.sync.2.n = s.n := by unfold DevS.sync; split <;> rfl
theorem setF_n (s : DevS) (n : Int) : (s.setF n).2.n = s.n := by unfold DevS.setF; split <;> rfl
end Go.Proofs.Ytkmdjhdininimaa
