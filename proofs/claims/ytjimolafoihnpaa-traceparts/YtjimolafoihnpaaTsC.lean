/-
  The answers that live asks for, as data.
-/
import Derived.Test.YtjimolafoihnpaaTsB
namespace Go.Proofs.Ytjimolafoihnpaa.tc
open Go.Maps Go.ChangeShapes Go.WideShapes Go.ChangeAt Go.RowKit Go.PlainAid

def bA : ByteArray := ⟨#[97, 98]⟩
def bB : ByteArray := ⟨#[98, 99]⟩
def bC : ByteArray := ⟨#[99, 97]⟩
def bX : ByteArray := ⟨#[97, 120, 98]⟩
def bY : ByteArray := ⟨#[99]⟩
def bZ : ByteArray := ⟨#[98, 97]⟩
def l1 : List (List RunD) := [wdR bY, wdR bA, wdR bZ]
def l2 : List (List RunD) := [wdR bA, wdR bB, wdR bC]
def l3 : List (List RunD) := [wdR bA, wdR bX]
theorem aT_bA : aT (wdR bA) = [⟨0, 97, 0, 97⟩, ⟨0, 98, 0, 98⟩] := by kernel_rfl
theorem dcs1 : dcs l1 = [[(0, 99)], [(1, 97), (2, 98)], [(2, 98), (1, 97)]] := by kernel_rfl
theorem dcs2 : dcs l2 = [[(0, 97), (1, 98)], [(1, 98), (2, 99)], [(2, 99), (0, 97)]] := by kernel_rfl
theorem dcs3 : dcs l3 = [[(0, 97), (1, 98)], [(0, 97), (2, 120), (1, 98)]] := by kernel_rfl
theorem nm2 : nmA (aTs l2) = [(0, 97, 0), (0, 98, 0), (0, 99, 0)] := by kernel_rfl
theorem nm3 : nmA (aTs l3) = [(0, 97, 0), (0, 98, 0), (0, 120, 0)] := by kernel_rfl
theorem row2 : (rowM (dcs l2) (tabH (hvD (dcs l2)) (nmA (aTs l2)).length) (nmA (aTs l2)).length 1).map (fun s => s.row) = some [] := by
  rw [dcs2, nm2]
  kernel_rfl
theorem row3 : (rowM (dcs l3) (tabH (hvD (dcs l3)) (nmA (aTs l3)).length) (nmA (aTs l3)).length 1).map (fun s => s.row) = some [0, 2, 1] := by
  rw [dcs3, nm3]
  kernel_rfl
theorem ord2 : ordO (dcs l2) (nmA (aTs l2)) [] = none := by
  rw [dcs2, nm2]
  kernel_rfl
def tx3 (l : List RunD) : ByteArray := l.foldl (fun s r => s ++ r.t) ⟨#[]⟩
def R3 : List RunD := [⟨0, 97, 0, ⟨#[97]⟩⟩, ⟨0, 120, 0, ⟨#[120]⟩⟩, ⟨0, 98, 0, ⟨#[98]⟩⟩]
theorem ord3 : ordO (dcs l3) (nmA (aTs l3)) [0, 2, 1] = some R3 := by
  rw [dcs3, nm3]
  kernel_rfl
theorem R3_len : R3.length ≤ 1048576 := by decide
theorem R3_tx : ∀ k, (tx3 (R3.take k)).size ≤ 1048576 * 1048576
  | 0 => by decide
  | 1 => by decide
  | 2 => by decide
  | k + 3 => by
    rw [List.take_of_length_le (by show 3 ≤ k + 3; omega)]
    decide
theorem R3_is : ((tx3 R3).toList == [97, 120, 98]) = true := by kernel_rfl
theorem chk1 : ChkIs (dcs l1) 1 2 false := by
  rw [dcs1]
  refine .inr ⟨rfl, ?_, [(1, 97), (2, 98)], rfl, .inr ⟨by decide, by decide, ⟨[(2, 98), (1, 97)], rfl, by decide, by decide⟩, ?_⟩⟩
  · intro i hi
    obtain rfl : i = 0 := by omega
    intro row h
    injection h with h
    subst h
    refine ⟨by decide, fun j r hj h hs => ?_⟩
    match j, h with
    | 1, h => injection h with h; subst h; decide
    | 2, h => injection h with h; subst h; decide
  · intro j r h1 h2
    omega
theorem chk2 : ChkIs (dcs l2) 0 0 true := by
  rw [dcs2]
  refine .inl ⟨rfl, rfl, rfl, ?_⟩
  intro i row h
  have hp : ∀ j r, [[((0 : Nat), (97 : Int)), (1, 98)], [(1, 98), (2, 99)], [(2, 99), (0, 97)]][j]? = some r → j < 3 := fun j r h => (List.getElem?_eq_some_iff.1 h).1
  have hi := hp i row h
  match i, h with
  | 0, h =>
    injection h with h; subst h
    refine ⟨by decide, fun j r hj h hs => ?_⟩
    match j, h with
    | 1, h => injection h with h; subst h; decide
    | 2, h => injection h with h; subst h; decide
  | 1, h =>
    injection h with h; subst h
    refine ⟨by decide, fun j r hj h hs => ?_⟩
    match j, h with
    | 2, h => injection h with h; subst h; decide
  | 2, h =>
    injection h with h; subst h
    refine ⟨by decide, fun j r hj h hs => ?_⟩
    have := hp j r h
    omega
end Go.Proofs.Ytjimolafoihnpaa.tc
