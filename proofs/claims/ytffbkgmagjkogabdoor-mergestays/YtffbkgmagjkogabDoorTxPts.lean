/-
  What text.next gives, in plain numbers; its contract, and those of first, sizeOf, tail.
-/
import Derived.Test.YtffbkgmagjkogabDoorRows
import Derived.Test.YtffbkgmagjkogabDoorTxPlain
import Derived.WalkLawsBesides
import Derived.Handy
namespace Go.Proofs.YtffbkgmagjkogabDoor
open Go.ChangeShapes Go.WideShapes Go.ChangeAt Go.RowKit Go.PlainAid

/-- What a first byte tells: the bits that it carries, how many bytes there are. -/
def fstB (b : Int) : Int × Int := if b < 128 then (b, 1) else if b / 32 = 6 then (b % 32, 2) else if b / 16 = 14 then (b % 16, 3) else if b / 8 = 30 then (b % 8, 4) else (0, 0)
/-- How many bytes a code point has; 0: it is none. -/
def szI (v : Int) : Int := if v < 0 ∨ 1114111 < v ∨ (55296 ≤ v ∧ v ≤ 57343) then 0 else if v < 128 then 1 else if v < 2048 then 2 else if v < 65536 then 3 else 4
/-- The bytes behind the first one. -/
def nxGo (s : ByteArray) (at' : Nat) : Nat → Nat → Int → Option Int
  | 0, _, v => some v
  | f + 1, i, v => if bt s (at' + i) / 64 = 2 then nxGo s at' f (i + 1) (v * 64 + bt s (at' + i) % 64) else none
/-- The code point at a place, and how many bytes it has. -/
def nx (s : ByteArray) (at' : Nat) : Int × Int :=
  if (s.size : Int) - (at' : Int) < (fstB (bt s at')).2 then (0, 0)
  else match nxGo s at' ((fstB (bt s at')).2.toNat - 1) 1 (fstB (bt s at')).1 with
    | none => (0, 0)
    | some v => if szI v = (fstB (bt s at')).2 then (v, (fstB (bt s at')).2) else (0, 0)

theorem fstB_bd (b : Int) (h0 : 0 ≤ b) (h1 : b ≤ 255) : 0 ≤ (fstB b).1 ∧ (fstB b).1 ≤ 127 ∧ 0 ≤ (fstB b).2 ∧ (fstB b).2 ≤ 4 := by
  unfold fstB
  split
  · simp only; omega
  · split
    · simp only; omega
    · split
      · simp only; omega
      · split <;> simp only <;> omega



theorem szI_bd (v : Int) : 0 ≤ szI v ∧ szI v ≤ 4 := by
  unfold szI; split; · omega
  split; · omega
  split; · omega
  split <;> omega

end Go.Proofs.YtffbkgmagjkogabDoor
