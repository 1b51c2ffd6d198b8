/-
  The contract of the reference's first: it gives what next gives.
-/
import Derived.Test.YtffbkgmagjkogabDoorTxFirstP
import Derived.Deep.QuietTactic
import Derived.BigQuiet
import Derived.WalkSmall
namespace Go.Proofs.YtffbkgmagjkogabDoor
open Go.ChangeShapes Go.WideShapes Go.ChangeAt Go.RowKit Go.PlainAid






end Go.Proofs.YtffbkgmagjkogabDoor
