/-
  The contract of the reference's Check.
-/
import Derived.Test.YtaopfdgebibpeaaDlH
import Derived.Test.YtaopfdgebibpeaaDlL
namespace Go.Proofs.Ytaopfdgebibpeaa
open Go.ChangeShapes Go.WideShapes Go.ChangeAt Go.RowKit Go.PlainAid

/-- Texts that the reference can take apart. -/
def OpD.Sm (o : OpD) : Prop := o.t.size ≤ 1048576
theorem sm_in {o : OpD} (h : o.Sm) : o.In := by unfold OpD.Sm at h; unfold OpD.In; omega

end Go.Proofs.Ytaopfdgebibpeaa
