/-
  What the rows of a seat without laid variables share.
-/
import Derived.Test.YtedenkgjdmcafaaVbase
import Derived.LaidLaws
namespace Go.Proofs.Ytedenkgjdmcafaa
theorem own : ownKnob Try.prog.godebug = none := by kernel_rfl
end Go.Proofs.Ytedenkgjdmcafaa
