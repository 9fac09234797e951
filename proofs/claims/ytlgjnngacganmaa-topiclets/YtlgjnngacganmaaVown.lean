/-
  What the rows of a seat without laid variables share.
-/
import Derived.Test.YtlgjnngacganmaaVbase
import Derived.LaidLaws
namespace Go.Proofs.Ytlgjnngacganmaa
theorem own : ownKnob Try.prog.godebug = none := by kernel_rfl
end Go.Proofs.Ytlgjnngacganmaa
