/-
  What the rows of a seat without laid variables share.
-/
import Derived.Test.YtlpkeimcklhdbaaVbase
import Derived.LaidLaws
namespace Go.Proofs.Ytlpkeimcklhdbaa
theorem own : ownKnob Try.prog.godebug = none := by kernel_rfl
end Go.Proofs.Ytlpkeimcklhdbaa
