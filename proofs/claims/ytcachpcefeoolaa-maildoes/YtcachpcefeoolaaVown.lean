/-
  What the rows of a seat without laid variables share.
-/
import Derived.Test.YtcachpcefeoolaaVbase
import Derived.LaidLaws
namespace Go.Proofs.Ytcachpcefeoolaa
theorem own : ownKnob Try.prog.godebug = none := by kernel_rfl
end Go.Proofs.Ytcachpcefeoolaa
