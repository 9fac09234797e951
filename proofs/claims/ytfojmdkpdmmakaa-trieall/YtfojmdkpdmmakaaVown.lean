/-
  What the rows of a seat without laid variables share.
-/
import Derived.Test.YtfojmdkpdmmakaaVbase
import Derived.LaidLaws
namespace Go.Proofs.Ytfojmdkpdmmakaa
theorem own : ownKnob Try.prog.godebug = none := by kernel_rfl
end Go.Proofs.Ytfojmdkpdmmakaa
