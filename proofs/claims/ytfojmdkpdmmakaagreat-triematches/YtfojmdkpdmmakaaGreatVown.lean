/-
  What the rows of a seat without laid variables share.
-/
import Derived.Test.YtfojmdkpdmmakaaGreatVbase
import Derived.LaidLaws
namespace Go.Proofs.YtfojmdkpdmmakaaGreat
theorem own : ownKnob Tryz.prog.godebug = none := by kernel_rfl
end Go.Proofs.YtfojmdkpdmmakaaGreat
