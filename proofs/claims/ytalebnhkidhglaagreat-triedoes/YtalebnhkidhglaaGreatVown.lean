/-
  What the rows of a seat without laid variables share.
-/
import Derived.Test.YtalebnhkidhglaaGreatVbase
import Derived.LaidLaws
namespace Go.Proofs.YtalebnhkidhglaaGreat
theorem own : ownKnob Tryz.prog.godebug = none := by kernel_rfl
end Go.Proofs.YtalebnhkidhglaaGreat
