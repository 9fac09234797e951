/-
  What the cards of this seat share: a world for the witness.
-/
import Derived.Test.YtenhncohhikllaaDoorVtab
namespace Go.Proofs.YtenhncohhikllaaDoor
open Go.ChangeShapes Go.WideShapes Go.ChangeAt Go.RowKit

theorem own : ownKnob Tryd.prog.godebug = none := by kernel_rfl

/-- a world for the witness: the settled one, the table holding what its initialiser lays -/
noncomputable def laidWorld (os : Os) : World :=
  { World.holding Tryd.prog os ⟨#[], #[], []⟩ with heap := (World.holding Tryd.prog os ⟨#[], #[], []⟩).heap.modify 0 fun
      | .cells _ t frozen => .cells #[.int .u8 0, .int .u64 0, .int .u64 240, .int .u8 241, .int .u64 240, .int .u64 2287, .int .u8 249, .int .u64 2288, .int .u64 67823, .int .u8 250, .int .u64 0, .int .u64 16777215, .int .u8 251, .int .u64 0, .int .u64 4294967295, .int .u8 252, .int .u64 0, .int .u64 1099511627775, .int .u8 253, .int .u64 0, .int .u64 281474976710655, .int .u8 254, .int .u64 0, .int .u64 72057594037927935, .int .u8 255, .int .u64 0, .int .u64 18446744073709551615] t frozen
      | o => o }
end Go.Proofs.YtenhncohhikllaaDoor
