/-
  What the walks of layer 1 share: the table of widths in memory, and what a call keeps.
-/
import Derived.Test.YtenhncohhikllaaDoorRows
import Derived.Test.YtenhncohhikllaaDoorVmath
import Derived.WalkKit
import Derived.ProofKit
import Derived.OpenShut
import Derived.WalkLawsBesides
import Derived.WalkSpells
import Derived.Outline
import Derived.Lib.Hide
import Derived.Lib.Strings
import Derived.BigQuiet
namespace Go.Proofs.YtenhncohhikllaaDoor
open Go.ChangeShapes Go.WideShapes Go.ChangeAt Go.RowKit

/-- the table of widths lies in its variable's block -/
structure Tab (w : World) : Prop where
  size : 0 < w.heap.size
  first : ∀ k, k < 9 → w.cell? ⟨0, k * 3, none⟩ = some (.int .u8 (Vn.vfirst k))
  base : ∀ k, k < 9 → w.cell? ⟨0, k * 3 + 1, none⟩ = some (.int .u64 (Vn.vbase k))
  top : ∀ k, k < 9 → w.cell? ⟨0, k * 3 + 2, none⟩ = some (.int .u64 (Vn.vtop k))

/-- all that was there is as it was -/
def Kept (w w' : World) : Prop := Below w.heap.size w w'
theorem Kept.refl (w : World) : Kept w w := Below.refl _ _
theorem Kept.trans {a b c : World} (h : Kept a b) (k : Kept b c) : Kept a c := Below.trans h (Below.mono k h.size)
theorem Kept.size {a b : World} (h : Kept a b) : a.heap.size ≤ b.heap.size := Below.size h
theorem Kept.alloc {a b : World} (h : Kept a b) (o : Obj) : Kept a (b.alloc o) := Below.alloc h h.size o
theorem Kept.drew {a b : World} (h : Kept a b) : Kept a b.drew := Below.drew h
theorem Tab.kept {a b : World} (t : Tab a) (h : Kept a b) : Tab b :=
  ⟨Nat.lt_of_lt_of_le t.size h.size, fun k hk => (Below.cell h (p := ⟨0, k * 3, none⟩) t.size).trans (t.first k hk),
    fun k hk => (Below.cell h (p := ⟨0, k * 3 + 1, none⟩) t.size).trans (t.base k hk), fun k hk => (Below.cell h (p := ⟨0, k * 3 + 2, none⟩) t.size).trans (t.top k hk)⟩

/-- a string of these bytes -/
def str (l : List UInt8) : Value := .string ⟨l.toArray⟩

theorem ret_int {k : IntKind} {a b : Int} (h : a = b) : Ending.returned (.int k a) = .returned (.int k b) := by rw [h]
end Go.Proofs.YtenhncohhikllaaDoor
