/-
  Small facts on bits of ints.
-/
import Derived.Test.YtenhncohhikllaaDoorVbase
import Derived.Laws.BitsAllLaws
namespace Go.Proofs.YtenhncohhikllaaDoor
open Go.ChangeShapes Go.WideShapes Go.ChangeAt Go.RowKit

theorem and_mask (k : Int) (m : Nat) (hm : m < 9223372036854775808) : 0 ≤ bits BinOp.and IntKind.i64 k (m : Int) ∧ bits BinOp.and IntKind.i64 k (m : Int) ≤ (m : Int) := by
  have h : (BitVec.ofInt 64 k &&& BitVec.ofInt 64 (m : Int)).toNat ≤ m := by
    rw [BitVec.toNat_and, BitVec.ofInt_natCast, BitVec.toNat_ofNat, Nat.mod_eq_of_lt (by omega)]
    exact Nat.and_le_right
  have e : bits BinOp.and IntKind.i64 k (m : Int) = ((BitVec.ofInt 64 k &&& BitVec.ofInt 64 (m : Int)).toNat : Int) := by
    show IntKind.i64.wrap ((BitVec.ofInt 64 k &&& BitVec.ofInt 64 (m : Int)).toNat : Int) = _
    rw [IntKind.wrap_i64]
    omega
  rw [e]
  omega
end Go.Proofs.YtenhncohhikllaaDoor
