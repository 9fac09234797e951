/-
  A state or a record as it stands on a disk; what was sealed, split; the walks of seal, split and readState.
-/
import Derived.Test.YtenhncohhikllaaDoorWcrash
import Derived.Test.YtenhncohhikllaaDoorKseal
import Derived.Test.YtenhncohhikllaaDoorKrows
import Derived.Test.YtenhncohhikllaaDoorZrow
import Derived.BigQuiet
import Derived.Deep.RegionHeld3
namespace Go.Proofs.YtenhncohhikllaaDoor
open Go.ChangeShapes Go.WideShapes Go.ChangeAt Go.RowKit

namespace Wg
/-- what was sealed: the round, and what stands behind it -/
def split (s : List UInt8) : Nat × List UInt8 × Nat := if (vget s 0).2.2 ≠ 0 then (0, [], (vget s 0).2.2) else ((vget s 0).1, s.drop (vget s 0).2.1, 0)
theorem head_eq (s : List UInt8) : head s = if s = [] then (0, [], 0) else if (Ck.open_ s 0).2.2 ≠ 0 then (0, [], (Ck.open_ s 0).2.2) else if (Ck.open_ s 0).2.1 < s.length then (0, [], 4) else
    if (split (Ck.open_ s 0).1).2.2 ≠ 0 then (0, [], (split (Ck.open_ s 0).1).2.2) else if 1099511627776 < (split (Ck.open_ s 0).1).1 then (0, [], 4) else split (Ck.open_ s 0).1 := by
  unfold head split
  by_cases h : (vget (Ck.open_ s 0).1 0).2.2 ≠ 0
  · simp only [if_pos h]
  · simp only [if_neg h]
    simp
end Wg
/-- three answers -/
def tupw (x : Nat × List UInt8 × Nat) : Value := .tuple #[.int .u64 x.1, str x.2.1, .int .i64 x.2.2]

set_option maxHeartbeats 400000 in
theorem wseal_any (r : Nat) (s : ByteArray) (w : World) (hr : r < 18446744073709551616) (hs : s.size ≤ 1000000) (hT : Tab w) :
    Calls Tryd.prog 45 #[.int .u64 r, .string s] w fun e w' => e = .returned (str (Ck.seal_ (Wg.row r s.data.toList))) ∧ Kept w w' := by
  go_enter Tryd.func45, Tryd.ntmps45
  go_wp2_with fail
  refine (put_any r _ (by omega) (by omega) hT).mono ?_
  rintro e w1 ⟨rfl, k1⟩
  rw [Int.toNat_natCast]
  obtain ⟨p, hp, sp, lp⟩ := name_str (Vn.vput r)
  rw [hp]
  have hz : Vn.vsz r ≤ 9 := by unfold Vn.vsz; (repeat' split) <;> omega
  rw [Vn.vput_length] at sp
  have Lp := Lib.hid lp
  have HT1 := Lib.hid (hT.kept k1)
  clear hp lp hT
  go_wp2_with fail
  refine (seal_any (p ++ s) _ (by rw [ByteArray.size_append]; omega) HT1.out).mono ?_
  rintro e w2 ⟨rfl, k2⟩
  have e2 : (p ++ s).data.toList = Wg.row r s.data.toList := by
    unfold Wg.row
    rw [← Lp.out]
    simp
  rw [e2]
  unfold str
  go_wp2
  go_ret
  exact ⟨rfl, k1.trans k2⟩

set_option maxHeartbeats 400000 in
theorem wsplit_any (s : ByteArray) (w : World) (hs : s.size ≤ maxLen) (hT : Tab w) :
    Calls Tryd.prog 57 #[.string s] w fun e w' => e = .returned (tupw (Wg.split s.data.toList)) ∧ Kept w w' := by
  have Hl := Lib.hid (size_len s)
  have hv := vget_le s.data.toList 0
  have HS : Hid (Wg.split s.data.toList = if (vget s.data.toList 0).2.2 ≠ 0 then (0, [], (vget s.data.toList 0).2.2) else ((vget s.data.toList 0).1, s.data.toList.drop (vget s.data.toList 0).2.1, 0)) := rfl
  go_enter Tryd.func57, Tryd.ntmps57
  go_wp2_with fail
  refine (get_any s 0 _ hs (by decide) (by decide) hT).mono ?_
  rintro e w1 ⟨rfl, k1⟩
  generalize vget s.data.toList 0 = x at hv HS ⊢
  obtain ⟨n, t, e0⟩ := x
  obtain ⟨h1, h2, h3⟩ := hv
  simp only at h1 h2 h3
  rw [Hl.out] at h2
  unfold tup
  simp only
  by_cases b1 : e0 = 0
  · subst b1
    unfold maxLen at hs
    go_wp2_with fail
    go_quiet (fail)
    go_wp2
    go_ret3
    refine ⟨?_, below_drewN k1 _⟩
    rw [HS.out]
    simp only [ne_eq, not_true_eq_false, if_false]
    unfold tupw str
    have : s.extract t s.size = ⟨(s.data.toList.drop t).toArray⟩ := by
      apply ByteArray.ext
      apply Array.toList_inj.1
      simp [ByteArray.data_extract, List.take_of_length_le]
    simp [this]
  · go_wp2
    go_ret3
    refine ⟨?_, k1⟩
    rw [HS.out]
    simp only [ne_eq, b1, not_false_eq_true, if_true]
    rfl
end Go.Proofs.YtenhncohhikllaaDoor
