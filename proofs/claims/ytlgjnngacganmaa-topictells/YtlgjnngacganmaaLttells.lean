/-
  The walk of the law TopicTells.
-/
import Derived.Test.YtlgjnngacganmaaTref3
namespace Go.Proofs.Ytlgjnngacganmaa
open Go.ChangeShapes Go.WideShapes Go.ChangeAt Go.RowKit

set_option maxHeartbeats 2000000 in
set_option maxRecDepth 100000 in
theorem ttells_walk (a b : ByteArray) (w : World) (ha : a.size ≤ maxLen) (hb : b.size ≤ maxLen) :
    Calls Try.prog 3 #[.string a, .string b] w fun e w' => e = .returned (.bool true) ∧ Kept w w' := by
  unfold maxLen at ha hb
  go_enter Try.func3, Try.ntmps3
  go_upto_region 3 with fail
  have sa := cut_size a 200
  have sb := cut_size b 200
  simp only [Int.cast_ofNat_Int] at sa sb
  generalize a.extract 0 (min (a.size : Int) 200).toNat = S at sa ⊢
  generalize b.extract 0 (min (b.size : Int) 200).toNat = T at sb ⊢
  clear ha hb
  have K := Kept.refl w
  go_wp2_with fail
  refine (right_any S _ (by omega)).mono ?_
  rintro e w1 ⟨rfl, q1⟩
  have K1a := K.trans q1
  clear K q1
  generalize hx : Tp.right S.data.toList = x
  have Hx := Lib.hid hx
  clear hx
  have x2 : (x == x) = true := by cases x <;> rfl
  go_wp2_with fail
  refine (rright_any S _ (by omega)).mono ?_
  rintro e w51 ⟨rfl, q51⟩
  have K1b := K1a.trans q51
  clear K1a q51
  rw [Hx.out]
  go_wp2_with fail
  refine (filter_any S _ (by omega)).mono ?_
  rintro e w2 ⟨rfl, q2⟩
  have K2a := K1b.trans q2
  clear K1b q2
  generalize hy : Tp.filter S.data.toList = y
  have Hy := Lib.hid hy
  clear hy
  have y2 : (y == y) = true := by cases y <;> rfl
  go_wp2_with fail
  refine (rfilter_any S _ (by omega)).mono ?_
  rintro e w52 ⟨rfl, q52⟩
  have K2b := K2a.trans q52
  clear K2a q52
  rw [Hy.out]
  go_wp2_with fail
  refine (levelsof_any S _ (by omega)).mono ?_
  rintro e w5 ⟨v5, rfl, o5, q5⟩
  go_wp2_with fail
  refine (rlevels_any S _ (by omega)).mono ?_
  rintro e w6 ⟨v6, rfl, o6, q6⟩
  have o5' := (o5.kept q6).strs
  go_wp2_with fail
  refine (same_any _ _ _ _ _ o5' o6.strs).mono ?_
  rintro e w7 ⟨rfl, q7⟩
  have K7 := ((K2b.trans q5).trans q6).trans q7
  rw [show (Tp.lev S.data.toList == Tp.lev S.data.toList) = true by simp]
  clear o5 o6 o5' q5 q6 q7 K2b
  go_wp2_with fail
  refine (less_any S T _ (by omega) (by omega)).mono ?_
  rintro e w3 ⟨rfl, q3⟩
  have K3a := K7.trans q3
  clear K7 q3
  generalize hz : Tp.less S.data.toList T.data.toList = z
  have Hz := Lib.hid hz
  clear hz
  have z2 : (z == z) = true := by cases z <;> rfl
  go_wp2_with fail
  refine (rless_any S T _ (by omega) (by omega)).mono ?_
  rintro e w53 ⟨rfl, q53⟩
  have K3b := K3a.trans q53
  clear K3a q53
  rw [Hz.out]
  go_wp2_with fail
  refine (fix_from K3b).mono ?_
  rintro e w9 ⟨rfl, Kf⟩
  go_wp2_with fail
  go_ret
  exact ⟨rfl, Kf⟩
end Go.Proofs.Ytlgjnngacganmaa
