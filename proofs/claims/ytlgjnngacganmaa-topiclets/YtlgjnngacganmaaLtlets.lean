/-
  The walk of the law TopicLets.
-/
import Derived.Test.YtlgjnngacganmaaTref7
namespace Go.Proofs.Ytlgjnngacganmaa
open Go.ChangeShapes Go.WideShapes Go.ChangeAt Go.RowKit

set_option maxHeartbeats 2000000 in
set_option maxRecDepth 100000 in
theorem tlets_walk (a b c : ByteArray) (w : World) (ha : a.size ≤ maxLen) (hb : b.size ≤ maxLen) (hc : c.size ≤ maxLen) :
    Calls Try.prog 4 #[.string a, .string b, .string c] w fun e w' => e = .returned (.bool true) ∧ Kept w w' := by
  unfold maxLen at ha hb hc
  go_enter Try.func4, Try.ntmps4
  go_upto_region 4 with fail
  have sa := cut_size a 200
  have sb := cut_size b 200
  have sc := cut_size c 200
  simp only [Int.cast_ofNat_Int] at sa sb sc
  generalize a.extract 0 (min (a.size : Int) 200).toNat = A at sa ⊢
  generalize b.extract 0 (min (b.size : Int) 200).toNat = B at sb ⊢
  generalize c.extract 0 (min (c.size : Int) 200).toNat = C at sc ⊢
  clear ha hb hc
  have K := Kept.refl w
  go_wp2_with fail
  refine (match_any A C _ (by omega) (by omega)).mono ?_
  rintro e w1 ⟨rfl, q1⟩
  have K1a := K.trans q1
  clear K q1
  generalize hx : Tp.match_ A.data.toList C.data.toList = x
  have Hx := Lib.hid hx
  clear hx
  have x2 : (x == x) = true := by cases x <;> rfl
  go_wp2_with fail
  refine (rmatch_any A C _ (by omega) (by omega)).mono ?_
  rintro e w51 ⟨rfl, q51⟩
  have K1b := K1a.trans q51
  clear K1a q51
  rw [Hx.out]
  go_wp2_with fail
  refine (covers_any A B _ (by omega) (by omega)).mono ?_
  rintro e w2 ⟨rfl, q2⟩
  have K2a := K1b.trans q2
  clear K1b q2
  generalize hy : Tp.covers A.data.toList B.data.toList = y
  have Hy := Lib.hid hy
  clear hy
  have y2 : (y == y) = true := by cases y <;> rfl
  go_wp2_with fail
  refine (rcovers_any A B _ (by omega) (by omega)).mono ?_
  rintro e w52 ⟨rfl, q52⟩
  have K2b := K2a.trans q52
  clear K2a q52
  rw [Hy.out]
  go_wp2_with fail
  refine (meet_any A B _ (by omega) (by omega)).mono ?_
  rintro e w3 ⟨rfl, q3⟩
  have K3a := K2b.trans q3
  clear K2b q3
  generalize hz : Tp.meet A.data.toList B.data.toList = z
  have Hz := Lib.hid hz
  clear hz
  have z2 : (z == z) = true := by cases z <;> rfl
  go_wp2_with fail
  refine (rmeet_any A B _ (by omega) (by omega)).mono ?_
  rintro e w53 ⟨rfl, q53⟩
  have K3b := K3a.trans q53
  clear K3a q53
  rw [Hz.out]
  go_wp2_with fail
  refine (fix_from K3b).mono ?_
  rintro e w9 ⟨rfl, Kf⟩
  go_wp2_with fail
  go_ret
  exact ⟨rfl, Kf⟩
end Go.Proofs.Ytlgjnngacganmaa
