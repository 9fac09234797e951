/-
  The walk of the law CheckJoins.
-/
import Derived.Test.YthkfkcjhmhjocaaDoorKfixed
namespace Go.Proofs.YthkfkcjhmhjocaaDoor
open Go.ChangeShapes Go.WideShapes Go.ChangeAt Go.RowKit

set_option maxHeartbeats 1000000 in
theorem cjoins_walk (s t : ByteArray) (w : World) (hs : s.size ≤ maxLen) (ht : t.size ≤ maxLen) (hT : Tab w) :
    Calls Tryd.prog 6 #[.string s, .string t] w fun e w' => e = .returned (.bool true) ∧ Kept w w' := by
  unfold maxLen at hs ht
  go_enter Tryd.func6, Tryd.ntmps6
  go_wp2_with fail
  have ss := cut_size s 300
  have st := cut_size t 300
  simp only [Int.cast_ofNat_Int] at ss st
  generalize s.extract 0 (min (s.size : Int) 300).toNat = S at ss ⊢
  generalize t.extract 0 (min (t.size : Int) 300).toNat = T at st ⊢
  clear hs ht
  refine (sum_any S _ (by unfold maxLen; omega)).mono ?_
  rintro e w1 ⟨rfl, k1⟩
  go_wp2_with fail
  refine (add_any (Ck.sum S.data.toList) T _ (Ck.add_lt _ _) (by unfold maxLen; omega)).mono ?_
  rintro e w2 ⟨rfl, k2⟩
  rw [show Ck.add (Ck.sum S.data.toList) T.data.toList = Ck.sum (S ++ T).data.toList from by rw [Ck.sum, Ck.add_add, ByteArray.data_append, Array.toList_append]; rfl]
  go_wp2_with fail
  refine (sum_any _ _ (by rw [ByteArray.size_append]; unfold maxLen; omega)).mono ?_
  rintro e w3 ⟨rfl, k3⟩
  go_wp2_with fail
  refine (sum_any S _ (by unfold maxLen; omega)).mono ?_
  rintro e w4 ⟨rfl, k4⟩
  go_wp2_with fail
  refine (add_to (Ck.sum S.data.toList) [] (Ck.sum S.data.toList) _ (Ck.add_lt _ _) (by decide) (Ck.add_nil _ (Ck.add_lt _ _))).mono ?_
  rintro e w5 ⟨rfl, k5⟩
  go_wp2_with fail
  refine (sum_any S _ (by unfold maxLen; omega)).mono ?_
  rintro e w6 ⟨rfl, k6⟩
  go_wp2_with fail
  refine (fixed2_any _ ((((((hT.kept k1).kept k2).kept k3).kept k4).kept k5).kept k6)).mono ?_
  rintro e w7 ⟨rfl, k7⟩
  go_wp2
  go_ret
  exact ⟨rfl, (((((k1.trans k2).trans k3).trans k4).trans k5).trans k6).trans k7⟩
end Go.Proofs.YthkfkcjhmhjocaaDoor
