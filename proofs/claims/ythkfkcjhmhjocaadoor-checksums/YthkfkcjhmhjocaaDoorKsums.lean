/-
  The walk of the law CheckSums.
-/
import Derived.Test.YthkfkcjhmhjocaaDoorKfixed
import Derived.Test.YthkfkcjhmhjocaaDoorKref2
namespace Go.Proofs.YthkfkcjhmhjocaaDoor
open Go.ChangeShapes Go.WideShapes Go.ChangeAt Go.RowKit

set_option maxHeartbeats 1000000 in
theorem csums_walk (s : ByteArray) (n : Int) (w : World) (hs : s.size ≤ maxLen) (n0 : 0 ≤ n) (n1 : n ≤ 4294967295) (hT : Tab w) :
    Calls Tryd.prog 3 #[.string s, .int .u32 n] w fun e w' => e = .returned (.bool true) ∧ Kept w w' := by
  unfold maxLen at hs
  obtain ⟨N, rfl⟩ := Int.eq_ofNat_of_zero_le n0
  go_enter Tryd.func3, Tryd.ntmps3
  go_wp2_with fail
  have ss := cut_size s 500
  simp only [Int.cast_ofNat_Int] at ss
  generalize s.extract 0 (min (s.size : Int) 500).toNat = S at ss ⊢
  clear hs
  have sm : S.size ≤ maxLen := by unfold maxLen; omega
  refine (sum_any S _ sm).mono ?_
  rintro e w1 ⟨rfl, k1⟩
  go_wp2_with fail
  refine (refsum_any S _ sm).mono ?_
  rintro e w2 ⟨rfl, rfl⟩
  go_wp2_with fail
  refine (add_any N S _ (by omega) sm).mono ?_
  rintro e w3 ⟨rfl, k3⟩
  go_wp2_with fail
  refine (refadd_any N S _ (by omega) sm).mono ?_
  rintro e w4 ⟨rfl, rfl⟩
  have t3 := (hT.kept k1).kept k3
  go_wp2_with fail
  refine (seal_any S _ (by omega) t3).mono ?_
  rintro e w5 ⟨rfl, k5⟩
  obtain ⟨q, hq⟩ : ∃ q : ByteArray, str (Ck.seal_ S.data.toList) = .string q := ⟨_, rfl⟩
  have Hq := Lib.hid hq
  rw [hq]
  clear hq
  go_wp2_with fail
  refine (refseal_any S _ (by omega)).mono ?_
  rintro e w6 ⟨rfl, k6⟩
  rw [Hq.out]
  go_wp2_with fail
  refine (fixed2_any _ ((t3.kept k5).kept k6)).mono ?_
  rintro e w7 ⟨rfl, k7⟩
  go_wp2
  go_ret
  exact ⟨rfl, (((k1.trans k3).trans k5).trans k6).trans k7⟩
end Go.Proofs.YthkfkcjhmhjocaaDoor
