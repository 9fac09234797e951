/-
  The walk of the law CheckOpens.
-/
import Derived.Test.YthkfkcjhmhjocaaDoorKfixed
import Derived.Test.YthkfkcjhmhjocaaDoorKref2
namespace Go.Proofs.YthkfkcjhmhjocaaDoor
open Go.ChangeShapes Go.WideShapes Go.ChangeAt Go.RowKit

set_option maxHeartbeats 1000000 in
set_option maxRecDepth 100000 in
theorem copens_walk (s : ByteArray) (a : Int) (w : World) (hs : s.size ≤ maxLen) (a0 : -9223372036854775808 ≤ a) (a1 : a ≤ 9223372036854775807) (hT : Tab w) :
    Calls Tryd.prog 4 #[.string s, .int .i64 a] w fun e w' => e = .returned (.bool true) ∧ Kept w w' := by
  unfold maxLen at hs
  go_enter Tryd.func4, Tryd.ntmps4
  go_wp2_with fail
  have ss := cut_size s 500
  simp only [Int.cast_ofNat_Int] at ss
  generalize s.extract 0 (min (s.size : Int) 500).toNat = S at ss ⊢
  clear hs
  refine (open_any S a _ (by omega) a0 a1 hT).mono ?_
  rintro e w1 ⟨rfl, k1⟩
  have t1 := hT.kept k1
  obtain ⟨x, hx⟩ : ∃ x, Ck.open_ S.data.toList a = x := ⟨_, rfl⟩
  rw [hx]
  have Hx := Lib.hid hx
  clear hx
  unfold tups
  obtain ⟨q, hq⟩ : ∃ q : ByteArray, str x.1 = .string q := ⟨_, rfl⟩
  rw [hq]
  have Hq := Lib.hid hq
  clear hq
  go_wp2_with fail
  refine (refopen_any S a _ (by omega) a0 a1).mono ?_
  rintro e w2 ⟨rfl, k2⟩
  have t2 := t1.kept k2
  rw [Hx.out]
  unfold tups
  rw [Hq.out]
  go_wp2_with fail
  refine (all_any S _ (by omega) t2).mono ?_
  rintro e w3 ⟨v3, rfl, o3, k3⟩
  have t3 := t2.kept k3
  go_wp2_with fail
  refine (refall_any S _ (by omega)).mono ?_
  rintro e w4 ⟨v4, rfl, o4, k4⟩
  have t4 := t3.kept k4
  go_wp2_with fail
  refine (same_any _ _ _ _ _ (o3.kept k4).strs o4.strs).mono ?_
  rintro e w5 ⟨rfl, k5⟩
  rw [show ((Ck.all_ S.data.toList).1 == (Ck.all_ S.data.toList).1) = true from by simp]
  go_wp2_with fail
  refine (fixed2_any _ (t4.kept k5)).mono ?_
  rintro e w6 ⟨rfl, k6⟩
  go_wp2
  go_ret
  exact ⟨rfl, ((((k1.trans k2).trans k3).trans k4).trans k5).trans k6⟩
end Go.Proofs.YthkfkcjhmhjocaaDoor
