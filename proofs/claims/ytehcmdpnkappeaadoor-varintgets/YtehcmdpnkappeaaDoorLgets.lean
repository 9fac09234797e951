/-
  The walk of the law VarintGets.
-/
import Derived.Test.YtehcmdpnkappeaaDoorVfixed
import Derived.Test.YtehcmdpnkappeaaDoorVref4
namespace Go.Proofs.YtehcmdpnkappeaaDoor
open Go.ChangeShapes Go.WideShapes Go.ChangeAt Go.RowKit

set_option maxHeartbeats 1000000 in
set_option maxRecDepth 100000 in
theorem gets_walk (s : ByteArray) (a : Int) (w : World) (hs : s.size ≤ maxLen) (a0 : -9223372036854775808 ≤ a) (a1 : a ≤ 9223372036854775807) (hT : Tab w) :
    Calls Tryd.prog 4 #[.string s, .int .i64 a] w fun e w' => e = .returned (.bool true) ∧ Kept w w' := by
  unfold maxLen at hs
  go_enter Tryd.func4, Tryd.ntmps4
  go_wp2_with fail
  have ss := cut_size s 300
  simp only [Int.cast_ofNat_Int] at ss
  generalize s.extract 0 (min (s.size : Int) 300).toNat = S at ss ⊢
  clear hs
  refine (get_any S a _ (by unfold maxLen; omega) a0 a1 hT).mono ?_
  rintro e w1 ⟨rfl, e1⟩
  have t1 := hT.kept e1
  obtain ⟨x, hx⟩ : ∃ x, vget S.data.toList a = x := ⟨_, rfl⟩
  rw [hx]
  have Hx := Lib.hid hx
  clear hx
  unfold tup
  go_wp2_with fail
  refine (refget_any S a _ (by omega) a0 a1).mono ?_
  rintro e w2 ⟨rfl, e2⟩
  have t2 := t1.kept e2
  rw [Hx.out]
  unfold tup
  go_wp2_with fail
  refine (cut_any S a _ (by omega) a0 a1 t2).mono ?_
  rintro e w3 ⟨rfl, e3⟩
  have t3 := t2.kept e3
  obtain ⟨y, hy⟩ : ∃ y, vcut S.data.toList a = y := ⟨_, rfl⟩
  rw [hy]
  have Hy := Lib.hid hy
  clear hy
  unfold tups
  obtain ⟨q, hq⟩ : ∃ q : ByteArray, str y.1 = .string q := ⟨_, rfl⟩
  rw [hq]
  have Hq := Lib.hid hq
  clear hq
  go_wp2_with fail
  refine (refcut_any S a _ (by omega) a0 a1).mono ?_
  rintro e w4 ⟨rfl, e4⟩
  have t4 := t3.kept e4
  rw [Hy.out]
  unfold tups
  rw [Hq.out]
  go_wp2_with fail
  refine (fixed_any _ t4).mono ?_
  rintro e w5 ⟨rfl, e5⟩
  go_wp2
  go_ret
  exact ⟨rfl, (((e1.trans e2).trans e3).trans e4).trans e5⟩
end Go.Proofs.YtehcmdpnkappeaaDoor
