/-
  The walk of the law VarintPuts.
-/
import Derived.Test.YtehcmdpnkappeaaDoorVfixed
import Derived.Test.YtehcmdpnkappeaaDoorVref2
import Derived.Test.YtehcmdpnkappeaaDoorLorder
namespace Go.Proofs.YtehcmdpnkappeaaDoor
open Go.ChangeShapes Go.WideShapes Go.ChangeAt Go.RowKit

set_option maxHeartbeats 1000000 in
set_option maxRecDepth 100000 in
theorem puts_walk (n : Int) (s t : ByteArray) (w : World) (a0 : 0 ≤ n) (a1 : n ≤ 18446744073709551615) (hs : s.size ≤ maxLen) (ht : t.size ≤ maxLen) (hT : Tab w) :
    Calls Tryd.prog 3 #[.int .u64 n, .string s, .string t] w fun e w' => e = .returned (.bool true) ∧ Kept w w' := by
  unfold maxLen at hs ht
  obtain ⟨N, rfl⟩ := Int.eq_ofNat_of_zero_le a0
  obtain ⟨p, hp, sp, _⟩ := name_put N
  have Hp := Lib.hid hp
  have Sp := Lib.hid sp
  clear hp sp
  go_enter Tryd.func3, Tryd.ntmps3
  go_wp2_with fail
  have ss := cut_size s 300
  have st := cut_size t 300
  simp only [Int.cast_ofNat_Int] at ss st
  generalize s.extract 0 (min (s.size : Int) 300).toNat = S at ss ⊢
  generalize t.extract 0 (min (t.size : Int) 300).toNat = T at st ⊢
  clear hs ht
  refine (put_any _ _ (by omega) (by omega) hT).mono ?_
  rintro e w1 ⟨rfl, e1⟩
  rw [Int.toNat_natCast, Hp.out]
  have t1 := hT.kept e1
  go_wp2_with fail
  refine (refput_any _ _ (by omega) (by omega)).mono ?_
  rintro e w2 ⟨rfl, e2⟩
  rw [Int.toNat_natCast, Hp.out]
  have t2 := t1.kept e2
  go_wp2_with fail
  refine (size_any _ _ (by omega) (by omega) t2).mono ?_
  rintro e w' ⟨rfl, rfl⟩
  rw [Int.toNat_natCast, ← Sp.out]
  go_wp2_with fail
  refine (refput_any _ _ (by omega) (by omega)).mono ?_
  rintro e w3 ⟨rfl, e3⟩
  rw [Int.toNat_natCast, Hp.out]
  have t3 := t2.kept e3
  go_wp2_with fail
  refine (text_any S _ (by omega) t3).mono ?_
  rintro e w4 ⟨rfl, e4⟩
  have t4 := t3.kept e4
  obtain ⟨q, hq⟩ : ∃ q : ByteArray, str (Vn.vput S.size ++ S.data.toList) = .string q := ⟨_, rfl⟩
  rw [hq]
  have Hq := Lib.hid hq
  clear hq
  go_wp2_with fail
  refine (reftext_any S _ (by omega)).mono ?_
  rintro e w5 ⟨rfl, e5⟩
  rw [Hq.out]
  have t5 := t4.kept e5
  go_wp2_with fail
  refine (less_any S T _).mono ?_
  rintro e w' ⟨rfl, rfl⟩
  generalize hx : Op.bytesLess S.toList T.toList = x
  have Hx := Lib.hid hx
  clear hx
  go_wp2_with fail
  refine (refless_any S T _ (by omega) (by omega)).mono ?_
  rintro e w6 ⟨rfl, e6⟩
  rw [Hx.out]
  have t6 := t5.kept e6
  cases x
  all_goals
    go_wp2_with fail
    refine (fixed_any _ t6).mono ?_
    rintro e w7 ⟨rfl, e7⟩
    go_wp2
    go_ret
    exact ⟨rfl, (((((e1.trans e2).trans e3).trans e4).trans e5).trans e6).trans e7⟩
end Go.Proofs.YtehcmdpnkappeaaDoor
