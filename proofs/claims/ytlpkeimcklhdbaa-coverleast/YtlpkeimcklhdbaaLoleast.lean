/-
  The walk of the law CoverLeast.
-/
import Derived.Test.YtlpkeimcklhdbaaOlaw
import Derived.Test.YtlpkeimcklhdbaaOref2
namespace Go.Proofs.Ytlpkeimcklhdbaa
open Go.ChangeShapes Go.WideShapes Go.ChangeAt Go.RowKit

set_option maxHeartbeats 2000000 in
set_option maxRecDepth 100000 in
theorem oleast_walk (av : Option Addr) (len cap : Nat) (z : Nat → ByteArray) (av2 : Option Addr) (len2 cap2 : Nat) (z2 : Nat → ByteArray) (w : World) (hl : StrArg w av len cap z) (hl2 : StrArg w av2 len2 cap2 z2) :
    Calls Try.prog 3 #[.slice av len cap, .slice av2 len2 cap2] w fun e w' => e = .returned (.bool true) ∧ Kept w w' := by
  have A1 := Lib.hid hl
  have A2 := Lib.hid hl2
  clear hl hl2
  go_enter Try.func3, Try.ntmps3
  go_wp2_with fail
  refine (few_any _ _ _ z _ A1.out).mono ?_
  rintro e w1 ⟨l, xs, rfl, fl, k1⟩
  have FL := Lib.hid fl
  clear fl
  go_wp2_with fail
  refine (few_any _ _ _ z2 _ (A2.out.kept k1)).mono ?_
  rintro e w2 ⟨m, ys, rfl, fm, k2⟩
  have FM := Lib.hid fm
  have FL2 := Lib.hid (FL.out.kept k2)
  have K2 := k1.trans k2
  clear fm FL
  go_wp2_with (first | (at_builtin; refine wp_own (OwnN.empty w2).1 (FL2.out.own.kept (Kept.alloc (Kept.refl w2) _)).1 (by have := FL2.out.len; simp; omega) (by simp) rfl _ _ rfl rfl rfl ?_))
  intro u3 w3 o3 b3 _
  have k3 : Kept w2 w3 := Below.trans (Kept.alloc (Kept.refl w2) _) b3
  have O3 : Hid (OwnS w3 w2.heap.size u3 xs) := by show OwnS w3 w2.heap.size u3 xs; simpa using o3
  clear o3 b3
  go_wp2_with fail
  refine (Least_any l xs w3 (FL2.out.kept k3).strs FL2.out.l10 FL2.out.s10).mono ?_
  rintro e w4 ⟨u4, rfl, o4, k4⟩
  have k24 := k3.trans k4
  have O4 := Lib.hid o4
  clear o4
  go_wp2_with fail
  refine (rleast_any l xs w4 (FL2.out.kept k24).strs FL2.out.l10 FL2.out.s9).mono ?_
  rintro e w5 ⟨u5, rfl, o5, k5⟩
  have k25 := k24.trans k5
  have O5 := Lib.hid o5.1
  clear o5
  go_wp2_with fail
  refine (same_true u4 u5 _ w5 (O4.out.kept k5).strs O5.out.strs).mono ?_
  rintro e w6 ⟨rfl, k6⟩
  have k26 := k25.trans k6
  clear O4 O5
  go_wp2_with fail
  refine (Join_any l m xs ys _ _ w6 (FL2.out.kept k26).own.1 (FM.out.kept k26).own.1 FL2.out.l4 FM.out.l4 FL2.out.s10 FM.out.s10).mono ?_
  rintro e w7 ⟨u7, rfl, o7, k7⟩
  have k27 := k26.trans k7
  have O7 := Lib.hid o7
  clear o7
  go_wp2_with fail
  refine (rjoin_any l m xs ys _ _ w7 (FL2.out.kept k27).own.1 (FM.out.kept k27).own.1 FL2.out.l4 FM.out.l4 FL2.out.s9 FM.out.s9).mono ?_
  rintro e w8 ⟨u8, rfl, o8, k8⟩
  have k28 := k27.trans k8
  have O8 := Lib.hid o8.1
  clear o8
  go_wp2_with fail
  refine (same_true u7 u8 _ w8 (O7.out.kept k8).strs O8.out.strs).mono ?_
  rintro e w9 ⟨rfl, k9⟩
  have k29 := k28.trans k9
  have k39 := ((((k4.trans k5).trans k6).trans k7).trans k8).trans k9
  clear O7 O8
  go_wp2_with fail
  refine (same_true l u3 xs w9 (FL2.out.kept k29).strs (O3.out.kept k39).strs).mono ?_
  rintro e w10 ⟨rfl, k10⟩
  go_wp2_with fail
  refine (fixed5_any w10).mono ?_
  rintro e w11 ⟨rfl, k11⟩
  go_wp2
  go_ret
  exact ⟨rfl, K2.trans ((k29.trans k10).trans k11)⟩
end Go.Proofs.Ytlpkeimcklhdbaa
