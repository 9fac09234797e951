/-
  The walk of the law CoverTells.
-/
import Derived.Test.YtlpkeimcklhdbaaOlaw
import Derived.Test.YtlpkeimcklhdbaaOref2
namespace Go.Proofs.Ytlpkeimcklhdbaa
open Go.ChangeShapes Go.WideShapes Go.ChangeAt Go.RowKit

set_option maxHeartbeats 2000000 in
set_option maxRecDepth 100000 in
theorem otells_walk (av : Option Addr) (len cap : Nat) (z : Nat → ByteArray) (av2 : Option Addr) (len2 cap2 : Nat) (z2 : Nat → ByteArray) (s : ByteArray) (w : World) (hl : StrArg w av len cap z) (hl2 : StrArg w av2 len2 cap2 z2) (hs : s.size ≤ maxLen) :
    Calls Try.prog 4 #[.slice av len cap, .slice av2 len2 cap2, .string s] w fun e w' => e = .returned (.bool true) ∧ Kept w w' := by
  have A1 := Lib.hid hl
  have A2 := Lib.hid hl2
  unfold maxLen at hs
  clear hl hl2
  go_enter Try.func4, Try.ntmps4
  go_wp2_with fail
  refine (few_any _ _ _ z _ A1.out).mono ?_
  rintro e w1 ⟨l, xs, rfl, fl, k1⟩
  have FL := Lib.hid fl
  clear fl
  go_wp2_with fail
  refine (few_any _ _ _ z2 _ (A2.out.kept k1)).mono ?_
  rintro e w2 ⟨m, ys, rfl, fm, k2⟩
  have FM := Lib.hid fm
  have FL2 := Lib.hid (FL.out.kept k2)
  have K2 := k1.trans k2
  clear fm FL
  go_wp2_with fail
  obtain ⟨S, hS, sS⟩ := cut_text s
  rw [hS]
  clear hS hs
  refine (Diff_any l m xs ys w2 FL2.out.strs FM.out.strs FL2.out.l10 FM.out.l10 FL2.out.s10 FM.out.s10).mono ?_
  rintro e w3 ⟨a, b, rfl, oa, ob, k3⟩
  have OA := Lib.hid oa
  have OB := Lib.hid ob
  clear oa ob
  go_wp2_with fail
  refine (rdiff_any l m xs ys w3 (FL2.out.kept k3).strs (FM.out.kept k3).strs FL2.out.l10 FM.out.l10 FL2.out.s10 FM.out.s10).mono ?_
  rintro e w4 ⟨x, y, rfl, ox, oy, k4⟩
  have OX := Lib.hid ox
  have OY := Lib.hid oy
  have k24 := k3.trans k4
  clear ox oy
  go_wp2_with fail
  refine (Lets_any l xs S w4 (FL2.out.kept k24).strs FL2.out.l10 FL2.out.s10 (by omega)).mono ?_
  rintro e w5 ⟨rfl, k5⟩
  have k25 := k24.trans k5
  go_wp2_with fail
  refine (rlets_any l xs S w5 (FL2.out.kept k25).strs FL2.out.s9 (by omega)).mono ?_
  rintro e w6 ⟨rfl, k6⟩
  have k26 := k25.trans k6
  have e1 : (Tp.lets xs S.data.toList == Tp.lets xs S.data.toList) = true := by simp
  generalize Tp.lets xs S.data.toList = b1 at e1 ⊢
  go_wp2_with fail
  refine (Holds_any l xs S w6 (FL2.out.kept k26).strs FL2.out.l10 FL2.out.s10 (by omega)).mono ?_
  rintro e w7 ⟨rfl, k7⟩
  have k27 := k26.trans k7
  go_wp2_with fail
  refine (rholds_any l xs S w7 (FL2.out.kept k27).strs FL2.out.s9 (by omega)).mono ?_
  rintro e w8 ⟨rfl, k8⟩
  have k28 := k27.trans k8
  have e2 : (Tp.holds xs S.data.toList == Tp.holds xs S.data.toList) = true := by simp
  generalize Tp.holds xs S.data.toList = b2 at e2 ⊢
  have k48 := ((k5.trans k6).trans k7).trans k8
  go_wp2_with fail
  refine (same_true a x _ w8 (OA.out.kept (k4.trans k48)).strs (OX.out.kept k48).strs).mono ?_
  rintro e w9 ⟨rfl, k9⟩
  have k49 := k48.trans k9
  go_wp2_with fail
  refine (same_true b y _ w9 (OB.out.kept (k4.trans k49)).strs (OY.out.kept k49).strs).mono ?_
  rintro e w10 ⟨rfl, k10⟩
  go_wp2_with fail
  refine (fixed5_any w10).mono ?_
  rintro e w11 ⟨rfl, k11⟩
  go_wp2
  go_ret
  exact ⟨rfl, K2.trans (((k28.trans k9).trans k10).trans k11)⟩
end Go.Proofs.Ytlpkeimcklhdbaa
