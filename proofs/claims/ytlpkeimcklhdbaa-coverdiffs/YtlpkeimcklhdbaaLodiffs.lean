/-
  The walk of the law CoverDiffs.
-/
import Derived.Test.YtlpkeimcklhdbaaOlaw
import Derived.Test.YtlpkeimcklhdbaaOref2
namespace Go.Proofs.Ytlpkeimcklhdbaa
open Go.ChangeShapes Go.WideShapes Go.ChangeAt Go.RowKit

theorem wout_len (l m : List (List UInt8)) : (Tp.wout l m).length ≤ l.length := List.length_filter_le _ _

set_option maxHeartbeats 2000000 in
set_option maxRecDepth 100000 in
theorem odiffs_walk (av : Option Addr) (len cap : Nat) (z : Nat → ByteArray) (av2 : Option Addr) (len2 cap2 : Nat) (z2 : Nat → ByteArray) (w : World) (hl : StrArg w av len cap z) (hl2 : StrArg w av2 len2 cap2 z2) :
    Calls Try.prog 7 #[.slice av len cap, .slice av2 len2 cap2] w fun e w' => e = .returned (.bool true) ∧ Kept w w' := by
  have A1 := Lib.hid hl
  have A2 := Lib.hid hl2
  clear hl hl2
  go_enter Try.func7, Try.ntmps7
  go_wp2_with fail
  refine (few_any _ _ _ z _ A1.out).mono ?_
  rintro e w1 ⟨l, xs, rfl, fl, k1⟩
  have FL := Lib.hid fl
  clear fl
  go_wp2_with fail
  refine (few_any _ _ _ z2 _ (A2.out.kept k1)).mono ?_
  rintro e w2 ⟨m, ys, rfl, fm, k2⟩
  have FM := Lib.hid fm
  have FL2 := Lib.hid (FL.out.kept k2)
  have K2 := k1.trans k2
  clear fm FL
  have hcx := Tp.clean_len xs
  have hcy := Tp.clean_len ys
  have lx := FL2.out.len
  have ly := FM.out.len
  have wx := wout_len (Tp.clean xs) (Tp.clean ys)
  have wy := wout_len (Tp.clean ys) (Tp.clean xs)
  have wz := wout_len (Tp.clean xs) (Tp.wout (Tp.clean xs) (Tp.clean ys))
  have HD := Lib.hid (Tp.diffs xs ys)
  have Hsh : Hid (∀ x ∈ Tp.wout (Tp.clean xs) (Tp.wout (Tp.clean xs) (Tp.clean ys)) ++ Tp.wout (Tp.clean ys) (Tp.clean xs), x.length ≤ 1000) := fun x hx => by
    rcases List.mem_append.1 hx with h | h
    · exact FL2.out.s10 x ((Tp.clean_mem xs x).1 ((Tp.wout_mem _ _ x).1 h).1).1
    · exact FM.out.s10 x ((Tp.clean_mem ys x).1 ((Tp.wout_mem _ _ x).1 h).1).1
  go_wp2_with fail
  refine (Diff_any l m xs ys w2 FL2.out.strs FM.out.strs FL2.out.l10 FM.out.l10 FL2.out.s10 FM.out.s10).mono ?_
  rintro e w3 ⟨c, g, rfl, oc, og, k3⟩
  have OC := Lib.hid oc
  have OG := Lib.hid og
  clear oc og
  go_wp2_with fail
  refine (rclean_any l xs w3 (FL2.out.kept k3).strs FL2.out.l10 FL2.out.s10).mono ?_
  rintro e w4 ⟨u4, rfl, o4, k4⟩
  have O4 := Lib.hid o4
  clear o4
  go_wp2_with fail
  refine (rwithout_any u4 g _ _ w4 O4.out.1.strs (OG.out.kept k4).strs (by omega)).mono ?_
  rintro e w5 ⟨u5, rfl, o5, k5⟩
  have O5 := Lib.hid o5
  have k35 := k4.trans k5
  clear o5 O4
  go_wp2_with (first | (at_builtin; refine wp_own O5.out.1 (OC.out.kept k35) (by omega) k5.size rfl _ _ rfl rfl rfl ?_))
  intro u6 w6 o6 b6 _
  have k46 : Kept w4 w6 := Below.trans k5 b6
  have k26 := (k3.trans k4).trans k46
  have O6 := Lib.hid o6
  clear o6 b6 O5
  have hlen6 : (Tp.wout (Tp.clean xs) (Tp.wout (Tp.clean xs) (Tp.clean ys)) ++ Tp.wout (Tp.clean ys) (Tp.clean xs)).length ≤ 1000 := by rw [List.length_append]; omega
  have HL6 := Lib.hid hlen6
  clear hlen6
  go_wp2_with fail
  refine (Diff_to u6 m _ ys [] [] w6 O6.out.strs (FM.out.kept k26).strs HL6.out FM.out.l10 Hsh.out FM.out.s10 (by rw [HD.out]; exact Tp.wout_none fun _ h => h) (by rw [HD.out]; exact Tp.wout_none fun _ h => h)).mono ?_
  rintro e w7 ⟨x, y, rfl, ox, oy, k7⟩
  obtain ⟨ax, cx, rfl, _, _, _⟩ := strs_get ox.strs
  obtain ⟨ay, cy, rfl, _, _, _⟩ := strs_get oy.strs
  have k27 := k26.trans k7
  clear ox oy O6
  go_wp2_with fail
  refine (Diff_any m l ys xs w7 (FM.out.kept k27).strs (FL2.out.kept k27).strs FM.out.l10 FL2.out.l10 FM.out.s10 FL2.out.s10).mono ?_
  rintro e w8 ⟨a, b, rfl, oa, ob, k8⟩
  have k38 := ((k4.trans k46).trans k7).trans k8
  have OA := Lib.hid oa
  have OB := Lib.hid ob
  clear oa ob
  go_wp2_with fail
  refine (same_true a g _ w8 OA.out.strs (OG.out.kept k38).strs).mono ?_
  rintro e w9 ⟨rfl, k9⟩
  go_wp2_with fail
  refine (same_true b c _ w9 (OB.out.kept k9).strs (OC.out.kept (k38.trans k9)).strs).mono ?_
  rintro e w10 ⟨rfl, k10⟩
  go_wp2_with fail
  refine (fixed5_any w10).mono ?_
  rintro e w11 ⟨rfl, k11⟩
  go_wp2
  go_ret
  exact ⟨rfl, K2.trans ((((k27.trans k8).trans k9).trans k10).trans k11)⟩
end Go.Proofs.Ytlpkeimcklhdbaa
