/-
  The walk of the law CoverLets.
-/
import Derived.Test.YtlpkeimcklhdbaaOlaw
import Derived.Test.YtlpkeimcklhdbaaTref5
namespace Go.Proofs.Ytlpkeimcklhdbaa
open Go.ChangeShapes Go.WideShapes Go.ChangeAt Go.RowKit

set_option maxHeartbeats 2000000 in
set_option maxRecDepth 100000 in
theorem olets_walk (av : Option Addr) (len cap : Nat) (z : Nat → ByteArray) (f t : ByteArray) (w : World) (hl : StrArg w av len cap z) (hf : f.size ≤ maxLen) (ht : t.size ≤ maxLen) :
    Calls Try.prog 9 #[.slice av len cap, .string f, .string t] w fun e w' => e = .returned (.bool true) ∧ Kept w w' := by
  have A1 := Lib.hid hl
  unfold maxLen at hf ht
  clear hl
  go_enter Try.func9, Try.ntmps9
  go_wp2_with fail
  refine (few_any _ _ _ z _ A1.out).mono ?_
  rintro e w1 ⟨l, xs, rfl, fl, k1⟩
  have FL := Lib.hid fl
  clear fl
  go_wp2_with fail
  obtain ⟨F, hF, sF⟩ := cut_text f
  obtain ⟨T, hT, sT⟩ := cut_text t
  rw [hF, hT]
  clear hF hT hf ht
  refine (Holds_any l xs F w1 FL.out.strs FL.out.l10 FL.out.s10 (by omega)).mono ?_
  rintro e w2 ⟨rfl, k2⟩
  have H1 := Lib.hid (fun (h : Tp.holds xs F.data.toList = true) (hm : Tp.match_ F.data.toList T.data.toList = true) => Tp.holds_lets h hm)
  have H2 := Lib.hid (fun (h : Tp.right T.data.toList = true) => Tp.lets_holds (l := xs) h)
  cases hh : Tp.holds xs F.data.toList with
  | false =>
    clear hh H1
    go_wp2_with fail
    refine (rright_any T w2 (by omega)).mono ?_
    rintro e w5 ⟨rfl, k5⟩
    have K5 := k2.trans k5
    cases hr : Tp.right T.data.toList with
    | false =>
      clear hr
      go_wp2_with fail
      refine (fixed5_any w5).mono ?_
      rintro e w6 ⟨rfl, k6⟩
      go_wp2
      go_ret
      exact ⟨rfl, (k1.trans K5).trans k6⟩
    | true =>
      have e1 := H2.out hr
      clear hr
      go_wp2_with fail
      refine (Lets_any l xs T w5 (FL.out.kept K5).strs FL.out.l10 FL.out.s10 (by omega)).mono ?_
      rintro e w6 ⟨rfl, k6⟩
      have K6 := K5.trans k6
      go_wp2_with fail
      refine (Holds_any l xs T w6 (FL.out.kept K6).strs FL.out.l10 FL.out.s10 (by omega)).mono ?_
      rintro e w7 ⟨rfl, k7⟩
      have K7 := K6.trans k7
      have e2 : (Tp.holds xs T.data.toList == Tp.holds xs T.data.toList) = true := by simp
      clear e1
      generalize Tp.holds xs T.data.toList = b2 at e2 ⊢
      go_wp2_with fail
      refine (fixed5_any w7).mono ?_
      rintro e w8 ⟨rfl, k8⟩
      go_wp2
      go_ret
      exact ⟨rfl, (k1.trans K7).trans k8⟩
  | true =>
    have H1' := Lib.hid (H1.out hh)
    clear hh H1
    go_wp2_with fail
    refine (rmatch_any F T w2 (by omega) (by omega)).mono ?_
    rintro e w3 ⟨rfl, k3⟩
    have K3 := k2.trans k3
    cases hm : Tp.match_ F.data.toList T.data.toList with
    | false =>
      clear hm H1'
      go_wp2_with fail
      refine (rright_any T w3 (by omega)).mono ?_
      rintro e w5 ⟨rfl, k5⟩
      have K5 := K3.trans k5
      cases hr : Tp.right T.data.toList with
      | false =>
        clear hr
        go_wp2_with fail
        refine (fixed5_any w5).mono ?_
        rintro e w6 ⟨rfl, k6⟩
        go_wp2
        go_ret
        exact ⟨rfl, (k1.trans K5).trans k6⟩
      | true =>
        have e1 := H2.out hr
        clear hr
        go_wp2_with fail
        refine (Lets_any l xs T w5 (FL.out.kept K5).strs FL.out.l10 FL.out.s10 (by omega)).mono ?_
        rintro e w6 ⟨rfl, k6⟩
        have K6 := K5.trans k6
        go_wp2_with fail
        refine (Holds_any l xs T w6 (FL.out.kept K6).strs FL.out.l10 FL.out.s10 (by omega)).mono ?_
        rintro e w7 ⟨rfl, k7⟩
        have K7 := K6.trans k7
        have e2 : (Tp.holds xs T.data.toList == Tp.holds xs T.data.toList) = true := by simp
        clear e1
        generalize Tp.holds xs T.data.toList = b2 at e2 ⊢
        go_wp2_with fail
        refine (fixed5_any w7).mono ?_
        rintro e w8 ⟨rfl, k8⟩
        go_wp2
        go_ret
        exact ⟨rfl, (k1.trans K7).trans k8⟩
    | true =>
      have e0 := H1'.out hm
      clear hm H1'
      go_wp2_with fail
      refine (Lets_any l xs T w3 (FL.out.kept K3).strs FL.out.l10 FL.out.s10 (by omega)).mono ?_
      rintro e w4 ⟨rfl, k4⟩
      have K4 := K3.trans k4
      rw [e0]
      clear e0
      go_wp2_with fail
      refine (rright_any T w4 (by omega)).mono ?_
      rintro e w5 ⟨rfl, k5⟩
      have K5 := K4.trans k5
      cases hr : Tp.right T.data.toList with
      | false =>
        clear hr
        go_wp2_with fail
        refine (fixed5_any w5).mono ?_
        rintro e w6 ⟨rfl, k6⟩
        go_wp2
        go_ret
        exact ⟨rfl, (k1.trans K5).trans k6⟩
      | true =>
        have e1 := H2.out hr
        clear hr
        go_wp2_with fail
        refine (Lets_any l xs T w5 (FL.out.kept K5).strs FL.out.l10 FL.out.s10 (by omega)).mono ?_
        rintro e w6 ⟨rfl, k6⟩
        have K6 := K5.trans k6
        go_wp2_with fail
        refine (Holds_any l xs T w6 (FL.out.kept K6).strs FL.out.l10 FL.out.s10 (by omega)).mono ?_
        rintro e w7 ⟨rfl, k7⟩
        have K7 := K6.trans k7
        have e2 : (Tp.holds xs T.data.toList == Tp.holds xs T.data.toList) = true := by simp
        clear e1
        generalize Tp.holds xs T.data.toList = b2 at e2 ⊢
        go_wp2_with fail
        refine (fixed5_any w7).mono ?_
        rintro e w8 ⟨rfl, k8⟩
        go_wp2
        go_ret
        exact ⟨rfl, (k1.trans K7).trans k8⟩
end Go.Proofs.Ytlpkeimcklhdbaa
