/-
  The walk of the law TopicPlain.
-/
import Derived.Test.YtlgjnngacganmaaTfrom
namespace Go.Proofs.Ytlgjnngacganmaa
open Go.ChangeShapes Go.WideShapes Go.ChangeAt Go.RowKit

set_option maxHeartbeats 1000000 in
set_option maxRecDepth 100000 in
theorem tplain_walk (a b : ByteArray) (w : World) (ha : a.size ≤ maxLen) (hb : b.size ≤ maxLen) :
    Calls Try.prog 7 #[.string a, .string b] w fun e w' => e = .returned (.bool true) ∧ Kept w w' := by
  unfold maxLen at ha hb
  go_enter Try.func7, Try.ntmps7
  go_upto_region 3 with fail
  have sa := cut_size a 200
  have sb := cut_size b 200
  simp only [Int.cast_ofNat_Int] at sa sb
  generalize a.extract 0 (min (a.size : Int) 200).toNat = S at sa ⊢
  generalize b.extract 0 (min (b.size : Int) 200).toNat = T at sb ⊢
  clear ha hb
  have K := Kept.refl w
  cases hr : Tp.right S.data.toList with
  | false =>
    have Hr := Lib.hid hr
    clear hr
    go_wp2_with fail
    refine (right_from K S (by omega) _ Hr.out).mono ?_
    rintro e w1 ⟨rfl, K1⟩
    go_wp2_with fail
    refine (match_from K1 ⟨#[35]⟩ S (by decide) (by omega) false (Tp.match_right Hr.out)).mono ?_
    rintro e w2 ⟨rfl, K2⟩
    go_wp2_with fail
    refine (fix_from K2).mono ?_
    rintro e w3 ⟨rfl, Kf⟩
    go_wp2_with fail
    go_ret
    exact ⟨rfl, Kf⟩
  | true =>
    have Hr := Lib.hid hr
    clear hr
    have hm := Tp.match_plain (t := T.data.toList) Hr.out
    by_cases he : S.data.toList = T.data.toList
    · have e1 : (S.toList == T.toList) = true := by rw [toList_eq, toList_eq, he]; simp
      have Hm : Hid (Tp.match_ S.data.toList T.data.toList = true) := by show _ = _; rw [hm, he]; simp
      clear hm he
      go_wp2_with fail
      refine (right_from K S (by omega) _ Hr.out).mono ?_
      rintro e w1 ⟨rfl, K1⟩
      go_wp2_with fail
      refine (filter_from K1 S (by omega) true (Tp.right_filter Hr.out)).mono ?_
      rintro e w2 ⟨rfl, K2⟩
      go_wp2_with fail
      refine (match_from K2 S T (by omega) (by omega) _ Hm.out).mono ?_
      rintro e w3 ⟨rfl, K3⟩
      go_wp2_with fail
      refine (match_from K3 ⟨#[35]⟩ S (by decide) (by omega) true ((Tp.match_hash _).trans Hr.out)).mono ?_
      rintro e w4 ⟨rfl, K4⟩
      obtain ⟨G, hG, gs, gl⟩ := app_name S #[47, 35]
      simp only [List.size_toArray, List.length_cons, List.length_nil] at gs
      have Hl := Lib.hid gl
      clear gl
      cases hg : Tp.filter G.data.toList with
      | false =>
        have Hg := Lib.hid hg
        have Hm : Hid (Tp.match_ G.data.toList S.data.toList = false) := by
          show _ = _
          rw [← Hg.out, Hl.out]; exact Tp.match_rest_self Hr.out
        clear hg
        go_wp2_with fail
        refine (match_from K4 G S (by omega) (by omega) _ Hm.out).mono ?_
        rintro e w5 ⟨rfl, M1⟩
        go_wp2_with fail
        refine (filter_from M1 G (by omega) _ Hg.out).mono ?_
        rintro e w6 ⟨rfl, M2⟩
        go_wp2_with fail
        refine (fix_from M2).mono ?_
        rintro e w7 ⟨rfl, Kf⟩
        go_wp2_with fail
        go_ret
        exact ⟨rfl, Kf⟩
      | true =>
        have Hg := Lib.hid hg
        have Hm : Hid (Tp.match_ G.data.toList S.data.toList = true) := by
          show _ = _
          rw [← Hg.out, Hl.out]; exact Tp.match_rest_self Hr.out
        clear hg
        go_wp2_with fail
        refine (match_from K4 G S (by omega) (by omega) _ Hm.out).mono ?_
        rintro e w5 ⟨rfl, M1⟩
        go_wp2_with fail
        refine (filter_from M1 G (by omega) _ Hg.out).mono ?_
        rintro e w6 ⟨rfl, M2⟩
        go_wp2_with fail
        refine (fix_from M2).mono ?_
        rintro e w7 ⟨rfl, Kf⟩
        go_wp2_with fail
        go_ret
        exact ⟨rfl, Kf⟩
    · have e1 : (S.toList == T.toList) = false := by rw [toList_eq, toList_eq]; exact beq_eq_false_iff_ne.2 he
      have Hm : Hid (Tp.match_ S.data.toList T.data.toList = false) := by show _ = _; rw [hm]; exact beq_eq_false_iff_ne.2 he
      clear hm he
      go_wp2_with fail
      refine (right_from K S (by omega) _ Hr.out).mono ?_
      rintro e w1 ⟨rfl, K1⟩
      go_wp2_with fail
      refine (filter_from K1 S (by omega) true (Tp.right_filter Hr.out)).mono ?_
      rintro e w2 ⟨rfl, K2⟩
      go_wp2_with fail
      refine (match_from K2 S T (by omega) (by omega) _ Hm.out).mono ?_
      rintro e w3 ⟨rfl, K3⟩
      go_wp2_with fail
      refine (match_from K3 ⟨#[35]⟩ S (by decide) (by omega) true ((Tp.match_hash _).trans Hr.out)).mono ?_
      rintro e w4 ⟨rfl, K4⟩
      obtain ⟨G, hG, gs, gl⟩ := app_name S #[47, 35]
      simp only [List.size_toArray, List.length_cons, List.length_nil] at gs
      have Hl := Lib.hid gl
      clear gl
      cases hg : Tp.filter G.data.toList with
      | false =>
        have Hg := Lib.hid hg
        have Hm : Hid (Tp.match_ G.data.toList S.data.toList = false) := by
          show _ = _
          rw [← Hg.out, Hl.out]; exact Tp.match_rest_self Hr.out
        clear hg
        go_wp2_with fail
        refine (match_from K4 G S (by omega) (by omega) _ Hm.out).mono ?_
        rintro e w5 ⟨rfl, M1⟩
        go_wp2_with fail
        refine (filter_from M1 G (by omega) _ Hg.out).mono ?_
        rintro e w6 ⟨rfl, M2⟩
        go_wp2_with fail
        refine (fix_from M2).mono ?_
        rintro e w7 ⟨rfl, Kf⟩
        go_wp2_with fail
        go_ret
        exact ⟨rfl, Kf⟩
      | true =>
        have Hg := Lib.hid hg
        have Hm : Hid (Tp.match_ G.data.toList S.data.toList = true) := by
          show _ = _
          rw [← Hg.out, Hl.out]; exact Tp.match_rest_self Hr.out
        clear hg
        go_wp2_with fail
        refine (match_from K4 G S (by omega) (by omega) _ Hm.out).mono ?_
        rintro e w5 ⟨rfl, M1⟩
        go_wp2_with fail
        refine (filter_from M1 G (by omega) _ Hg.out).mono ?_
        rintro e w6 ⟨rfl, M2⟩
        go_wp2_with fail
        refine (fix_from M2).mono ?_
        rintro e w7 ⟨rfl, Kf⟩
        go_wp2_with fail
        go_ret
        exact ⟨rfl, Kf⟩
end Go.Proofs.Ytlgjnngacganmaa
