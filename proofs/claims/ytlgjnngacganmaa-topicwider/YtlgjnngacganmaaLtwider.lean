/-
  The walk of the law TopicWider.
-/
import Derived.Test.YtlgjnngacganmaaTref4
namespace Go.Proofs.Ytlgjnngacganmaa
open Go.ChangeShapes Go.WideShapes Go.ChangeAt Go.RowKit

set_option maxHeartbeats 2000000 in
set_option maxRecDepth 100000 in
theorem twider_walk (a b : ByteArray) (w : World) (ha : a.size ≤ maxLen) (hb : b.size ≤ maxLen) :
    Calls Try.prog 9 #[.string a, .string b] w fun e w' => e = .returned (.bool true) ∧ Kept w w' := by
  unfold maxLen at ha hb
  go_enter Try.func9, Try.ntmps9
  go_upto_region 3 with fail
  have sa := cut_size a 150
  have sb := cut_size b 150
  simp only [Int.cast_ofNat_Int] at sa sb
  generalize a.extract 0 (min (a.size : Int) 150).toNat = F at sa ⊢
  generalize b.extract 0 (min (b.size : Int) 150).toNat = S at sb ⊢
  clear ha hb
  have K := Kept.refl w
  go_wp2_with fail
  refine (rlevels_any F _ (by omega)).mono ?_
  rintro e w1 ⟨v1, rfl, o1, q1⟩
  obtain ⟨a1, c1, rfl⟩ := own_len o1
  have K1 := K.trans q1
  have hl1 := Tp.lev_length F.data.toList
  rw [str_size] at hl1
  clear o1 q1 K
  by_cases hf8 : (Tp.lev F.data.toList).length < 8
  · have Hf8 := Lib.hid hf8
    have hg1 : ¬ (8 : Int) ≤ ((Tp.lev F.data.toList).length : Int) := by omega
    go_wp2_with fail
    refine (rlevels_any S _ (by omega)).mono ?_
    rintro e w2 ⟨v2, rfl, o2, q2⟩
    obtain ⟨a2, c2, rfl⟩ := own_len o2
    have K2 := K1.trans q2
    have hl2 := Tp.lev_length S.data.toList
    rw [str_size] at hl2
    clear o2 q2 K1
    by_cases hs8 : (Tp.lev S.data.toList).length < 8
    · have hg2 : ¬ (8 : Int) ≤ ((Tp.lev S.data.toList).length : Int) := by omega
      obtain ⟨FP, hFP, zFP, lFP⟩ := pre_name F #[43, 47]
      obtain ⟨FX, hFX, zFX, lFX⟩ := pre_name F #[120, 47]
      obtain ⟨FY, hFY, zFY, lFY⟩ := pre_name F #[121, 47]
      obtain ⟨SX, hSX, zSX, lSX⟩ := pre_name S #[120, 47]
      simp only [List.size_toArray, List.length_cons, List.length_nil] at zFP zFX zFY zSX
      have m1 := Tp.match_front (x := Tp.plus) (y := [120]) (by decide) (by decide) (by decide) (by decide) hf8 hs8
      have m2 := Tp.match_front (x := [120]) (y := [120]) (by decide) (by decide) (by decide) (by decide) hf8 hs8
      have m3 := Tp.match_front (x := [121]) (y := [120]) (by decide) (by decide) (by decide) (by decide) hf8 hs8
      have m4 := Tp.covers_front (x := Tp.plus) (y := [120]) (by decide) (by decide) (by decide) (by decide) (by decide) hf8
      have M1 : Hid (Tp.match_ FP.data.toList SX.data.toList = Tp.match_ F.data.toList S.data.toList) := by show _ = _; rw [lFP, lSX]; exact m1.trans (by simp)
      have M2 : Hid (Tp.match_ FX.data.toList SX.data.toList = Tp.match_ F.data.toList S.data.toList) := by show _ = _; rw [lFX, lSX]; exact m2.trans (by simp)
      have M3 : Hid (Tp.match_ FY.data.toList SX.data.toList = false) := by show _ = _; rw [lFY, lSX]; exact m3.trans (by simp)
      have M4 : Hid (Tp.covers FP.data.toList FX.data.toList = Tp.filter F.data.toList) := by show _ = _; rw [lFP, lFX]; exact m4
      clear m1 m2 m3 m4 lFP lFX lFY lSX hf8 hs8
      generalize hm : Tp.match_ F.data.toList S.data.toList = m at M1 M2
      generalize hv : Tp.filter F.data.toList = v at M4
      have Hm := Lib.hid hm
      have Hv := Lib.hid hv
      have hmm : (m == m) = true := by cases m <;> rfl
      have hvv : (v == v) = true := by cases v <;> rfl
      clear hm hv
      go_wp2_with fail
      refine (match_from K2 F S (by omega) (by omega) _ Hm.out).mono ?_
      rintro e w3 ⟨rfl, K3⟩
      go_wp2_with fail
      refine (match_from K3 FP SX (by omega) (by omega) _ M1.out).mono ?_
      rintro e w4 ⟨rfl, K4⟩
      go_wp2_with fail
      refine (match_from K4 FX SX (by omega) (by omega) _ M2.out).mono ?_
      rintro e w5 ⟨rfl, K5⟩
      go_wp2_with fail
      refine (match_from K5 FY SX (by omega) (by omega) _ M3.out).mono ?_
      rintro e w6 ⟨rfl, K6⟩
      go_wp2_with fail
      refine (covers_from K6 FP FX (by omega) (by omega) _ M4.out).mono ?_
      rintro e w7 ⟨rfl, K7⟩
      go_wp2_with fail
      refine (filter_from K7 F (by omega) _ Hv.out).mono ?_
      rintro e w8 ⟨rfl, K8⟩
      go_wp2_with fail
      refine (fix_from K8).mono ?_
      rintro e w9 ⟨rfl, Kf⟩
      go_wp2_with fail
      go_ret
      exact ⟨rfl, Kf⟩
    · have hg2 : (8 : Int) ≤ ((Tp.lev S.data.toList).length : Int) := by omega
      go_wp2_with fail
      refine (fix_from K2).mono ?_
      rintro e w3 ⟨rfl, Kf⟩
      go_wp2_with fail
      go_ret
      exact ⟨rfl, Kf⟩
  · have hg1 : (8 : Int) ≤ ((Tp.lev F.data.toList).length : Int) := by omega
    go_wp2_with fail
    refine (fix_from K1).mono ?_
    rintro e w3 ⟨rfl, Kf⟩
    go_wp2_with fail
    go_ret
    exact ⟨rfl, Kf⟩
end Go.Proofs.Ytlgjnngacganmaa
