/-
  The walk of the document's own Open.
-/
import Derived.Test.YtenhncohhikllaaDoorKref2
import Derived.Test.YtenhncohhikllaaDoorVref4
namespace Go.Proofs.YtenhncohhikllaaDoor
open Go.ChangeShapes Go.WideShapes Go.ChangeAt Go.RowKit

set_option maxHeartbeats 1000000 in
theorem refopen_any (s : ByteArray) (a : Int) (w : World) (hs : s.size ≤ 100000) (h1 : -9223372036854775808 ≤ a) (h2 : a ≤ 9223372036854775807) :
    Calls Tryd.prog 61 #[.string s, .int .i64 a] w fun e w' => e = .returned (tups (Ck.open_ s.data.toList a)) ∧ Kept w w' := by
  have Hl := Lib.hid (size_len s)
  obtain ⟨g1, g2, g3⟩ := Ck.vcut_le s.data.toList a
  rw [Hl.out] at g2
  have Hv : Hid (Ck.open_ s.data.toList a = Ck.openOf s.data.toList (vcut s.data.toList a)) := rfl
  obtain ⟨⟨x, t, e0⟩, hg⟩ : ∃ x, x = vcut s.data.toList a := ⟨_, rfl⟩
  rw [← hg] at g1 g2 g3 Hv
  simp only at g1 g2 g3
  have Hg := Lib.hid hg
  clear hg
  obtain ⟨p, hp, sp, lp⟩ := name_str x
  rw [← sp] at g1
  have Hp := Lib.hid hp
  have Lp := Lib.hid lp
  clear hp sp lp
  go_enter Tryd.func61, Tryd.ntmps61
  go_wp2_with fail
  refine (refcut_any s a _ (by omega) h1 h2).mono ?_
  rintro e w1 ⟨rfl, k1⟩
  rw [← Hg.out]
  unfold tups
  simp only
  rw [Hp.out]
  by_cases b1 : e0 = 0
  · subst b1
    by_cases b2 : s.size - t < 4
    · have b3 : (s.size : Int) < (t : Int) + 4 := by omega
      go_wp2
      go_ret3
      refine ⟨?_, k1⟩
      rw [Hv.out, Ck.openOf, if_neg (by simp), if_pos (by simp only; rw [Hl.out]; exact b2)]
      rfl
    · have b3 : t + 4 ≤ s.size := by omega
      obtain ⟨q, hq, sq, lq⟩ := name_str (Ck.four (Ck.sum p.data.toList))
      have Hq := Lib.hid hq
      have Lq := Lib.hid lq
      clear hq sq lq
      have r1 : (t : Int) ≤ (t : Int) + 4 := by omega
      have r2 : 0 ≤ (t : Int) + 4 := by omega
      have r3 : (t : Int) + 4 ≤ s.size := by omega
      have r4 : ((t : Int) + 4).toNat = t + 4 := by omega
      have r5 : IntKind.i64.wrap ((t : Int) + 4) = (t : Int) + 4 := by rw [IntKind.wrap_i64]; omega
      by_cases b4 : (s.data.toList.drop t).take 4 = Ck.four (Ck.sum x)
      · have hE : ((s.extract t (t + 4)).toList != q.toList) = false := by
          rw [extract_str, toList_eq, toList_eq, Lq.out, Lp.out]
          show ((s.data.toList.drop t).take 4 != Ck.four (Ck.sum x)) = false
          rw [b4]; simp
        have hE' : ((s.extract t (t + 4)).toList == q.toList) = true := by simpa [bne] using hE
        have Hb := Lib.hid b4
        clear b4
        go_wp2_with fail
        go_region_held3 (fun _ => True) (trivial)
          (first
            | (go_at_call 78; refine (refsum_any p _ (by unfold maxLen; omega)).mono ?_; rintro e w2 ⟨rfl, rfl⟩)
            | (go_at_call 77; refine (reffour_any (Ck.sum p.data.toList) _ (Ck.add_lt _ _)).mono ?_; rintro e w3 ⟨rfl, k3⟩; rw [Hq.out]))
        go_wp2
        go_ret3
        refine ⟨?_, (k1.trans (Kept.drew (Kept.refl _))).trans k3⟩
        rw [Hv.out, Ck.openOf, if_neg (by simp), if_neg (by simp only; rw [Hl.out]; exact b2), if_pos Hb.out]
        exact tups_mk p x (t + 4) 0 Hp.out
      · have hE : ((s.extract t (t + 4)).toList != q.toList) = true := by
          rw [extract_str, toList_eq, toList_eq, Lq.out, Lp.out]
          show ((s.data.toList.drop t).take 4 != Ck.four (Ck.sum x)) = true
          rw [bne_iff_ne]; exact b4
        have hE' : ((s.extract t (t + 4)).toList == q.toList) = false := by simpa [bne] using hE
        go_wp2_with fail
        go_region_held3 (fun _ => True) (trivial)
          (first
            | (go_at_call 78; refine (refsum_any p _ (by unfold maxLen; omega)).mono ?_; rintro e w2 ⟨rfl, rfl⟩)
            | (go_at_call 77; refine (reffour_any (Ck.sum p.data.toList) _ (Ck.add_lt _ _)).mono ?_; rintro e w3 ⟨rfl, k3⟩; rw [Hq.out]))
        go_wp2
        go_ret3
        refine ⟨?_, (k1.trans (Kept.drew (Kept.refl _))).trans k3⟩
        rw [Hv.out, Ck.openOf, if_neg (by simp), if_neg (by simp only; rw [Hl.out]; exact b2), if_neg b4]
        rfl
  · go_wp2
    go_ret3
    refine ⟨?_, k1⟩
    rw [Hv.out, Ck.openOf, if_pos b1]
    rfl
end Go.Proofs.YtenhncohhikllaaDoor
