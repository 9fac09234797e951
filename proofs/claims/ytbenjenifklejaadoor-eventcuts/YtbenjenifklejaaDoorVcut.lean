/-
  The walks of Text and Cut.
-/
import Derived.Test.YtbenjenifklejaaDoorVget
namespace Go.Proofs.YtbenjenifklejaaDoor
open Go.ChangeShapes Go.WideShapes Go.ChangeAt Go.RowKit

theorem str_append (l : List UInt8) (s : ByteArray) : (ByteArray.mk l.toArray) ++ s = ByteArray.mk (l ++ s.data.toList).toArray := by
  apply ByteArray.ext
  simp

set_option maxHeartbeats 1000000 in
theorem text_any (s : ByteArray) (w : World) (hs : s.size ≤ 140737488355328) (hT : Tab w) :
    Calls Tryd.prog 37 #[.string s] w fun e w' => e = .returned (str (Vn.vput s.size ++ s.data.toList)) ∧ Kept w w' := by
  have Hl := Lib.hid (Vn.vput_length s.size)
  have hz := Vn.vsz_pos s.size
  go_enter Tryd.func37, Tryd.ntmps37
  go_wp2_with fail
  refine (put_any _ _ (by omega) (by omega) hT).mono ?_
  rintro e w' ⟨rfl, hk⟩
  rw [Int.toNat_natCast]
  obtain ⟨p, hp⟩ : ∃ p : ByteArray, p = ⟨(Vn.vput s.size).toArray⟩ := ⟨_, rfl⟩
  have hp2 : p.size ≤ 9 := by rw [hp]; show (Vn.vput s.size).toArray.size ≤ 9; rw [List.size_toArray, Hl.out]; exact hz.2
  rw [show str (Vn.vput s.size) = .string p from by rw [hp]; rfl]
  have Hp := Lib.hid hp
  clear hp
  go_wp2
  go_ret
  exact ⟨by rw [Hp.out, str_append]; rfl, hk⟩

/-- what Cut answers -/
def vcut (l : List UInt8) (a : Int) : List UInt8 × Nat × Nat :=
  if (vget l a).2.2 ≠ 0 then ([], 0, (vget l a).2.2) else if 65536 < (vget l a).1 then ([], 0, 2) else
  if l.length - (vget l a).2.1 < (vget l a).1 then ([], 0, 3) else ((l.drop (vget l a).2.1).take (vget l a).1, (vget l a).2.1 + (vget l a).1, 0)
def tups (x : List UInt8 × Nat × Nat) : Value := .tuple #[str x.1, .int .i64 x.2.1, .int .i64 x.2.2]

theorem vget_le (l : List UInt8) (a : Int) : (vget l a).1 ≤ 18446744073709551615 ∧ (vget l a).2.1 ≤ l.length ∧ (vget l a).2.2 ≤ 4 := by
  unfold vget
  split
  · simp
  rename_i h
  split
  · simp
  rename_i c r hd
  have hc := c.toNat_lt
  have hp := Vn.need_pos _ hc
  have hl : l.length = a.toNat + (c :: r).length := by rw [← hd, List.length_drop]; omega
  split
  · simp
  rename_i h2
  split
  · refine ⟨?_, by simp only; omega, by simp⟩
    have ht := (tell_eq c (r.take (Vn.need c.toNat - 1)) (by
      rw [List.length_take]
      simp only [List.length_cons] at h2
      omega)).2
    simp only
    rw [show Vn.need c.toNat = Vn.need c.toNat - 1 + 1 by omega, List.take_succ_cons]
    exact ht
  · simp

set_option maxHeartbeats 1000000 in
theorem cut_any (s : ByteArray) (a : Int) (w : World) (hs : s.size ≤ 140737488355328) (h1 : -9223372036854775808 ≤ a) (h2 : a ≤ 9223372036854775807) (hT : Tab w) :
    Calls Tryd.prog 65 #[.string s, .int .i64 a] w fun e w' => e = .returned (tups (vcut s.data.toList a)) ∧ Kept w w' := by
  have hm : s.size ≤ maxLen := by unfold maxLen; omega
  have Hl := Lib.hid (size_len s)
  obtain ⟨g1, g2, g3⟩ := vget_le s.data.toList a
  rw [Hl.out] at g2
  have Hv : Hid (vcut s.data.toList a = vcut s.data.toList a) := rfl
  have hv := Hv.out
  conv at hv => rhs; unfold vcut
  clear Hv
  obtain ⟨⟨n, t, e0⟩, hg⟩ : ∃ x, x = vget s.data.toList a := ⟨_, rfl⟩
  rw [← hg] at g1 g2 g3 hv
  simp only at g1 g2 g3 hv
  have Hg := Lib.hid hg
  have Hv := Lib.hid hv
  clear hg hv
  go_enter Tryd.func65, Tryd.ntmps65
  go_wp2_with fail
  refine (get_any s a _ hm h1 h2 hT).mono ?_
  rintro e w' ⟨rfl, hk⟩
  rw [← Hg.out]
  unfold tup
  simp only
  by_cases b1 : e0 = 0
  · subst b1
    by_cases b2 : 65536 < n
    · go_wp2
      go_ret3
      refine ⟨?_, hk⟩
      rw [Hv.out, if_neg (by simp), if_pos b2]
      rfl
    · by_cases b3 : s.size - t < n
      · go_wp2
        go_ret3
        refine ⟨?_, hk⟩
        rw [Hv.out, Hl.out, if_neg (by simp), if_neg b2, if_pos b3]
        rfl
      · have b4 : t + n ≤ s.size := by omega
        have hx : (s.extract t (t + n)).size ≤ 281474976710656 := by simp [ByteArray.size_extract]; omega
        have Hx := Lib.hid hx
        clear hx
        go_wp2_with fail
        refine (clone_any _ _ Hx.out).mono ?_
        rintro e w2 ⟨rfl, hk2⟩
        go_wp2
        go_ret3
        refine ⟨?_, hk.trans hk2⟩
        rw [Hv.out, Hl.out, if_neg (by simp), if_neg b2, if_neg b3]
        have he : s.extract t (t + n) = ⟨((s.data.toList.drop t).take n).toArray⟩ := by
          apply ByteArray.ext
          apply Array.toList_inj.1
          simp [ByteArray.data_extract, List.extract_eq_take_drop]
        rw [he]
        rfl
  · go_wp2
    go_ret3
    refine ⟨?_, hk⟩
    rw [Hv.out, if_pos b1]
    rfl
end Go.Proofs.YtbenjenifklejaaDoor
