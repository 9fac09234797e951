/-
  The walk of the law VarintBack.
-/
import Derived.Test.YtehcmdpnkappeaaDoorVfixed
import Derived.Test.YtehcmdpnkappeaaDoorVback
import Derived.Test.YtehcmdpnkappeaaDoorLorder
import Derived.Deep.RegionHeld3
namespace Go.Proofs.YtehcmdpnkappeaaDoor
open Go.ChangeShapes Go.WideShapes Go.ChangeAt Go.RowKit

set_option maxHeartbeats 1000000 in
set_option maxRecDepth 100000 in
theorem back_walk (n : Int) (s t : ByteArray) (w : World) (a0 : 0 ≤ n) (a1 : n ≤ 18446744073709551615) (hs : s.size ≤ maxLen) (ht : t.size ≤ maxLen) (hT : Tab w) :
    Calls Tryd.prog 5 #[.int .u64 n, .string s, .string t] w fun e w' => e = .returned (.bool true) ∧ Kept w w' := by
  unfold maxLen at hs ht
  obtain ⟨N, rfl⟩ := Int.eq_ofNat_of_zero_le a0
  go_enter Tryd.func5, Tryd.ntmps5
  go_wp2_with fail
  have ss := cut_size s 300
  have st := cut_size t 300
  simp only [Int.cast_ofNat_Int] at ss st
  generalize s.extract 0 (min (s.size : Int) 300).toNat = S at ss ⊢
  generalize t.extract 0 (min (t.size : Int) 300).toNat = T at st ⊢
  clear hs ht
  refine (put_any _ _ (by omega) (by omega) hT).mono ?_
  rintro e w1 ⟨rfl, e1⟩
  rw [Int.toNat_natCast]
  have t1 := hT.kept e1
  obtain ⟨p, hp, sp, lp⟩ := name_put N
  rw [hp]
  have hz := Vn.vsz_pos N
  rw [← sp] at hz
  have Sp := Lib.hid sp
  have Lp := Lib.hid lp
  have hN : N < 18446744073709551616 := by omega
  clear hp sp lp
  go_wp2_with fail
  have hg : vget (S ++ p ++ T).data.toList (S.size : Int) = (N, S.size + p.size, 0) := by
    have h := vget_put S.data.toList T.data.toList N hN
    rw [size_len] at h
    rw [ByteArray.data_append, ByteArray.data_append, Array.toList_append, Array.toList_append, ← toList_eq p, Lp.out, List.append_assoc, h, Sp.out]
  refine (get_any _ _ _ (by simp only [ByteArray.size_append]; unfold maxLen; omega) (by omega) (by omega) t1).mono ?_
  rintro e w2 ⟨rfl, e2⟩
  rw [hg]
  clear hg
  have t2 := t1.kept e2
  unfold tup
  simp only [Int.natCast_add]
  go_wp2_with fail
  refine (get_any _ _ _ (by unfold maxLen; omega) (by omega) (by omega) t2).mono ?_
  rintro e w3 ⟨rfl, e3⟩
  have t3 := t2.kept e3
  by_cases hf : (vget T.data.toList 0).2.2 = 0
  · obtain ⟨⟨k, d, f⟩, hv⟩ : ∃ x, vget T.data.toList 0 = x := ⟨_, rfl⟩
    rw [hv] at hf ⊢
    simp only at hf
    subst hf
    obtain ⟨d0, d1, hk, hput⟩ := vput_got _ _ _ hv
    rw [size_len] at d1
    have Hput : Hid (str (Vn.vput k) = .string (T.extract 0 d)) := by
      show str _ = _
      rw [hput, str]
      congr 1
      apply ByteArray.ext
      apply Array.toList_inj.1
      simp [ByteArray.data_extract, List.extract_eq_take_drop]
    clear hput hv
    have t4 : Tab w3.drew := t3.kept (Kept.drew (Kept.refl _))
    unfold tup
    go_wp2_with fail
    go_region_held3 (fun w' => Tab w') (first | exact t4 | exact t4.kept e4 | exact (t4.kept e4).kept e5)
      (first
        | (go_at_call 11; refine (put_any _ _ (by omega) (by omega) (by assumption)).mono ?_; rintro e w4 ⟨rfl, e4⟩; rw [Int.toNat_natCast, Hput.out])
        | (go_at_call 18; refine (fixed_any _ (by assumption)).mono ?_; rintro e w5 ⟨rfl, e5⟩))
    go_wp2
    go_ret
    exact ⟨rfl, ((((e1.trans e2).trans e3).trans (Kept.drew (Kept.refl _))).trans e4).trans e5⟩
  · have he := vget_err _ _ hf
    obtain ⟨f, hf2⟩ : ∃ f, f = (vget T.data.toList 0).2.2 := ⟨_, rfl⟩
    rw [← hf2] at hf he
    have hle := (vget_le T.data.toList 0).2.2
    rw [← hf2] at hle
    rw [he]
    clear he hf2
    have hf3 : ((f : Int) == 0) = false := by simp only [beq_eq_false_iff_ne]; omega
    unfold tup
    go_wp2_with fail
    refine (fixed_any _ t3).mono ?_
    rintro e w4 ⟨rfl, e4⟩
    go_wp2
    go_ret
    exact ⟨rfl, ((e1.trans e2).trans e3).trans e4⟩
end Go.Proofs.YtehcmdpnkappeaaDoor
