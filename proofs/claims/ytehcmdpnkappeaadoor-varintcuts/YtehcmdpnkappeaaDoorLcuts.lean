/-
  The walk of the law VarintCuts.
-/
import Derived.Test.YtehcmdpnkappeaaDoorVfixed
import Derived.Test.YtehcmdpnkappeaaDoorVback
import Derived.Test.YtehcmdpnkappeaaDoorLorder
import Derived.Test.YtehcmdpnkappeaaDoorVbits
namespace Go.Proofs.YtehcmdpnkappeaaDoor
open Go.ChangeShapes Go.WideShapes Go.ChangeAt Go.RowKit

set_option maxHeartbeats 1000000 in
set_option maxRecDepth 100000 in
theorem cuts_walk (n : Int) (s : ByteArray) (k : Int) (w : World) (a0 : 0 ≤ n) (a1 : n ≤ 18446744073709551615) (hs : s.size ≤ maxLen) (_k0 : -9223372036854775808 ≤ k) (_k1 : k ≤ 9223372036854775807) (hT : Tab w) :
    Calls Tryd.prog 8 #[.int .u64 n, .string s, .int .i64 k] w fun e w' => e = .returned (.bool true) ∧ Kept w w' := by
  unfold maxLen at hs
  obtain ⟨N, rfl⟩ := Int.eq_ofNat_of_zero_le a0
  go_enter Tryd.func8, Tryd.ntmps8
  go_wp2_with fail
  have ss := cut_size s 300
  simp only [Int.cast_ofNat_Int] at ss
  generalize s.extract 0 (min (s.size : Int) 300).toNat = S at ss ⊢
  clear hs
  refine (put_any _ _ (by omega) (by omega) hT).mono ?_
  rintro e w1 ⟨rfl, e1⟩
  rw [Int.toNat_natCast]
  have t1 := hT.kept e1
  obtain ⟨p, hp, sp, lp⟩ := name_put N
  rw [hp]
  have hz := Vn.vsz_pos N
  rw [← sp] at hz
  have Sp := Lib.hid sp
  have Lp := Lib.hid lp
  clear hp sp lp
  go_wp2_with fail
  refine (text_any S _ (by omega) t1).mono ?_
  rintro e w2 ⟨rfl, e2⟩
  have t2 := t1.kept e2
  obtain ⟨t, ht, st, lt⟩ : ∃ t : ByteArray, str (Vn.vput S.size ++ S.data.toList) = .string t ∧ t.size = Vn.vsz S.size + S.size ∧ t.toList = Vn.vput S.size ++ S.data.toList :=
    ⟨⟨(Vn.vput S.size ++ S.data.toList).toArray⟩, rfl, by show (Vn.vput S.size ++ S.data.toList).toArray.size = _; simp [Vn.vput_length], by rw [toList_eq]⟩
  rw [ht]
  have hz2 := Vn.vsz_pos S.size
  have tb : 1 ≤ t.size ∧ t.size ≤ 309 := by omega
  have St := Lib.hid st
  have Lt := Lib.hid lt
  clear ht st lt hz2
  have q1 : ((p.size : Int) == 0) = false := by simp only [beq_eq_false_iff_ne]; omega
  have q2 : ((t.size : Int) == 0) = false := by simp only [beq_eq_false_iff_ne]; omega
  have hK : 0 ≤ bits BinOp.and IntKind.i64 k 65535 ∧ bits BinOp.and IntKind.i64 k 65535 ≤ 65535 := and_mask k 65535 (by decide)
  obtain ⟨hK0, hK1⟩ := hK
  have m1 : 0 ≤ bits BinOp.and IntKind.i64 k 65535 % (p.size : Int) := Int.emod_nonneg _ (by omega)
  have m2 : bits BinOp.and IntKind.i64 k 65535 % (p.size : Int) < (p.size : Int) := Int.emod_lt_of_pos _ (by omega)
  have m2' : bits BinOp.and IntKind.i64 k 65535 % (p.size : Int) ≤ (p.size : Int) := by omega
  have m3 : 0 ≤ bits BinOp.and IntKind.i64 k 65535 % (t.size : Int) := Int.emod_nonneg _ (by omega)
  have m4 : bits BinOp.and IntKind.i64 k 65535 % (t.size : Int) < (t.size : Int) := Int.emod_lt_of_pos _ (by omega)
  have m4' : bits BinOp.and IntKind.i64 k 65535 % (t.size : Int) ≤ (t.size : Int) := by omega
  have hN : N < 18446744073709551616 := by omega
  go_wp2_with fail
  have hg : vget (p.extract 0 (bits BinOp.and IntKind.i64 k 65535 % (p.size : Int)).toNat).data.toList 0 = (0, 0, 3) := by
    have hi : (bits BinOp.and IntKind.i64 k 65535 % (p.size : Int)).toNat < Vn.vsz N := by have := Sp.out; omega
    have hl : p.data.toList = Vn.vput N := by rw [← toList_eq]; exact Lp.out
    have he : (p.extract 0 (bits BinOp.and IntKind.i64 k 65535 % (p.size : Int)).toNat).data.toList = (Vn.vput N).take (bits BinOp.and IntKind.i64 k 65535 % (p.size : Int)).toNat := by
      rw [ByteArray.data_extract, Array.toList_extract, hl, List.extract_eq_take_drop]; simp
    rw [he]
    exact vget_cut N _ hN hi
  refine (get_any _ _ _ (by rw [ByteArray.size_extract]; unfold maxLen; omega) (by omega) (by omega) t2).mono ?_
  rintro e w3 ⟨rfl, e3⟩
  rw [hg]
  clear hg
  have t3 := t2.kept e3
  unfold tup
  go_wp2_with fail
  have hc : vcut (t.extract 0 (bits BinOp.and IntKind.i64 k 65535 % (t.size : Int)).toNat).data.toList 0 = ([], 0, 3) := by
    have hi : (bits BinOp.and IntKind.i64 k 65535 % (t.size : Int)).toNat < Vn.vsz S.size + S.size := by have := St.out; omega
    have hl : t.data.toList = Vn.vput S.size ++ S.data.toList := by rw [← toList_eq]; exact Lt.out
    have he : (t.extract 0 (bits BinOp.and IntKind.i64 k 65535 % (t.size : Int)).toNat).data.toList = (Vn.vput S.data.toList.length ++ S.data.toList).take (bits BinOp.and IntKind.i64 k 65535 % (t.size : Int)).toNat := by
      rw [ByteArray.data_extract, Array.toList_extract, hl, List.extract_eq_take_drop, size_len]; simp
    rw [he]
    exact vcut_cut S.data.toList _ (by rw [size_len]; omega) (by rw [size_len]; exact hi)
  refine (cut_any _ _ _ (by rw [ByteArray.size_extract]; omega) (by omega) (by omega) t3).mono ?_
  rintro e w4 ⟨rfl, e4⟩
  rw [hc]
  clear hc
  have t4 := t3.kept e4
  unfold tups str
  go_wp2_with fail
  refine (fixed_any _ t4).mono ?_
  rintro e w5 ⟨rfl, e5⟩
  go_wp2
  go_ret
  exact ⟨rfl, (((e1.trans e2).trans e3).trans e4).trans e5⟩
end Go.Proofs.YtehcmdpnkappeaaDoor
