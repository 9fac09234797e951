/-
  The walk of the law VarintOrder.
-/
import Derived.Test.YtehcmdpnkappeaaDoorVfixed
import Derived.Test.YtehcmdpnkappeaaDoorVorder
namespace Go.Proofs.YtehcmdpnkappeaaDoor
open Go.ChangeShapes Go.WideShapes Go.ChangeAt Go.RowKit

/-- a number's bytes as a string, by name -/
theorem name_put (n : Nat) : ∃ p : ByteArray, str (Vn.vput n) = .string p ∧ p.size = Vn.vsz n ∧ p.toList = Vn.vput n :=
  ⟨⟨(Vn.vput n).toArray⟩, rfl, by rw [← Vn.vput_length]; rfl, by rw [toList_eq]⟩

set_option maxHeartbeats 1000000 in
set_option maxRecDepth 100000 in
theorem order_walk (a b : Int) (w : World) (a0 : 0 ≤ a) (a1 : a ≤ 18446744073709551615) (b0 : 0 ≤ b) (b1 : b ≤ 18446744073709551615) (hT : Tab w) :
    Calls Tryd.prog 6 #[.int .u64 a, .int .u64 b] w fun e w' => e = .returned (.bool true) ∧ Kept w w' := by
  obtain ⟨A, rfl⟩ := Int.eq_ofNat_of_zero_le a0
  obtain ⟨B, rfl⟩ := Int.eq_ofNat_of_zero_le b0
  obtain ⟨p, hp, sp, lp⟩ := name_put A
  obtain ⟨q, hq, sq, lq⟩ := name_put B
  have hfac : Hid ((A < B ∧ Op.bytesLess p.toList q.toList = true ∧ Vn.vsz A ≤ Vn.vsz B ∧ (p.toList == q.toList) = false) ∨ (A = B ∧ p = q) ∨ (B < A ∧ Op.bytesLess p.toList q.toList = false ∧ (p.toList == q.toList) = false)) := by
    rcases Nat.lt_trichotomy A B with h | h | h
    · left
      refine ⟨h, ?_, vsz_mono _ _ (by omega), ?_⟩
      · rw [lp, lq]; exact vput_lt A B h (by omega)
      · rw [lp, lq]; simp only [beq_eq_false_iff_ne]; intro e; have := vput_inj A B (by omega) (by omega) e; omega
    · right; left
      subst h
      refine ⟨rfl, ?_⟩
      rw [hp] at hq
      exact (Value.string.injEq _ _).mp hq
    · right; right
      refine ⟨h, ?_, ?_⟩
      · rw [lp, lq]
        have hlt := vput_lt B A h (by omega)
        rcases bl_total _ _ (fun e => by have := vput_inj A B (by omega) (by omega) e; omega : Vn.vput A ≠ Vn.vput B) with ⟨_, h2⟩ | ⟨h1, _⟩
        · rw [hlt] at h2; cases h2
        · exact h1
      · rw [lp, lq]; simp only [beq_eq_false_iff_ne]; intro e; have := vput_inj A B (by omega) (by omega) e; omega
  have Hp := Lib.hid hp
  have Hq := Lib.hid hq
  have Sp := Lib.hid sp
  clear hp hq lp lq sq sp
  go_enter Tryd.func6, Tryd.ntmps6
  go_wp2_with fail
  refine (put_any _ _ (by omega) (by omega) hT).mono ?_
  rintro e w1 ⟨rfl, k1⟩
  rw [Int.toNat_natCast, Hp.out]
  have t1 := hT.kept k1
  go_wp2_with fail
  refine (put_any _ _ (by omega) (by omega) t1).mono ?_
  rintro e w2 ⟨rfl, k2⟩
  rw [Int.toNat_natCast, Hq.out]
  have t2 := t1.kept k2
  rcases hfac.out with ⟨h1, h2, h3, h4⟩ | ⟨rfl, rfl⟩ | ⟨h1, h2, h4⟩
  · have e1 : ((A : Int) == (B : Int)) = false := by simp only [beq_eq_false_iff_ne]; omega
    go_wp2_with fail
    refine (less_any p q _).mono ?_
    rintro e w' ⟨rfl, rfl⟩
    rw [h2]
    clear h2
    go_wp2_with fail
    refine (size_any _ _ (by omega) (by omega) t2).mono ?_
    rintro e w' ⟨rfl, rfl⟩
    rw [Int.toNat_natCast]
    go_wp2_with fail
    refine (size_any _ _ (by omega) (by omega) t2).mono ?_
    rintro e w' ⟨rfl, rfl⟩
    rw [Int.toNat_natCast]
    go_wp2_with fail
    refine (size_any _ _ (by omega) (by omega) t2).mono ?_
    rintro e w' ⟨rfl, rfl⟩
    rw [Int.toNat_natCast, ← Sp.out]
    go_wp2_with fail
    refine (fixed_any _ t2).mono ?_
    rintro e w3 ⟨rfl, k3⟩
    go_wp2
    go_ret
    exact ⟨rfl, (k1.trans k2).trans k3⟩
  · go_wp2_with fail
    refine (less_any p p _).mono ?_
    rintro e w' ⟨rfl, rfl⟩
    rw [bl_irrefl]
    go_wp2_with fail
    refine (size_any _ _ (by omega) (by omega) t2).mono ?_
    rintro e w' ⟨rfl, rfl⟩
    rw [Int.toNat_natCast]
    go_wp2_with fail
    refine (size_any _ _ (by omega) (by omega) t2).mono ?_
    rintro e w' ⟨rfl, rfl⟩
    rw [Int.toNat_natCast]
    go_wp2_with fail
    refine (size_any _ _ (by omega) (by omega) t2).mono ?_
    rintro e w' ⟨rfl, rfl⟩
    rw [Int.toNat_natCast, ← Sp.out]
    go_wp2_with fail
    refine (fixed_any _ t2).mono ?_
    rintro e w3 ⟨rfl, k3⟩
    go_wp2
    go_ret
    exact ⟨rfl, (k1.trans k2).trans k3⟩
  · have e1 : ((A : Int) == (B : Int)) = false := by simp only [beq_eq_false_iff_ne]; omega
    have e2 : decide (A < B) = false := by simp only [decide_eq_false_iff_not]; omega
    go_wp2_with fail
    refine (less_any p q _).mono ?_
    rintro e w' ⟨rfl, rfl⟩
    rw [h2]
    clear h2
    go_wp2_with fail
    refine (size_any _ _ (by omega) (by omega) t2).mono ?_
    rintro e w' ⟨rfl, rfl⟩
    rw [Int.toNat_natCast, ← Sp.out]
    go_wp2_with fail
    refine (fixed_any _ t2).mono ?_
    rintro e w3 ⟨rfl, k3⟩
    go_wp2
    go_ret
    exact ⟨rfl, (k1.trans k2).trans k3⟩
end Go.Proofs.YtehcmdpnkappeaaDoor
