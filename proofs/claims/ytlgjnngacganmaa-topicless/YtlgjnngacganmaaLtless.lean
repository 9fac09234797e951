/-
  The walk of the law TopicLess.
-/
import Derived.Test.YtlgjnngacganmaaTfixed
import Derived.Test.YtlgjnngacganmaaTmath2
namespace Go.Proofs.Ytlgjnngacganmaa
open Go.ChangeShapes Go.WideShapes Go.ChangeAt Go.RowKit

set_option maxHeartbeats 1000000 in
set_option maxRecDepth 100000 in
theorem tless_walk (a b c : ByteArray) (w : World) (ha : a.size ≤ maxLen) (hb : b.size ≤ maxLen) (hc : c.size ≤ maxLen) :
    Calls Try.prog 8 #[.string a, .string b, .string c] w fun e w' => e = .returned (.bool true) ∧ Kept w w' := by
  unfold maxLen at ha hb hc
  go_enter Try.func8, Try.ntmps8
  go_wp2_with fail
  have sa := cut_size a 200
  have sb := cut_size b 200
  have sc := cut_size c 200
  simp only [Int.cast_ofNat_Int] at sa sb sc
  generalize a.extract 0 (min (a.size : Int) 200).toNat = A at sa ⊢
  generalize b.extract 0 (min (b.size : Int) 200).toNat = B at sb ⊢
  generalize c.extract 0 (min (c.size : Int) 200).toNat = C at sc ⊢
  clear ha hb hc
  refine (less_any A B _ (by omega) (by omega)).mono ?_
  rintro e w1 ⟨rfl, k1⟩
  generalize hx : Tp.less A.data.toList B.data.toList = x
  have Hx := Lib.hid hx
  clear hx
  go_wp2_with fail
  refine (less_any B A _ (by omega) (by omega)).mono ?_
  rintro e w2 ⟨rfl, k2⟩
  have k12 := k1.trans k2
  clear k1 k2
  generalize hy : Tp.less B.data.toList A.data.toList = y
  have Hy := Lib.hid hy
  clear hy
  have hcase : (x = false ∧ y = false ∧ (A.toList == B.toList) = true) ∨ (x = true ∧ y = false ∧ (A.toList == B.toList) = false) ∨ (x = false ∧ y = true ∧ (A.toList == B.toList) = false) := by
    by_cases e : A.data.toList = B.data.toList
    · refine .inl ⟨by rw [← Hx.out, e, Tp.less_irrefl], by rw [← Hy.out, e, Tp.less_irrefl], by rw [toList_eq, toList_eq, e]; simp⟩
    · have h := Tp.less_total e
      rw [Hx.out, Hy.out] at h
      rcases h with ⟨h1, h2⟩ | ⟨h1, h2⟩
      · exact .inr (.inl ⟨h1, h2, by rw [toList_eq, toList_eq]; exact beq_eq_false_iff_ne.2 e⟩)
      · exact .inr (.inr ⟨h1, h2, by rw [toList_eq, toList_eq]; exact beq_eq_false_iff_ne.2 e⟩)
  have fin : ∀ w3 : World, Kept w w3 → Calls Try.prog 20 #[] w3 fun e w' => e = .returned (.bool true) ∧ Kept w w' := fun w3 k3 => (fixed3_any w3).mono fun e w' h => ⟨h.1, k3.trans h.2⟩
  rcases hcase with ⟨rfl, rfl, hab⟩ | ⟨rfl, rfl, hab⟩ | ⟨rfl, rfl, hab⟩
  · have hab2 : (A.toList != B.toList) = false := by simp [bne, hab]
    go_wp2_with fail
    refine (fin _ k12).mono ?_
    rintro e w3 ⟨rfl, k3⟩
    go_wp2_with fail
    go_ret
    exact ⟨rfl, k3⟩
  · have hab2 : (A.toList != B.toList) = true := by simp [bne, hab]
    go_wp2_with fail
    refine (less_any B C _ (by omega) (by omega)).mono ?_
    rintro e w3 ⟨rfl, k3⟩
    have k13 := k12.trans k3
    generalize hz : Tp.less B.data.toList C.data.toList = z
    cases z with
    | true =>
      have Hz := Lib.hid hz
      clear hz
      go_wp2_with fail
      refine (less_any A C _ (by omega) (by omega)).mono ?_
      rintro e w4 ⟨rfl, k4⟩
      have k14 := k13.trans k4
      rw [Tp.less_trans Hx.out Hz.out]
      go_wp2_with fail
      refine (fin _ k14).mono ?_
      rintro e w5 ⟨rfl, k5⟩
      go_wp2_with fail
      go_ret
      exact ⟨rfl, k5⟩
    | false =>
      clear hz
      go_wp2_with fail
      refine (fin _ k13).mono ?_
      rintro e w5 ⟨rfl, k5⟩
      go_wp2_with fail
      go_ret
      exact ⟨rfl, k5⟩
  · have hab2 : (A.toList != B.toList) = true := by simp [bne, hab]
    go_wp2_with fail
    refine (fin _ k12).mono ?_
    rintro e w3 ⟨rfl, k3⟩
    go_wp2_with fail
    go_ret
    exact ⟨rfl, k3⟩
end Go.Proofs.Ytlgjnngacganmaa
