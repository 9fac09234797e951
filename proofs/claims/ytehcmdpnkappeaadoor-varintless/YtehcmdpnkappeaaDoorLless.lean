/-
  The walk of the law VarintLess.
-/
import Derived.Test.YtehcmdpnkappeaaDoorVfixed
import Derived.Test.YtehcmdpnkappeaaDoorVless
namespace Go.Proofs.YtehcmdpnkappeaaDoor
open Go.ChangeShapes Go.WideShapes Go.ChangeAt Go.RowKit

set_option maxHeartbeats 1000000 in
set_option maxRecDepth 100000 in
theorem less_walk (a b c : ByteArray) (w : World) (ha : a.size ≤ maxLen) (hb : b.size ≤ maxLen) (hc : c.size ≤ maxLen) (hT : Tab w) :
    Calls Tryd.prog 10 #[.string a, .string b, .string c] w fun e w' => e = .returned (.bool true) ∧ Kept w w' := by
  unfold maxLen at ha hb hc
  go_enter Tryd.func10, Tryd.ntmps10
  go_wp2_with fail
  have sa := cut_size a 100
  have sb := cut_size b 100
  have sc := cut_size c 100
  simp only [Int.cast_ofNat_Int] at sa sb sc
  generalize a.extract 0 (min (a.size : Int) 100).toNat = A at sa ⊢
  generalize b.extract 0 (min (b.size : Int) 100).toNat = B at sb ⊢
  generalize c.extract 0 (min (c.size : Int) 100).toNat = C at sc ⊢
  clear ha hb hc
  refine (less_any A B _).mono ?_
  rintro e w' ⟨rfl, rfl⟩
  generalize hx : Op.bytesLess A.toList B.toList = x
  have Hx := Lib.hid hx
  clear hx
  go_wp2_with fail
  refine (less_any B A _).mono ?_
  rintro e w' ⟨rfl, rfl⟩
  generalize hy : Op.bytesLess B.toList A.toList = y
  have Hy := Lib.hid hy
  clear hy
  have hcase : (x = false ∧ y = false ∧ (A.toList == B.toList) = true) ∨ (x = true ∧ y = false ∧ (A.toList == B.toList) = false) ∨ (x = false ∧ y = true ∧ (A.toList == B.toList) = false) := by
    by_cases e : A.toList = B.toList
    · refine .inl ⟨by rw [← Hx.out, e, bl_irrefl], by rw [← Hy.out, e, bl_irrefl], by simp [e]⟩
    · have h := bl_total _ _ e
      rw [Hx.out, Hy.out] at h
      rcases h with ⟨h1, h2⟩ | ⟨h1, h2⟩
      · exact .inr (.inl ⟨h1, h2, by simp [e]⟩)
      · exact .inr (.inr ⟨h1, h2, by simp [e]⟩)
  have hE : (C.toList.isEmpty = true ∧ Op.bytesLess A.toList (A ++ C).toList = false) ∨ (C.toList.isEmpty = false ∧ Op.bytesLess A.toList (A ++ C).toList = true) := by
    have h : Op.bytesLess A.toList (A ++ C).toList = !C.toList.isEmpty := by
      rw [toList_eq, toList_eq, toList_eq, ByteArray.data_append, Array.toList_append, bl_append]
    rw [h]
    cases C.toList.isEmpty <;> simp
  have HE := Lib.hid hE
  clear hE
  rcases hcase with ⟨rfl, rfl, hab⟩ | ⟨rfl, rfl, hab⟩ | ⟨rfl, rfl, hab⟩
  case' inr.inl =>
    go_wp2_with fail
    refine (less_any B C _).mono ?_
    rintro e w' ⟨rfl, rfl⟩
    generalize hz : Op.bytesLess B.toList C.toList = z
    have Hz := Lib.hid hz
    clear hz
    cases z
    case' true =>
      go_wp2_with fail
      refine (less_any A C _).mono ?_
      rintro e w' ⟨rfl, rfl⟩
      rw [bl_trans _ _ _ Hx.out Hz.out]
  all_goals
    go_wp2_with fail
    refine (less_any A (A ++ C) _).mono ?_
    rintro e w' ⟨rfl, rfl⟩
    rcases HE.out with ⟨hC, hL⟩ | ⟨hC, hL⟩
  all_goals
    rw [hL]
    clear hL
    go_wp2_with fail
    refine (fixed_any _ hT).mono ?_
    rintro e w' ⟨rfl, hk⟩
    go_wp2
    go_ret
    exact ⟨rfl, hk⟩
end Go.Proofs.YtehcmdpnkappeaaDoor
