/-
  The walk of fixed: the calls whose answers the document fixes.
-/
import Derived.Test.YtehcmdpnkappeaaDoorVcut
namespace Go.Proofs.YtehcmdpnkappeaaDoor
open Go.ChangeShapes Go.WideShapes Go.ChangeAt Go.RowKit

theorem get_at (l : List UInt8) (a : Int) (r : Nat × Nat × Nat) (w : World) (hs : l.length ≤ 1000) (h1 : -9223372036854775808 ≤ a) (h2 : a ≤ 9223372036854775807) (hT : Tab w) (h : vget l a = r) :
    Calls Tryd.prog 19 #[.string ⟨l.toArray⟩, .int .i64 a] w fun e w' => e = .returned (tup r) ∧ Kept w w' := by
  subst h
  exact get_any ⟨l.toArray⟩ a w (by show l.toArray.size ≤ _; rw [List.size_toArray]; unfold maxLen; omega) h1 h2 hT
theorem cut_at (l : List UInt8) (a : Int) (r : List UInt8 × Nat × Nat) (w : World) (hs : l.length ≤ 1000) (h1 : -9223372036854775808 ≤ a) (h2 : a ≤ 9223372036854775807) (hT : Tab w) (h : vcut l a = r) :
    Calls Tryd.prog 21 #[.string ⟨l.toArray⟩, .int .i64 a] w fun e w' => e = .returned (tups r) ∧ Kept w w' := by
  subst h
  exact cut_any ⟨l.toArray⟩ a w (by show l.toArray.size ≤ _; rw [List.size_toArray]; omega) h1 h2 hT
theorem put_at (n : Int) (l : List UInt8) (w : World) (h1 : 0 ≤ n) (h2 : n ≤ 18446744073709551615) (hT : Tab w) (h : Vn.vput n.toNat = l) :
    Calls Tryd.prog 11 #[.int .u64 n] w fun e w' => e = .returned (str l) ∧ Kept w w' := by
  subst h
  exact put_any n w h1 h2 hT

set_option maxHeartbeats 2000000 in
set_option maxRecDepth 100000 in
theorem fixed_any (w : World) (hT : Tab w) : Calls Tryd.prog 18 #[] w fun e w' => e = .returned (.bool true) ∧ Kept w w' := by
  go_enter Tryd.func18, Tryd.ntmps18
  go_wp2_with fail
  refine (get_at [120, 250, 1, 17, 112] 1 (70000, 5, 0) _ (by decide) (by decide) (by decide) hT (by decide +kernel)).mono ?_
  rintro e w1 ⟨rfl, k1⟩
  have t1 := hT.kept k1
  unfold tup
  go_wp2_with fail
  refine (get_at [250, 0, 0, 1] 0 (0, 0, 4) _ (by decide) (by decide) (by decide) t1 (by decide +kernel)).mono ?_
  rintro e w2 ⟨rfl, k2⟩
  have t2 := t1.kept k2
  unfold tup
  go_wp2_with fail
  refine (get_at [249, 0] 0 (0, 0, 3) _ (by decide) (by decide) (by decide) t2 (by decide +kernel)).mono ?_
  rintro e w3 ⟨rfl, k3⟩
  have t3 := t2.kept k3
  unfold tup
  go_wp2_with fail
  refine (get_at [] 1 (0, 0, 1) _ (by decide) (by decide) (by decide) t3 (by decide +kernel)).mono ?_
  rintro e w4 ⟨rfl, k4⟩
  have t4 := t3.kept k4
  unfold tup
  go_wp2_with fail
  refine (cut_at [2, 97, 98, 99] 0 ([97, 98], 3, 0) _ (by decide) (by decide) (by decide) t4 (by decide +kernel)).mono ?_
  rintro e w5 ⟨rfl, k5⟩
  have t5 := t4.kept k5
  unfold tups str
  go_wp2_with fail
  refine (cut_at [3, 97, 98] 0 ([], 0, 3) _ (by decide) (by decide) (by decide) t5 (by decide +kernel)).mono ?_
  rintro e w6 ⟨rfl, k6⟩
  have t6 := t5.kept k6
  unfold tups str
  go_wp2_with fail
  refine (cut_at [249, 247, 17] 0 ([], 0, 2) _ (by decide) (by decide) (by decide) t6 (by decide +kernel)).mono ?_
  rintro e w7 ⟨rfl, k7⟩
  have t7 := t6.kept k7
  unfold tups str
  go_wp2_with fail
  refine (put_at 240 [240] _ (by decide) (by decide) t7 (by decide +kernel)).mono ?_
  rintro e w8 ⟨rfl, k8⟩
  have t8 := t7.kept k8
  unfold str
  go_wp2_with fail
  refine (put_at 241 [241, 1] _ (by decide) (by decide) t8 (by decide +kernel)).mono ?_
  rintro e w9 ⟨rfl, k9⟩
  have t9 := t8.kept k9
  unfold str
  go_wp2_with fail
  refine (put_at 2288 [249, 0, 0] _ (by decide) (by decide) t9 (by decide +kernel)).mono ?_
  rintro e w10 ⟨rfl, k10⟩
  have t10 := t9.kept k10
  unfold str
  go_wp2_with fail
  refine (size_any 9223372036854775808 _ (by decide) (by decide) t10).mono ?_
  rintro e w11 ⟨rfl, rfl⟩
  rw [show Vn.vsz (9223372036854775808 : Int).toNat = 9 from by decide +kernel]
  go_wp2_with fail
  refine (text_any ⟨#[97, 98]⟩ _ (by decide) t10).mono ?_
  rintro e w12 ⟨rfl, k12⟩
  rw [show Vn.vput (ByteArray.mk #[97, 98]).size ++ (ByteArray.mk #[97, 98]).data.toList = [2, 97, 98] from by decide +kernel]
  unfold str
  go_wp2_with fail
  refine (less_any ⟨#[97]⟩ ⟨#[97, 98]⟩ _).mono ?_
  rintro e w13 ⟨rfl, rfl⟩
  rw [show Op.bytesLess (ByteArray.mk #[97]).toList (ByteArray.mk #[97, 98]).toList = true from by decide +kernel]
  go_wp2_with fail
  refine (less_any ⟨#[98]⟩ ⟨#[97, 98]⟩ _).mono ?_
  rintro e w14 ⟨rfl, rfl⟩
  rw [show Op.bytesLess (ByteArray.mk #[98]).toList (ByteArray.mk #[97, 98]).toList = false from by decide +kernel]
  go_wp2
  go_ret
  exact ⟨rfl, ((((((((((k1.trans k2).trans k3).trans k4).trans k5).trans k6).trans k7).trans k8).trans k9).trans k10).trans k12)⟩
end Go.Proofs.YtehcmdpnkappeaaDoor
