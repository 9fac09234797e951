/-
  The walk of layer 2's fixed calls.
-/
import Derived.Test.YthkfkcjhmhjocaaDoorKrows
namespace Go.Proofs.YthkfkcjhmhjocaaDoor
open Go.ChangeShapes Go.WideShapes Go.ChangeAt Go.RowKit

theorem open_to (l : List UInt8) (a : Int) (r : List UInt8 × Nat × Nat) (w : World) (hs : l.length ≤ 1000) (h1 : -9223372036854775808 ≤ a) (h2 : a ≤ 9223372036854775807) (hT : Tab w) (h : Ck.open_ l a = r) :
    Calls Tryd.prog 18 #[.string ⟨l.toArray⟩, .int .i64 a] w fun e w' => e = .returned (tups r) ∧ Kept w w' := by
  subst h
  exact open_any ⟨l.toArray⟩ a w (by show l.toArray.size ≤ _; rw [List.size_toArray]; omega) h1 h2 hT
theorem seal_to (l m : List UInt8) (w : World) (hs : l.length ≤ 1000) (hT : Tab w) (h : Ck.seal_ l = m) :
    Calls Tryd.prog 15 #[.string ⟨l.toArray⟩] w fun e w' => e = .returned (str m) ∧ Kept w w' := by
  subst h
  exact seal_any ⟨l.toArray⟩ w (by show l.toArray.size ≤ _; rw [List.size_toArray]; omega) hT
theorem sum_to (l : List UInt8) (n : Nat) (w : World) (hs : l.length ≤ 1000) (h : Ck.sum l = n) :
    Calls Tryd.prog 11 #[.string ⟨l.toArray⟩] w fun e w' => e = .returned (.int .u32 n) ∧ Kept w w' := by
  subst h
  exact sum_any ⟨l.toArray⟩ w (by show l.toArray.size ≤ _; rw [List.size_toArray]; unfold maxLen; omega)
theorem add_to (k : Nat) (l : List UInt8) (n : Nat) (w : World) (hk : k < 4294967296) (hs : l.length ≤ 1000) (h : Ck.add k l = n) :
    Calls Tryd.prog 13 #[.int .u32 k, .string ⟨l.toArray⟩] w fun e w' => e = .returned (.int .u32 n) ∧ Kept w w' := by
  subst h
  exact add_any k ⟨l.toArray⟩ w hk (by show l.toArray.size ≤ _; rw [List.size_toArray]; unfold maxLen; omega)
theorem all_to (l : List UInt8) (xs : List (List UInt8)) (t : Nat) (w : World) (hs : l.length ≤ 1000) (hT : Tab w) (h : Ck.all_ l = (xs, t)) :
    Calls Tryd.prog 20 #[.string ⟨l.toArray⟩] w fun e w' => ∃ v, e = .returned (.tuple #[v, .int .i64 t]) ∧ OwnS w' w.heap.size v xs ∧ Kept w w' := by
  have := all_any ⟨l.toArray⟩ w (by show l.toArray.size ≤ _; rw [List.size_toArray]; omega) hT
  rw [show (ByteArray.mk l.toArray).data.toList = l from rfl, h] at this
  exact this
theorem two_strs (w : World) : Strs (w.alloc (.cells #[.string ⟨#[97, 98]⟩, .string ⟨#[97, 98]⟩] 9)) (.slice (some ⟨w.heap.size, 0, none⟩) 2 2) [[97, 98], [97, 98]] := by
  refine ⟨_, 2, rfl, by decide, by decide, .inr ⟨w.heap.size, 0, rfl, by simp, fun i x hx => ?_⟩⟩
  rw [World.cell?_alloc_at _ _ _ _ rfl]
  match i, hx with
  | 0, hx => simp at hx; subst hx; rfl
  | 1, hx => simp at hx; subst hx; rfl

set_option maxHeartbeats 2000000 in
set_option maxRecDepth 100000 in
theorem fixed2_any (w : World) (hT : Tab w) : Calls Tryd.prog 17 #[] w fun e w' => e = .returned (.bool true) ∧ Kept w w' := by
  go_enter Tryd.func17, Tryd.ntmps17
  go_wp2_with fail
  refine (seal_to [97, 98] [2, 97, 98, 109, 72, 131, 158] _ (by decide) hT (by decide +kernel)).mono ?_
  rintro e w1 ⟨rfl, k1⟩
  have t1 := hT.kept k1
  unfold str
  go_wp2_with fail
  refine (open_to [122, 2, 97, 98, 109, 72, 131, 158] 1 ([97, 98], 8, 0) _ (by decide) (by decide) (by decide) t1 (by decide +kernel)).mono ?_
  rintro e w2 ⟨rfl, k2⟩
  have t2 := t1.kept k2
  unfold tups str
  go_wp2_with fail
  refine (open_to [2, 97, 98, 0, 0, 0, 0] 0 ([], 0, 5) _ (by decide) (by decide) (by decide) t2 (by decide +kernel)).mono ?_
  rintro e w3 ⟨rfl, k3⟩
  have t3 := t2.kept k3
  unfold tups str
  go_wp2_with fail
  refine (open_to [2, 97, 98, 0] 0 ([], 0, 3) _ (by decide) (by decide) (by decide) t3 (by decide +kernel)).mono ?_
  rintro e w4 ⟨rfl, k4⟩
  have t4 := t3.kept k4
  unfold tups str
  go_wp2_with fail
  refine (open_to [] 1 ([], 0, 1) _ (by decide) (by decide) (by decide) t4 (by decide +kernel)).mono ?_
  rintro e w5 ⟨rfl, k5⟩
  have t5 := t4.kept k5
  unfold tups str
  go_wp2_with fail
  refine (all_to [2, 97, 98, 109, 72, 131, 158, 2, 97, 98, 109, 72, 131, 158, 2] [[97, 98], [97, 98]] 14 _ (by decide) t5 (by decide +kernel)).mono ?_
  rintro e w6 ⟨v, rfl, o6, k6⟩
  go_wp2_with fail
  refine (sum_to [49, 50, 51, 52, 53, 54, 55, 56, 57] 3421780262 _ (by decide) (by decide +kernel)).mono ?_
  rintro e w7 ⟨rfl, k7⟩
  go_wp2_with fail
  refine (sum_to [] 0 _ (by decide) (by decide +kernel)).mono ?_
  rintro e w8 ⟨rfl, k8⟩
  go_wp2_with fail
  refine (sum_to [49, 50, 51, 52] 2615402659 _ (by decide) (by decide +kernel)).mono ?_
  rintro e w9 ⟨rfl, k9⟩
  go_wp2_with fail
  refine (add_to 2615402659 [53, 54, 55, 56, 57] 3421780262 _ (by decide) (by decide) (by decide +kernel)).mono ?_
  rintro e w10 ⟨rfl, k10⟩
  have o10 := ((((o6.kept k7).kept k8).kept k9).kept k10).strs
  go_wp2_with fail
  refine (same_any _ _ [[97, 98], [97, 98]] [[97, 98], [97, 98]] _ (o10.kept (Kept.alloc (Kept.refl _) _)) (two_strs _)).mono ?_
  rintro e w11 ⟨rfl, k11⟩
  rw [show (([[97, 98], [97, 98]] : List (List UInt8)) == [[97, 98], [97, 98]]) = true from by decide]
  go_wp2
  go_ret
  exact ⟨rfl, ((((((((((k1.trans k2).trans k3).trans k4).trans k5).trans k6).trans k7).trans k8).trans k9).trans k10).alloc _).trans k11⟩
end Go.Proofs.YthkfkcjhmhjocaaDoor
