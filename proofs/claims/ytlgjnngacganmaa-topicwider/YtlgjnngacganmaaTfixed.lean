/-
  The walk of layer 3's fixed calls.
-/
import Derived.Test.YtlgjnngacganmaaTmatch
namespace Go.Proofs.Ytlgjnngacganmaa
open Go.ChangeShapes Go.WideShapes Go.ChangeAt Go.RowKit

theorem right_to (l : List UInt8) (b : Bool) (w : World) (hs : l.length ≤ 1000) (h : Tp.right l = b) :
    Calls Try.prog 11 #[.string ⟨l.toArray⟩] w fun e w' => e = .returned (.bool b) ∧ Kept w w' := by
  subst h
  exact right_any ⟨l.toArray⟩ w (by show l.toArray.size ≤ _; rw [List.size_toArray]; omega)
theorem filter_to (l : List UInt8) (b : Bool) (w : World) (hs : l.length ≤ 1000) (h : Tp.filter l = b) :
    Calls Try.prog 13 #[.string ⟨l.toArray⟩] w fun e w' => e = .returned (.bool b) ∧ Kept w w' := by
  subst h
  exact filter_any ⟨l.toArray⟩ w (by show l.toArray.size ≤ _; rw [List.size_toArray]; omega)
theorem match_to (l m : List UInt8) (b : Bool) (w : World) (hs : l.length ≤ 1000) (ht : m.length ≤ 1000) (h : Tp.match_ l m = b) :
    Calls Try.prog 21 #[.string ⟨l.toArray⟩, .string ⟨m.toArray⟩] w fun e w' => e = .returned (.bool b) ∧ Kept w w' := by
  subst h
  exact match_any ⟨l.toArray⟩ ⟨m.toArray⟩ w (by show l.toArray.size ≤ _; rw [List.size_toArray]; omega) (by show m.toArray.size ≤ _; rw [List.size_toArray]; omega)
theorem covers_to (l m : List UInt8) (b : Bool) (w : World) (hs : l.length ≤ 1000) (ht : m.length ≤ 1000) (h : Tp.covers l m = b) :
    Calls Try.prog 23 #[.string ⟨l.toArray⟩, .string ⟨m.toArray⟩] w fun e w' => e = .returned (.bool b) ∧ Kept w w' := by
  subst h
  exact covers_any ⟨l.toArray⟩ ⟨m.toArray⟩ w (by show l.toArray.size ≤ _; rw [List.size_toArray]; omega) (by show m.toArray.size ≤ _; rw [List.size_toArray]; omega)
theorem meet_to (l m : List UInt8) (b : Bool) (w : World) (hs : l.length ≤ 1000) (ht : m.length ≤ 1000) (h : Tp.meet l m = b) :
    Calls Try.prog 25 #[.string ⟨l.toArray⟩, .string ⟨m.toArray⟩] w fun e w' => e = .returned (.bool b) ∧ Kept w w' := by
  subst h
  exact meet_any ⟨l.toArray⟩ ⟨m.toArray⟩ w (by show l.toArray.size ≤ _; rw [List.size_toArray]; omega) (by show m.toArray.size ≤ _; rw [List.size_toArray]; omega)
theorem less_to (l m : List UInt8) (b : Bool) (w : World) (hs : l.length ≤ 1000) (ht : m.length ≤ 1000) (h : Tp.less l m = b) :
    Calls Try.prog 18 #[.string ⟨l.toArray⟩, .string ⟨m.toArray⟩] w fun e w' => e = .returned (.bool b) ∧ Kept w w' := by
  subst h
  exact less_any ⟨l.toArray⟩ ⟨m.toArray⟩ w (by show l.toArray.size ≤ _; rw [List.size_toArray]; omega) (by show m.toArray.size ≤ _; rw [List.size_toArray]; omega)
theorem levels_to (l : List UInt8) (xs : List (List UInt8)) (w : World) (hs : l.length ≤ 1000) (h : Tp.lev l = xs) :
    Calls Try.prog 16 #[.string ⟨l.toArray⟩] w fun e w' => ∃ v, e = .returned v ∧ OwnS w' w.heap.size v xs ∧ Kept w w' := by
  subst h
  exact levelsof_any ⟨l.toArray⟩ w (by show l.toArray.size ≤ _; rw [List.size_toArray]; omega)
theorem three_strs (w : World) : Strs (w.alloc (.cells #[.string ⟨#[97]⟩, .string ⟨#[]⟩, .string ⟨#[]⟩] 9)) (.slice (some ⟨w.heap.size, 0, none⟩) 3 3) [[97], [], []] := by
  refine ⟨_, 3, rfl, by decide, by decide, .inr ⟨w.heap.size, 0, rfl, by simp, fun i x hx => ?_⟩⟩
  rw [World.cell?_alloc_at _ _ _ _ rfl]
  match i, hx with
  | 0, hx => simp at hx; subst hx; rfl
  | 1, hx => simp at hx; subst hx; rfl
  | 2, hx => simp at hx; subst hx; rfl
theorem one_str (w : World) : Strs (w.alloc (.cells #[.string ⟨#[]⟩] 9)) (.slice (some ⟨w.heap.size, 0, none⟩) 1 1) [[]] := by
  refine ⟨_, 1, rfl, by decide, by decide, .inr ⟨w.heap.size, 0, rfl, by simp, fun i x hx => ?_⟩⟩
  rw [World.cell?_alloc_at _ _ _ _ rfl]
  match i, hx with
  | 0, hx => simp at hx; subst hx; rfl

set_option maxHeartbeats 4000000 in
set_option maxRecDepth 100000 in
theorem fixed3_any (w : World) : Calls Try.prog 20 #[] w fun e w' => e = .returned (.bool true) ∧ Kept w w' := by
  go_enter Try.func20, Try.ntmps20
  go_wp2_with fail
  refine (right_to [97, 47, 98, 45, 49, 47, 95] true _ (by decide) (by decide +kernel)).mono ?_
  rintro e w1 ⟨rfl, k1⟩
  go_wp2_with fail
  refine (right_to [] false _ (by decide) (by decide +kernel)).mono ?_
  rintro e w2 ⟨rfl, k2⟩
  go_wp2_with fail
  refine (right_to [97, 47, 47, 98] false _ (by decide) (by decide +kernel)).mono ?_
  rintro e w3 ⟨rfl, k3⟩
  go_wp2_with fail
  refine (right_to [97, 47, 43] false _ (by decide) (by decide +kernel)).mono ?_
  rintro e w4 ⟨rfl, k4⟩
  go_wp2_with fail
  refine (filter_to [97, 47, 43, 47, 35] true _ (by decide) (by decide +kernel)).mono ?_
  rintro e w5 ⟨rfl, k5⟩
  go_wp2_with fail
  refine (filter_to [35, 47, 97] false _ (by decide) (by decide +kernel)).mono ?_
  rintro e w6 ⟨rfl, k6⟩
  go_wp2_with fail
  refine (filter_to [97, 43] false _ (by decide) (by decide +kernel)).mono ?_
  rintro e w7 ⟨rfl, k7⟩
  go_wp2_with fail
  refine (match_to [97, 47, 43, 47, 99] [97, 47, 98, 47, 99] true _ (by decide) (by decide) (by decide +kernel)).mono ?_
  rintro e w8 ⟨rfl, k8⟩
  go_wp2_with fail
  refine (match_to [97, 47, 35] [97] true _ (by decide) (by decide) (by decide +kernel)).mono ?_
  rintro e w9 ⟨rfl, k9⟩
  go_wp2_with fail
  refine (match_to [35] [97, 47, 98] true _ (by decide) (by decide) (by decide +kernel)).mono ?_
  rintro e w10 ⟨rfl, k10⟩
  go_wp2_with fail
  refine (match_to [97, 47, 43] [97] false _ (by decide) (by decide) (by decide +kernel)).mono ?_
  rintro e w11 ⟨rfl, k11⟩
  go_wp2_with fail
  refine (match_to [97] [97, 47, 98] false _ (by decide) (by decide) (by decide +kernel)).mono ?_
  rintro e w12 ⟨rfl, k12⟩
  go_wp2_with fail
  refine (covers_to [97, 47, 35] [97, 47, 43] true _ (by decide) (by decide) (by decide +kernel)).mono ?_
  rintro e w13 ⟨rfl, k13⟩
  go_wp2_with fail
  refine (covers_to [35] [43] true _ (by decide) (by decide) (by decide +kernel)).mono ?_
  rintro e w14 ⟨rfl, k14⟩
  go_wp2_with fail
  refine (covers_to [43] [35] false _ (by decide) (by decide) (by decide +kernel)).mono ?_
  rintro e w15 ⟨rfl, k15⟩
  go_wp2_with fail
  refine (covers_to [43, 47, 35] [35] true _ (by decide) (by decide) (by decide +kernel)).mono ?_
  rintro e w16 ⟨rfl, k16⟩
  go_wp2_with fail
  refine (covers_to [97, 47, 43, 47, 35] [97, 47, 35] false _ (by decide) (by decide) (by decide +kernel)).mono ?_
  rintro e w17 ⟨rfl, k17⟩
  go_wp2_with fail
  refine (meet_to [97, 47, 43] [43, 47, 98] true _ (by decide) (by decide) (by decide +kernel)).mono ?_
  rintro e w18 ⟨rfl, k18⟩
  go_wp2_with fail
  refine (meet_to [97, 47, 43] [98, 47, 35] false _ (by decide) (by decide) (by decide +kernel)).mono ?_
  rintro e w19 ⟨rfl, k19⟩
  go_wp2_with fail
  refine (meet_to [97] [97, 47, 35] true _ (by decide) (by decide) (by decide +kernel)).mono ?_
  rintro e w20 ⟨rfl, k20⟩
  go_wp2_with fail
  refine (less_to [97] [97, 47, 98] true _ (by decide) (by decide) (by decide +kernel)).mono ?_
  rintro e w21 ⟨rfl, k21⟩
  go_wp2_with fail
  refine (less_to [97, 47, 98] [97, 98] true _ (by decide) (by decide) (by decide +kernel)).mono ?_
  rintro e w22 ⟨rfl, k22⟩
  go_wp2_with fail
  refine (levels_to [97, 47, 47] [[97], [], []] _ (by decide) (by decide +kernel)).mono ?_
  rintro e w23 ⟨v23, rfl, o23, k23⟩
  go_wp2_with fail
  refine (same_any _ _ [[97], [], []] [[97], [], []] _ (OwnS.strs (o23.kept (Kept.alloc (Kept.refl _) _))) (three_strs _)).mono ?_
  rintro e w24 ⟨rfl, k24⟩
  rw [show (([[97], [], []] : List (List UInt8)) == [[97], [], []]) = true by decide]
  have k24' := (Kept.alloc (Kept.refl w23) (.cells #[.string ⟨#[97]⟩, .string ⟨#[]⟩, .string ⟨#[]⟩] 9)).trans k24
  go_wp2_with fail
  refine (levels_to [] [[]] _ (by decide) (by decide +kernel)).mono ?_
  rintro e w25 ⟨v25, rfl, o25, k25⟩
  go_wp2_with fail
  refine (same_any _ _ [[]] [[]] _ (OwnS.strs (o25.kept (Kept.alloc (Kept.refl _) _))) (one_str _)).mono ?_
  rintro e w26 ⟨rfl, k26⟩
  rw [show (([[]] : List (List UInt8)) == [[]]) = true by decide]
  have k26' := (Kept.alloc (Kept.refl w25) (.cells #[.string ⟨#[]⟩] 9)).trans k26
  go_wp2_with fail
  go_ret
  exact ⟨rfl, ((((((((((((((((((((((((k1.trans k2).trans k3).trans k4).trans k5).trans k6).trans k7).trans k8).trans k9).trans k10).trans k11).trans k12).trans k13).trans k14).trans k15).trans k16).trans k17).trans k18).trans k19).trans k20).trans k21).trans k22).trans k23).trans k24').trans k25).trans k26'⟩
end Go.Proofs.Ytlgjnngacganmaa
