/-
  The walk of layer 5's fixed calls.
-/
import Derived.Test.YtlpkeimcklhdbaaOconc
namespace Go.Proofs.Ytlpkeimcklhdbaa
open Go.ChangeShapes Go.WideShapes Go.ChangeAt Go.RowKit

/-- a row that is written out -/
theorem lit_own (xs : List (List UInt8)) (w : World) (hn : xs.length ≤ 1000) : OwnS (w.alloc (.cells (xs.map str).toArray 9)) w.heap.size (.slice (some ⟨w.heap.size, 0, none⟩) xs.length xs.length) xs :=
  World.ownsRow_lit w (xs.map str).toArray xs.length (Nat.le_refl _) (by unfold maxLen; omega) (by simp)

theorem Least_to (v : Value) (xs ys : List (List UInt8)) (w : World) (hS : Strs w v xs) (hl : xs.length ≤ 1000) (hs : ∀ x ∈ xs, x.length ≤ 1000) (h : Tp.least xs = ys) :
    Calls Try.prog 12 #[v] w fun e w' => ∃ v', e = .returned v' ∧ OwnS w' w.heap.size v' ys ∧ Kept w w' := by
  subst h; exact Least_any v xs w hS hl hs
theorem Diff_to (v1 v2 : Value) (xs ys cs gs : List (List UInt8)) (w : World) (hS1 : Strs w v1 xs) (hS2 : Strs w v2 ys) (lx : xs.length ≤ 1000) (ly : ys.length ≤ 1000) (sx : ∀ x ∈ xs, x.length ≤ 1000) (sy : ∀ x ∈ ys, x.length ≤ 1000) (h1 : Tp.wout (Tp.clean ys) (Tp.clean xs) = cs) (h2 : Tp.wout (Tp.clean xs) (Tp.clean ys) = gs) :
    Calls Try.prog 17 #[v1, v2] w fun e w' => ∃ c g, e = .returned (.tuple #[c, g]) ∧ OwnS w' w.heap.size c cs ∧ OwnS w' w.heap.size g gs ∧ Kept w w' := by
  subst h1; subst h2; exact Diff_any v1 v2 xs ys w hS1 hS2 lx ly sx sy
theorem Lets_to (v : Value) (xs : List (List UInt8)) (t : List UInt8) (b : Bool) (w : World) (hS : Strs w v xs) (hl : xs.length ≤ 1000) (hs : ∀ x ∈ xs, x.length ≤ 1000) (ht : t.length ≤ 1000) (h : Tp.lets xs t = b) :
    Calls Try.prog 19 #[v, .string ⟨t.toArray⟩] w fun e w' => e = .returned (.bool b) ∧ Kept w w' := by
  subst h; exact Lets_any v xs ⟨t.toArray⟩ w hS hl hs (by show t.toArray.size ≤ _; rw [List.size_toArray]; omega)
theorem Holds_to (v : Value) (xs : List (List UInt8)) (t : List UInt8) (b : Bool) (w : World) (hS : Strs w v xs) (hl : xs.length ≤ 1000) (hs : ∀ x ∈ xs, x.length ≤ 1000) (ht : t.length ≤ 1000) (h : Tp.holds xs t = b) :
    Calls Try.prog 21 #[v, .string ⟨t.toArray⟩] w fun e w' => e = .returned (.bool b) ∧ Kept w w' := by
  subst h; exact Holds_any v xs ⟨t.toArray⟩ w hS hl hs (by show t.toArray.size ≤ _; rw [List.size_toArray]; omega)
theorem Join_to (v1 v2 : Value) (xs ys zs : List (List UInt8)) (b1 b2 : Nat) (w : World) (h1 : OwnS w b1 v1 xs) (h2 : OwnS w b2 v2 ys) (lx : xs.length ≤ 400) (ly : ys.length ≤ 400) (sx : ∀ x ∈ xs, x.length ≤ 1000) (sy : ∀ x ∈ ys, x.length ≤ 1000) (h : Tp.least (xs ++ ys) = zs) :
    Calls Try.prog 14 #[v1, v2] w fun e w' => ∃ v', e = .returned v' ∧ OwnS w' w.heap.size v' zs ∧ Kept w w' := by
  subst h; exact Join_any v1 v2 xs ys b1 b2 w h1 h2 lx ly sx sy
theorem same_to (v1 v2 : Value) (xs ys : List (List UInt8)) (b : Bool) (w : World) (h1 : Strs w v1 xs) (h2 : Strs w v2 ys) (h : (xs == ys) = b) :
    Calls Try.prog 11 #[v1, v2] w fun e w' => e = .returned (.bool b) ∧ Kept w w' := by
  subst h; exact same_any v1 v2 xs ys w h1 h2
theorem nil_strs (w : World) : Strs w (.slice none 0 0) [] := ⟨none, 0, rfl, Nat.le_refl _, Nat.zero_le _, .inl rfl⟩

set_option maxHeartbeats 4000000 in
set_option maxRecDepth 100000 in
theorem fixed5_any (w : World) : Calls Try.prog 16 #[] w fun e w' => e = .returned (.bool true) ∧ Kept w w' := by
  go_enter Try.func16, Try.ntmps16
  go_wp2_with fail
  have l1 := lit_own [[97], [99], [99]] w (by decide)
  have l2 := lit_own [[99], [98], [63]] (w.alloc (.cells ([[97], [99], [99]].map str).toArray 9)) (by decide)
  rw [World.size_alloc] at l2
  have k0 : Kept w ((w.alloc (.cells ([[97], [99], [99]].map str).toArray 9)).alloc (.cells ([[99], [98], [63]].map str).toArray 9)) := Kept.alloc (Kept.alloc (Kept.refl w) _) _
  refine (Diff_to _ _ [[97], [99], [99]] [[99], [98], [63]] [[98]] [[97]] _ (l1.kept (Kept.alloc (Kept.refl _) _)).strs l2.strs (by decide) (by decide) (by decide) (by decide) (by decide +kernel) (by decide +kernel)).mono ?_
  rintro e w1 ⟨c, g, rfl, oc, og, k1⟩
  replace k1 : Kept w w1 := k0.trans k1
  have OC := Lib.hid oc
  have OG := Lib.hid og
  clear oc og l1 l2 k0
  go_wp2_with fail
  have l3 := lit_own [[97, 47, 98], [99], [97, 47, 43], [99], [47, 47]] w1 (by decide)
  have k2 : Kept w1 (w1.alloc (.cells ([[97, 47, 98], [99], [97, 47, 43], [99], [47, 47]].map str).toArray 9)) := Kept.alloc (Kept.refl w1) _
  refine (Least_to _ [[97, 47, 98], [99], [97, 47, 43], [99], [47, 47]] [[97, 47, 43], [99]] _ l3.strs (by decide) (by decide) (by decide +kernel)).mono ?_
  rintro e w2 ⟨u2, rfl, o2, k2'⟩
  replace k2 : Kept w1 w2 := k2.trans k2'
  clear l3 k2'
  go_wp2_with fail
  have l4 := lit_own [[97, 47, 43], [99]] w2 (by decide)
  have k3 : Kept w2 (w2.alloc (.cells ([[97, 47, 43], [99]].map str).toArray 9)) := Kept.alloc (Kept.refl w2) _
  refine (same_to _ _ _ _ true _ (o2.kept k3).strs l4.strs (by decide)).mono ?_
  rintro e w3 ⟨rfl, k3'⟩
  replace k3 : Kept w1 w3 := k2.trans (k3.trans k3')
  clear l4 o2 k3' k2
  go_wp2_with fail
  have l5 := lit_own [[43, 47, 35], [35]] w3 (by decide)
  have k4 : Kept w3 (w3.alloc (.cells ([[43, 47, 35], [35]].map str).toArray 9)) := Kept.alloc (Kept.refl w3) _
  refine (Least_to _ [[43, 47, 35], [35]] [[35]] _ l5.strs (by decide) (by decide) (by decide +kernel)).mono ?_
  rintro e w4 ⟨u4, rfl, o4, k4'⟩
  replace k4 : Kept w1 w4 := k3.trans (k4.trans k4')
  clear l5 k4' k3
  go_wp2_with fail
  have l6 := lit_own [[35]] w4 (by decide)
  have k5 : Kept w4 (w4.alloc (.cells ([[35]].map str).toArray 9)) := Kept.alloc (Kept.refl w4) _
  refine (same_to _ _ _ _ true _ (o4.kept k5).strs l6.strs (by decide)).mono ?_
  rintro e w5 ⟨rfl, k5'⟩
  replace k5 : Kept w1 w5 := k4.trans (k5.trans k5')
  clear l6 o4 k5' k4
  go_wp2_with fail
  have l7 := lit_own [[97, 47, 43]] w5 (by decide)
  have k6 : Kept w5 (w5.alloc (.cells ([[97, 47, 43]].map str).toArray 9)) := Kept.alloc (Kept.refl w5) _
  refine (Lets_to _ _ [97, 47, 98] true _ l7.strs (by decide) (by decide) (by decide) (by decide +kernel)).mono ?_
  rintro e w6 ⟨rfl, k6'⟩
  replace k6 : Kept w1 w6 := k5.trans (k6.trans k6')
  clear l7 k6' k5
  go_wp2_with fail
  refine (Lets_to _ [] [97] false _ (nil_strs w6) (by decide) (by decide) (by decide) (by decide +kernel)).mono ?_
  rintro e w7 ⟨rfl, k7'⟩
  have k7 : Kept w1 w7 := k6.trans k7'
  clear k7' k6
  go_wp2_with fail
  have l8 := lit_own [[97, 47, 35]] w7 (by decide)
  have k8 : Kept w7 (w7.alloc (.cells ([[97, 47, 35]].map str).toArray 9)) := Kept.alloc (Kept.refl w7) _
  refine (Holds_to _ _ [97, 47, 43] true _ l8.strs (by decide) (by decide) (by decide) (by decide +kernel)).mono ?_
  rintro e w8 ⟨rfl, k8'⟩
  replace k8 : Kept w1 w8 := k7.trans (k8.trans k8')
  clear l8 k8' k7
  go_wp2_with fail
  have l9 := lit_own [[97]] w8 (by decide)
  have k9 : Kept w8 (w8.alloc (.cells ([[97]].map str).toArray 9)) := Kept.alloc (Kept.refl w8) _
  refine (Holds_to _ _ [43] false _ l9.strs (by decide) (by decide) (by decide) (by decide +kernel)).mono ?_
  rintro e w9 ⟨rfl, k9'⟩
  replace k9 : Kept w1 w9 := k8.trans (k9.trans k9')
  clear l9 k9' k8
  go_wp2_with fail
  have l10 := lit_own [[98]] w9 (by decide)
  have k10 : Kept w9 (w9.alloc (.cells ([[98]].map str).toArray 9)) := Kept.alloc (Kept.refl w9) _
  refine (same_to _ _ _ _ true _ (OC.out.kept (k9.trans k10)).strs l10.strs (by decide)).mono ?_
  rintro e w10 ⟨rfl, k10'⟩
  replace k10 : Kept w1 w10 := k9.trans (k10.trans k10')
  clear l10 k10' k9
  go_wp2_with fail
  have l11 := lit_own [[97]] w10 (by decide)
  have k11 : Kept w10 (w10.alloc (.cells ([[97]].map str).toArray 9)) := Kept.alloc (Kept.refl w10) _
  refine (same_to _ _ _ _ true _ (OG.out.kept (k10.trans k11)).strs l11.strs (by decide)).mono ?_
  rintro e w11 ⟨rfl, k11'⟩
  replace k11 : Kept w1 w11 := k10.trans (k11.trans k11')
  clear l11 k11' k10 OC OG
  go_wp2_with fail
  have l12 := lit_own [[97]] w11 (by decide)
  have l13 := lit_own [[43]] (w11.alloc (.cells ([[97]].map str).toArray 9)) (by decide)
  rw [World.size_alloc] at l13
  have k12 : Kept w11 ((w11.alloc (.cells ([[97]].map str).toArray 9)).alloc (.cells ([[43]].map str).toArray 9)) := Kept.alloc (Kept.alloc (Kept.refl w11) _) _
  refine (Join_to _ _ [[97]] [[43]] [[43]] _ _ _ (l12.kept (Kept.alloc (Kept.refl _) _)) l13 (by decide) (by decide) (by decide) (by decide) (by decide +kernel)).mono ?_
  rintro e w12 ⟨u12, rfl, o12, k12'⟩
  replace k12 : Kept w1 w12 := k11.trans (k12.trans k12')
  clear l12 l13 k12' k11
  go_wp2_with fail
  have l14 := lit_own [[43]] w12 (by decide)
  have k13 : Kept w12 (w12.alloc (.cells ([[43]].map str).toArray 9)) := Kept.alloc (Kept.refl w12) _
  refine (same_to _ _ _ _ true _ (o12.kept k13).strs l14.strs (by decide)).mono ?_
  rintro e w13 ⟨rfl, k13'⟩
  have kk : Kept w w13 := k1.trans (k12.trans (k13.trans k13'))
  clear l14 o12 k13' k13 k12
  go_wp2
  go_ret
  exact ⟨rfl, kk⟩
end Go.Proofs.Ytlpkeimcklhdbaa
