/-
  The walk of fixed: the calls whose answers the document fixes.
-/
import Derived.Test.YtbenjenifklejaaDoorEcutw
import Derived.Test.YtbenjenifklejaaDoorEshow
import Derived.Test.YtbenjenifklejaaDoorEage
import Derived.Test.YtbenjenifklejaaDoorEref4
import Derived.Test.YtbenjenifklejaaDoorEfixr
namespace Go.Proofs.YtbenjenifklejaaDoor
open Go.ChangeShapes Go.WideShapes Go.ChangeAt Go.RowKit

def E0 : Ev.E := ⟨1, 2, ⟨#[97]⟩, ⟨#[120]⟩, 3⟩
theorem fx_put : Ev.put E0 = [1, 2, 3, 1, 97, 1, 120] := by decide +kernel
theorem fx_right : Ev.right E0 = true := by decide +kernel
theorem fx_right0 : Ev.right .zero = false := by decide +kernel
theorem fx_get1 : Ev.get [122, 1, 2, 3, 1, 97, 1, 120] 1 = (E0, 8, 0) := by kernel_rfl
theorem fx_get2 : Ev.get [1, 0, 3, 1, 97, 1, 120] 0 = (.zero, 0, 4) := by kernel_rfl
theorem fx_get3 : Ev.get [1, 2] 0 = (.zero, 0, 3) := by kernel_rfl
theorem fx_cut1 : Ev.mcut [2, 0, 5, 3, 1] 0 = ([⟨0, 5⟩, ⟨3, 1⟩], 5, 0) := by kernel_rfl
theorem fx_cut2 : Ev.mcut [2, 3, 5, 3, 1] 0 = ([], 0, 4) := by kernel_rfl
theorem fx_cut3 : Ev.mcut [33] 0 = ([], 0, 2) := by kernel_rfl
theorem fx_show : showv E0 = [49, 58, 50, 32, 97, 32, 49, 32, 51] := by decide +kernel
theorem fx_marks : Ev.mput [⟨0, 5⟩, ⟨3, 1⟩] = [2, 0, 5, 3, 1] := by decide +kernel
theorem fx_sorted : Ev.sorted [⟨0, 0⟩] = false := by decide +kernel

theorem e0_fit : Fit E0 := by constructor <;> decide
theorem put_fx (w : World) (hT : Tab w) : Calls Tryd.prog 13 #[evv E0] w fun r w' => r = .returned (.string ⟨#[1, 2, 3, 1, 97, 1, 120]⟩) ∧ Kept w w' := by
  have := evput_any E0 w e0_fit (by decide) hT
  rw [fx_put] at this
  exact this
theorem get_fx (l : List UInt8) (a : Int) (r : Ev.E × Nat × Nat) (w : World) (hl : l.length ≤ 1000) (h1 : -9223372036854775808 ≤ a) (h2 : a ≤ 9223372036854775807) (hT : Tab w) (h : Ev.get l a = r) :
    Calls Tryd.prog 22 #[.string ⟨l.toArray⟩, .int .i64 a] w fun e w' => e = .returned (tupe r) ∧ Kept w w' := by
  subst h
  exact evget_any ⟨l.toArray⟩ a w (by show l.toArray.size ≤ _; rw [List.size_toArray]; omega) h1 h2 hT
theorem cut_fx (l : List UInt8) (a : Int) (r : List Ev.M × Nat × Nat) (w : World) (hl : l.length ≤ 1000) (h1 : -9223372036854775808 ≤ a) (h2 : a ≤ 9223372036854775807) (hT : Tab w) (h : Ev.mcut l a = r) :
    Calls Tryd.prog 24 #[.string ⟨l.toArray⟩, .int .i64 a] w (CutRes w r) := by
  subst h
  exact evcut_any ⟨l.toArray⟩ a w (by show l.toArray.size ≤ _; rw [List.size_toArray]; omega) h1 h2 hT

theorem eq_fx (av : Option Addr) (cap : Nat) (W : World) (h : MkS W av cap [⟨0, 5⟩, ⟨3, 1⟩]) :
    Calls Tryd.prog 26 #[.slice av 2 cap, .slice (some ⟨W.heap.size, 0, none⟩) 2 2] (W.alloc (.cells #[.int .i64 0, .int .i64 5, .int .i64 3, .int .i64 1] 59)) fun r w' => r = .returned (.bool true) ∧ Kept W w' := by
  have kW : Kept W (W.alloc (.cells #[.int .i64 0, .int .i64 5, .int .i64 3, .int .i64 1] 59)) := (Kept.refl W).alloc _
  have bW := Blk.made W #[.int .i64 0, .int .i64 5, .int .i64 3, .int .i64 1] 59
  have h2 : MkS (W.alloc (.cells #[.int .i64 0, .int .i64 5, .int .i64 3, .int .i64 1] 59)) (some ⟨W.heap.size, 0, none⟩) 2 [⟨0, 5⟩, ⟨3, 1⟩] := by
    refine ⟨by simp, by decide, fun m hm => ?_, .inr ⟨W.heap.size, 0, rfl, bW.lt, fun i m hm => ?_⟩⟩
    · simp only [List.mem_cons, List.not_mem_nil, or_false] at hm
      rcases hm with rfl | rfl <;> unfold mfit <;> decide
    · rw [bW.cell, bW.cell]
      match i, hm with
      | 0, hm => cases hm; exact ⟨rfl, rfl⟩
      | 1, hm => cases hm; exact ⟨rfl, rfl⟩
      | i + 2, hm => simp at hm
  exact (equal_any av (some ⟨W.heap.size, 0, none⟩) cap 2 [⟨0, 5⟩, ⟨3, 1⟩] _ (h.kept kW) h2).mono fun _ _ ⟨h, k⟩ => ⟨h, kW.trans k⟩
theorem right_fx (W : World) : Calls Tryd.prog 11 #[.agg #[.int .i64 1, .int .i64 2, .string ⟨#[97]⟩, .string ⟨#[120]⟩, .int .i64 3]] W fun r w' => r = .returned (.bool true) ∧ Kept W w' := by
  have := evright_any E0 W e0_fit
  rw [fx_right] at this
  exact this
theorem right0_fx (W : World) : Calls Tryd.prog 11 #[.agg #[.int .i64 0, .int .i64 0, .string ⟨#[]⟩, .string ⟨#[]⟩, .int .i64 0]] W fun r w' => r = .returned (.bool false) ∧ Kept W w' := by
  have := evright_any .zero W (by constructor <;> decide)
  rw [fx_right0] at this
  exact this
theorem age_fx (n d : Int) (h1 : -9223372036854775808 ≤ n) (h2 : n ≤ 9223372036854775807) (h : Ev.age E0 n = { E0 with d := d }) (W : World) :
    Calls Tryd.prog 17 #[.agg #[.int .i64 1, .int .i64 2, .string ⟨#[97]⟩, .string ⟨#[120]⟩, .int .i64 3], .int .i64 n] W fun r w' => r = .returned (.agg #[.int .i64 1, .int .i64 2, .string ⟨#[97]⟩, .string ⟨#[120]⟩, .int .i64 d]) ∧ Kept W w' := by
  have := age_any E0 n W e0_fit h1 h2
  rw [h] at this
  exact this
theorem same_fx (W : World) : Calls Tryd.prog 19 #[.agg #[.int .i64 1, .int .i64 2, .string ⟨#[97]⟩, .string ⟨#[120]⟩, .int .i64 3], .agg #[.int .i64 1, .int .i64 2, .string ⟨#[97]⟩, .string ⟨#[120]⟩, .int .i64 2]] W fun r w' => r = .returned (.bool true) ∧ Kept W w' := by
  have := same_ev E0 { E0 with d := 2 } W
  rw [show Ev.same E0 { E0 with d := 2 } = true from by simp [Ev.same]] at this
  exact this
theorem show_fx (W : World) (hP : P10 W) : Calls Tryd.prog 15 #[.agg #[.int .i64 1, .int .i64 2, .string ⟨#[97]⟩, .string ⟨#[120]⟩, .int .i64 3]] W fun r w' => r = .returned (.string ⟨#[49, 58, 50, 32, 97, 32, 49, 32, 51]⟩) ∧ Kept W w' := by
  have := show_any E0 W e0_fit (by decide) hP
  rw [fx_show] at this
  exact this
theorem marks_fx (av : Option Addr) (cap : Nat) (W : World) (h : MkS W av cap [⟨0, 5⟩, ⟨3, 1⟩]) (hT : Tab W) : Calls Tryd.prog 29 #[.slice av 2 cap] W fun r w' => r = .returned (.string ⟨#[2, 0, 5, 3, 1]⟩) ∧ Kept W w' := by
  have := marks_any av cap [⟨0, 5⟩, ⟨3, 1⟩] W h hT
  rw [fx_marks] at this
  exact this
theorem sorted_fx (W : World) : Calls Tryd.prog 27 #[.slice (some ⟨W.heap.size, 0, none⟩) 1 1] (W.alloc (.cells #[.int .i64 0, .int .i64 0] 59)) fun r w' => r = .returned (.bool false) ∧ Kept W w' := by
  have kW : Kept W (W.alloc (.cells #[.int .i64 0, .int .i64 0] 59)) := (Kept.refl W).alloc _
  have bW := Blk.made W #[.int .i64 0, .int .i64 0] 59
  have h2 : MkS (W.alloc (.cells #[.int .i64 0, .int .i64 0] 59)) (some ⟨W.heap.size, 0, none⟩) 1 [⟨0, 0⟩] := by
    refine ⟨by simp, by decide, fun m hm => ?_, .inr ⟨W.heap.size, 0, rfl, bW.lt, fun i m hm => ?_⟩⟩
    · simp only [List.mem_cons, List.not_mem_nil, or_false] at hm
      subst hm
      unfold mfit
      decide
    · rw [bW.cell, bW.cell]
      match i, hm with
      | 0, hm => cases hm; exact ⟨rfl, rfl⟩
      | i + 1, hm => simp at hm
  have := sorted_any (some ⟨W.heap.size, 0, none⟩) 1 [⟨0, 0⟩] _ h2
  rw [fx_sorted] at this
  exact this.mono fun _ _ ⟨h, k⟩ => ⟨h, kW.trans k⟩

set_option maxHeartbeats 2000000 in
set_option maxRecDepth 100000 in
theorem fixed_ev (w : World) (hT : Tab w) (hP : P10 w) : Calls Tryd.prog 21 #[] w fun e w' => e = .returned (.bool true) ∧ Kept w w' := by
  have HT := Lib.hid hT
  have HP := Lib.hid hP
  clear hT hP
  go_enter Tryd.func21, Tryd.ntmps21
  go_wp2_with fail
  have bE := Blk.made w (evc E0) 23
  have k0 : Kept w (w.alloc (.cells (evc E0) 23)) := (Kept.refl w).alloc _
  refine (put_fx _ (HT.out.kept k0)).mono ?_
  rintro r w1 ⟨rfl, k1⟩
  have k01 := k0.trans k1
  go_wp2_with fail
  refine (get_fx [122, 1, 2, 3, 1, 97, 1, 120] 1 _ _ (by decide) (by decide) (by decide) (HT.out.kept k01) fx_get1).mono ?_
  rintro r w2 ⟨rfl, k2⟩
  have k02 := k01.trans k2
  have bE2 := (bE.kept k1).kept k2
  simp only [tupe, evv, E0]
  clear k1 k2 k01 bE k0
  go_wp2_with fail
  have k03 := k02.alloc (.cells (evc E0) 23)
  have bE3 := bE2.alloc (.cells (evc E0) 23)
  have bX3 := Blk.made w2 (evc E0) 23
  have kx : Kept w2 (w2.alloc (.cells (evc E0) 23)) := (Kept.refl w2).alloc _
  refine (get_fx [1, 0, 3, 1, 97, 1, 120] 0 _ _ (by decide) (by decide) (by decide) (HT.out.kept k03) fx_get2).mono ?_
  rintro r w3 ⟨rfl, k3⟩
  have k04 := k03.trans k3
  have bE4 := bE3.kept k3
  have bX4 := bX3.kept k3
  have hlt : w2.heap.size < w3.heap.size := bX4.lt
  simp only [tupe, evv, Ev.E.zero]
  clear k3 k03 bE3 bX3 bE2 k02 kx
  go_wp2_with fail
  have k05 := k04.alloc (.cells (evc .zero) 23)
  have bE5 := bE4.alloc (.cells (evc .zero) 23)
  have bX5 := bX4.alloc (.cells (evc .zero) 23)
  refine (get_fx [1, 2] 0 _ _ (by decide) (by decide) (by decide) (HT.out.kept k05) fx_get3).mono ?_
  rintro r w4 ⟨rfl, k4⟩
  have k06 := k05.trans k4
  have bE6 := bE5.kept k4
  have bX6 := bX5.kept k4
  simp only [tupe, evv, Ev.E.zero]
  clear k4 k05 bE5 bX5 bE4 bX4 k04
  go_wp2_with fail
  have k07 := k06.alloc (.cells (evc .zero) 23)
  have bE7 := bE6.alloc (.cells (evc .zero) 23)
  have bX7 := bX6.alloc (.cells (evc .zero) 23)
  refine (cut_fx [2, 0, 5, 3, 1] 0 _ _ (by decide) (by decide) (by decide) (HT.out.kept k07) fx_cut1).mono ?_
  rintro r w5 ⟨av, cap, rfl, m5, k5⟩
  have k08 := k07.trans k5
  have bE8 := bE7.kept k5
  have bX8 := bX7.kept k5
  have hcap := m5.cap1
  have hcap2 := m5.cap2
  simp only [List.length_cons, List.length_nil, Nat.zero_add, Nat.reduceAdd] at hcap
  have M5 := Lib.hid m5
  simp only [List.length_cons, List.length_nil, Nat.zero_add, Nat.reduceAdd]
  clear k5 k07 bE7 bX7 bE6 bX6 k06 m5
  go_wp2_with fail
  refine (cut_fx [2, 3, 5, 3, 1] 0 _ _ (by decide) (by decide) (by decide) (HT.out.kept k08) fx_cut2).mono ?_
  rintro r w6 ⟨av6, cap6, rfl, _, k6⟩
  have k09 := k08.trans k6
  have bE9 := bE8.kept k6
  have bX9 := bX8.kept k6
  have M6 := Lib.hid (M5.out.kept k6)
  simp only [List.length_nil]
  clear k6 k08 bE8 bX8 M5
  go_wp2_with fail
  refine (cut_fx [33] 0 _ _ (by decide) (by decide) (by decide) (HT.out.kept k09) fx_cut3).mono ?_
  rintro r w7 ⟨av7, cap7, rfl, _, k7⟩
  have k10 := k09.trans k7
  have bE10 := bE9.kept k7
  have bX10 := bX9.kept k7
  have M7 := Lib.hid (M6.out.kept k7)
  simp only [List.length_nil]
  clear k7 k09 bE9 bX9 M6
  have BE := Lib.hid bE10
  have BX := Lib.hid bX10
  have HT7 := Lib.hid (HT.out.kept k10)
  have HP7 := Lib.hid (HP.out.kept k10)
  have K7 := Lib.hid k10
  clear bE10 bX10 k10
  have key : ∀ w', Kept w7 w' → FCells w.heap.size w2.heap.size w' := fun w' k =>
    ⟨⟨((BE.out.kept k).cell 0).trans rfl, ((BE.out.kept k).cell 1).trans rfl, ((BE.out.kept k).cell 2).trans rfl, ((BE.out.kept k).cell 3).trans rfl, ((BE.out.kept k).cell 4).trans rfl⟩,
      ((BX.out.kept k).cell 0).trans rfl, ((BX.out.kept k).cell 1).trans rfl, ((BX.out.kept k).cell 2).trans rfl, ((BX.out.kept k).cell 3).trans rfl, ((BX.out.kept k).cell 4).trans rfl⟩
  have KEY := Lib.hid key
  have k7 : Kept w7 w7.drew := (Kept.refl w7).drew
  clear key
  go_wp2_with fail
  rename_i K hK
  refine regF (R := w.heap.size) (X := w2.heap.size) (cap := cap) (av := av) rfl (fun _ _ _ _ _ h => h) rfl rfl rfl rfl rfl rfl rfl rfl rfl rfl rfl rfl rfl rfl (KEY.out _ k7) ?_
  refine (eq_fx av cap _ (M7.out.kept k7)).mono ?_
  rintro r w8 ⟨rfl, k8'⟩
  have k8 : Kept w7 w8 := k7.trans k8'
  refine ⟨rfl, KEY.out _ k8, ?_⟩
  refine (right_fx _ ).mono ?_
  rintro r w9 ⟨rfl, k9'⟩
  have k9 : Kept w7 w9 := k8.trans k9'
  refine ⟨rfl, KEY.out _ k9, ?_⟩
  refine (right0_fx _ ).mono ?_
  rintro r w10 ⟨rfl, k10'⟩
  have k10 : Kept w7 w10 := k9.trans k10'
  refine ⟨rfl, KEY.out _ k10, ?_⟩
  refine (age_fx 2 1 (by decide) (by decide) rfl _ ).mono ?_
  rintro r w11 ⟨rfl, k11'⟩
  have k11 : Kept w7 w11 := k10.trans k11'
  refine ⟨rfl, KEY.out _ k11, ?_⟩
  refine (age_fx 9 0 (by decide) (by decide) rfl _ ).mono ?_
  rintro r w12 ⟨rfl, k12'⟩
  have k12 : Kept w7 w12 := k11.trans k12'
  refine ⟨rfl, KEY.out _ k12, ?_⟩
  refine (age_fx (-1) 3 (by decide) (by decide) rfl _ ).mono ?_
  rintro r w13 ⟨rfl, k13'⟩
  have k13 : Kept w7 w13 := k12.trans k13'
  refine ⟨rfl, KEY.out _ k13, ?_⟩
  refine (age_fx 1 2 (by decide) (by decide) rfl _ ).mono ?_
  rintro r w14 ⟨rfl, k14'⟩
  have k14 : Kept w7 w14 := k13.trans k14'
  refine ⟨rfl, KEY.out _ k14, ?_⟩
  refine (same_fx _ ).mono ?_
  rintro r w15 ⟨rfl, k15'⟩
  have k15 : Kept w7 w15 := k14.trans k15'
  refine ⟨rfl, KEY.out _ k15, ?_⟩
  refine (show_fx _ (HP7.out.kept k15)).mono ?_
  rintro r w16 ⟨rfl, k16'⟩
  have k16 : Kept w7 w16 := k15.trans k16'
  refine ⟨rfl, KEY.out _ k16, ?_⟩
  refine (marks_fx av cap _ (M7.out.kept k16) (HT7.out.kept k16)).mono ?_
  rintro r w17 ⟨rfl, k17'⟩
  have k17 : Kept w7 w17 := k16.trans k17'
  refine ⟨rfl, KEY.out _ k17, ?_⟩
  refine (sorted_fx _ ).mono ?_
  rintro r w18 ⟨rfl, k18'⟩
  have k18 : Kept w7 w18 := k17.trans k18'
  refine ⟨rfl, KEY.out _ k18, ?_⟩
  intro b hb hd
  refine hK _ _ ?_
  have hv : b.tmps.getD 0 undef = .bool true := by rw [Array.getD_eq_getD_getElem?, hb]; rfl
  have hr : (results Tryd.f21 b.tmps).run Tryd.prog w18 = .ok (.bool true) w18 := by rw [← hv]; exact results_tmp rfl _ _ _
  have hpost : Ending.returned (.bool true) = .returned (.bool true) ∧ Kept w w18 := ⟨rfl, K7.out.trans k18⟩
  exact wp_ret (bodyPost_ret hr hd hpost)
end Go.Proofs.YtbenjenifklejaaDoor
